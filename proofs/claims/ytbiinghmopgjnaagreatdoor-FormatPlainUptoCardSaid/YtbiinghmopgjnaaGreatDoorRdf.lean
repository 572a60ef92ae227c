/- The chapter's examples as strconv reads them: five short texts. -/
import Derived.Test.YtbiinghmopgjnaaGreatDoorDig
import Derived.LoopN
namespace Go.Proofs.YtbiinghmopgjnaaGreatDoor.Cal
open Go.RowKit

set_option maxRecDepth 100000 in
set_option maxHeartbeats 1000000 in
theorem read_7 (w : World) :
    Calls Tryz.prog 212 #[.string { data := #[55] }] w fun e w' => e = .returned (.tuple #[.int .u64 7, .int .i64 0, .bool false, .bool false, .bool false, .int .i64 1, .bool true]) ∧ w = w' := by
  have h0 : ({ data := #[55] } : ByteArray)[0].toNat = 55 := rfl
  go_enter Tryz.func212, Tryz.ntmps212
  go_wp2
  go_step3
  go_wp2
  go_step3
  go_wp2
  refine wp_loop_rounds 2 ?_
  rw [rounds_succ]
  go_wp2
  rw [rounds_succ]
  go_wp2
  rw [Exit.noGoto_ret]
  exact bodyPost_ret (v := .tuple #[.int .u64 7, .int .i64 0, .bool false, .bool false, .bool false, .int .i64 1, .bool true]) (by simp [results, Tryz.results212, go_sem]) rfl ⟨rfl, rfl⟩
set_option maxRecDepth 100000 in
set_option maxHeartbeats 1000000 in
theorem read_2 (w : World) :
    Calls Tryz.prog 212 #[.string { data := #[50] }] w fun e w' => e = .returned (.tuple #[.int .u64 2, .int .i64 0, .bool false, .bool false, .bool false, .int .i64 1, .bool true]) ∧ w = w' := by
  have h0 : ({ data := #[50] } : ByteArray)[0].toNat = 50 := rfl
  go_enter Tryz.func212, Tryz.ntmps212
  go_wp2
  go_step3
  go_wp2
  go_step3
  go_wp2
  refine wp_loop_rounds 2 ?_
  rw [rounds_succ]
  go_wp2
  rw [rounds_succ]
  go_wp2
  rw [Exit.noGoto_ret]
  exact bodyPost_ret (v := .tuple #[.int .u64 2, .int .i64 0, .bool false, .bool false, .bool false, .int .i64 1, .bool true]) (by simp [results, Tryz.results212, go_sem]) rfl ⟨rfl, rfl⟩
set_option maxRecDepth 100000 in
set_option maxHeartbeats 1000000 in
theorem read_1 (w : World) :
    Calls Tryz.prog 212 #[.string { data := #[49] }] w fun e w' => e = .returned (.tuple #[.int .u64 1, .int .i64 0, .bool false, .bool false, .bool false, .int .i64 1, .bool true]) ∧ w = w' := by
  have h0 : ({ data := #[49] } : ByteArray)[0].toNat = 49 := rfl
  go_enter Tryz.func212, Tryz.ntmps212
  go_wp2
  go_step3
  go_wp2
  go_step3
  go_wp2
  refine wp_loop_rounds 2 ?_
  rw [rounds_succ]
  go_wp2
  rw [rounds_succ]
  go_wp2
  rw [Exit.noGoto_ret]
  exact bodyPost_ret (v := .tuple #[.int .u64 1, .int .i64 0, .bool false, .bool false, .bool false, .int .i64 1, .bool true]) (by simp [results, Tryz.results212, go_sem]) rfl ⟨rfl, rfl⟩
set_option maxRecDepth 100000 in
set_option maxHeartbeats 1000000 in
theorem read_15 (w : World) :
    Calls Tryz.prog 212 #[.string { data := #[49, 46, 53] }] w fun e w' => e = .returned (.tuple #[.int .u64 15, .int .i64 (-1), .bool false, .bool false, .bool false, .int .i64 3, .bool true]) ∧ w = w' := by
  have h0 : ({ data := #[49, 46, 53] } : ByteArray)[0].toNat = 49 := rfl
  have h1 : ({ data := #[49, 46, 53] } : ByteArray)[1].toNat = 46 := rfl
  have h2 : ({ data := #[49, 46, 53] } : ByteArray)[2].toNat = 53 := rfl
  go_enter Tryz.func212, Tryz.ntmps212
  go_wp2
  go_step3
  go_wp2
  go_step3
  go_wp2
  refine wp_loop_rounds 4 ?_
  rw [rounds_succ]
  go_wp2
  rw [rounds_succ]
  go_wp2
  rw [rounds_succ]
  go_wp2
  rw [rounds_succ]
  go_wp2
  rw [Exit.noGoto_ret]
  exact bodyPost_ret (v := .tuple #[.int .u64 15, .int .i64 (-1), .bool false, .bool false, .bool false, .int .i64 3, .bool true]) (by simp [results, Tryz.results212, go_sem]) rfl ⟨rfl, rfl⟩
set_option maxRecDepth 100000 in
set_option maxHeartbeats 1000000 in
theorem read_m0 (w : World) :
    Calls Tryz.prog 212 #[.string { data := #[45, 48] }] w fun e w' => e = .returned (.tuple #[.int .u64 0, .int .i64 0, .bool true, .bool false, .bool false, .int .i64 2, .bool true]) ∧ w = w' := by
  have h0 : ({ data := #[45, 48] } : ByteArray)[0].toNat = 45 := rfl
  have h1 : ({ data := #[45, 48] } : ByteArray)[1].toNat = 48 := rfl
  go_enter Tryz.func212, Tryz.ntmps212
  go_wp2
  go_step3
  go_wp2
  go_step3
  go_wp2
  refine wp_loop_rounds 2 ?_
  rw [rounds_succ]
  go_wp2
  rw [rounds_succ]
  go_wp2
  rw [Exit.noGoto_ret]
  exact bodyPost_ret (v := .tuple #[.int .u64 0, .int .i64 0, .bool true, .bool false, .bool false, .int .i64 2, .bool true]) (by simp [results, Tryz.results212, go_sem]) rfl ⟨rfl, rfl⟩
end Go.Proofs.YtbiinghmopgjnaaGreatDoor.Cal
