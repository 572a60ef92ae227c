/- Five short texts, read as floats: from strconv's parts up to package calc's own Parse. -/
import Derived.Test.YtbiinghmopgjnaaGreatDoorTab
namespace Go.Proofs.YtbiinghmopgjnaaGreatDoor.Cal
open Go.RowKit

set_option maxRecDepth 100000 in
theorem exact_2 {B : Nat} (w : World) (ht : Tabs B w) :
    Calls Tryz.prog 222 #[.int .u64 2, .int .i64 0, .bool false] w fun e w' => e = .returned (.tuple #[.float .f64 4611686018427387904, .bool true]) ∧ w = w' := by
  have hf : floatOfInt .f64 2 = 4611686018427387904 := by decide +kernel
  obtain ⟨t, fr, hg⟩ := ht.info
  have hc : w.cell? ⟨11, 0, none⟩ = some (.int .u64 52) := cell_of_row w _ 0 _ _ _ hg
  clear hg ht
  go_enter Tryz.func222, Tryz.ntmps222
  go_wp2
  go_ret2
  exact ⟨rfl, rfl⟩
set_option maxRecDepth 100000 in
theorem exact_1 {B : Nat} (w : World) (ht : Tabs B w) :
    Calls Tryz.prog 222 #[.int .u64 1, .int .i64 0, .bool false] w fun e w' => e = .returned (.tuple #[.float .f64 4607182418800017408, .bool true]) ∧ w = w' := by
  have hf : floatOfInt .f64 1 = 4607182418800017408 := by decide +kernel
  obtain ⟨t, fr, hg⟩ := ht.info
  have hc : w.cell? ⟨11, 0, none⟩ = some (.int .u64 52) := cell_of_row w _ 0 _ _ _ hg
  clear hg ht
  go_enter Tryz.func222, Tryz.ntmps222
  go_wp2
  go_ret2
  exact ⟨rfl, rfl⟩
set_option maxRecDepth 100000 in
theorem exact_15 {B : Nat} (w : World) (ht : Tabs B w) :
    Calls Tryz.prog 222 #[.int .u64 15, .int .i64 (-1), .bool false] w fun e w' => e = .returned (.tuple #[.float .f64 4609434218613702656, .bool true]) ∧ w = w' := by
  have hf : floatOfInt .f64 15 = 4624633867356078080 := by decide +kernel
  obtain ⟨t, fr, hg⟩ := ht.info
  have hc : w.cell? ⟨11, 0, none⟩ = some (.int .u64 52) := cell_of_row w _ 0 _ _ _ hg
  obtain ⟨a, c, t5, f5, h5, _, h7⟩ := ht.f10
  have hs : w.cell? ⟨18, 0, none⟩ = some (.slice (some a) 23 c) := cell_of_row w _ 0 _ _ _ h5
  have hx : w.cell? ⟨a.block, a.off + 1, none⟩ = some (.float .f64 4621819117588971520) := h7 1 _ rfl
  have hd := fun (t : TypeId) (w : World) => run_float_arith (P := Tryz.prog) w .quo t .f64 4624633867356078080 4621819117588971520 4609434218613702656 (by decide +kernel)
  clear h5 h7
  clear hg ht
  go_enter Tryz.func222, Tryz.ntmps222
  go_wp2
  go_ret2
  exact ⟨rfl, rfl⟩
set_option maxRecDepth 100000 in
theorem common_0 (w : World) :
    Calls Tryz.prog 227 #[.string { data := #[48] }, .string { data := #[105, 110, 102, 105, 110, 105, 116, 121] }] w fun e w' => e = .returned (.int .i64 0) ∧ w = w' := by
  have h0 : ({ data := #[48] } : ByteArray)[0].toNat = 48 := rfl
  have h1 : ({ data := #[105, 110, 102, 105, 110, 105, 116, 121] } : ByteArray)[0].toNat = 105 := rfl
  go_enter Tryz.func227, Tryz.ntmps227
  go_wp2
  refine wp_loop_rounds 1 ?_
  rw [rounds_succ]
  go_wp2
  go_ret
  exact ⟨rfl, rfl⟩
set_option maxRecDepth 100000 in
theorem special_7 (w : World) :
    Calls Tryz.prog 211 #[.string { data := #[55] }] w fun e w' => e = .returned (.tuple #[.float .f64 0, .int .i64 0, .bool false]) ∧ w = w' := by
  have h0 : ({ data := #[55] } : ByteArray)[0].toNat = 55 := rfl
  go_enter Tryz.func211, Tryz.ntmps211
  go_wp2
  go_ret3
  exact ⟨rfl, rfl⟩
set_option maxRecDepth 100000 in
theorem special_2 (w : World) :
    Calls Tryz.prog 211 #[.string { data := #[50] }] w fun e w' => e = .returned (.tuple #[.float .f64 0, .int .i64 0, .bool false]) ∧ w = w' := by
  have h0 : ({ data := #[50] } : ByteArray)[0].toNat = 50 := rfl
  go_enter Tryz.func211, Tryz.ntmps211
  go_wp2
  go_ret3
  exact ⟨rfl, rfl⟩
set_option maxRecDepth 100000 in
theorem special_1 (w : World) :
    Calls Tryz.prog 211 #[.string { data := #[49] }] w fun e w' => e = .returned (.tuple #[.float .f64 0, .int .i64 0, .bool false]) ∧ w = w' := by
  have h0 : ({ data := #[49] } : ByteArray)[0].toNat = 49 := rfl
  go_enter Tryz.func211, Tryz.ntmps211
  go_wp2
  go_ret3
  exact ⟨rfl, rfl⟩
set_option maxRecDepth 100000 in
theorem special_15 (w : World) :
    Calls Tryz.prog 211 #[.string { data := #[49, 46, 53] }] w fun e w' => e = .returned (.tuple #[.float .f64 0, .int .i64 0, .bool false]) ∧ w = w' := by
  have h0 : ({ data := #[49, 46, 53] } : ByteArray)[0].toNat = 49 := rfl
  have h1 : ({ data := #[49, 46, 53] } : ByteArray)[1].toNat = 46 := rfl
  have h2 : ({ data := #[49, 46, 53] } : ByteArray)[2].toNat = 53 := rfl
  go_enter Tryz.func211, Tryz.ntmps211
  go_wp2
  go_ret3
  exact ⟨rfl, rfl⟩
set_option maxRecDepth 100000 in
theorem special_m0 (w : World) :
    Calls Tryz.prog 211 #[.string { data := #[45, 48] }] w fun e w' => e = .returned (.tuple #[.float .f64 0, .int .i64 0, .bool false]) ∧ w = w' := by
  have h0 : ({ data := #[45, 48] } : ByteArray)[0].toNat = 45 := rfl
  have h1 : ({ data := #[45, 48] } : ByteArray)[1].toNat = 48 := rfl
  have hx : ({ data := #[45, 48] } : ByteArray).extract 1 2 = { data := #[48] } := by decide +kernel
  have HC := common_0 w
  go_enter Tryz.func211, Tryz.ntmps211
  go_wp2_with fail
  refine HC.mono ?_
  rintro e w' ⟨rfl, rfl⟩
  go_wp2_with fail
  go_ret3
  exact ⟨rfl, rfl⟩
end Go.Proofs.YtbiinghmopgjnaaGreatDoor.Cal
