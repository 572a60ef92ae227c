/- strconv.fixedWidthFloat at two floats. -/
import Derived.Test.YtbiinghmopgjnaaGreatDoorFw
namespace Go.Proofs.YtbiinghmopgjnaaGreatDoor.Cal
open Go.RowKit

set_option maxRecDepth 100000 in
theorem l10_1 (w : World) : Calls Tryz.prog 163 #[.int .i64 (1)] w fun e w' => e = .returned (.int .i64 (0)) ∧ w = w' := by
  go_enter Tryz.func163, Tryz.ntmps163
  go_wp2
  go_ret
  exact ⟨ret_int (by decide +kernel), rfl⟩
set_option maxRecDepth 100000 in
theorem l10_m3 (w : World) : Calls Tryz.prog 163 #[.int .i64 (-3)] w fun e w' => e = .returned (.int .i64 (-1)) ∧ w = w' := by
  go_enter Tryz.func163, Tryz.ntmps163
  go_wp2
  go_ret
  exact ⟨ret_int (by decide +kernel), rfl⟩
set_option maxRecDepth 100000 in
theorem l10_2 (w : World) : Calls Tryz.prog 163 #[.int .i64 (2)] w fun e w' => e = .returned (.int .i64 (0)) ∧ w = w' := by
  go_enter Tryz.func163, Tryz.ntmps163
  go_wp2
  go_ret
  exact ⟨ret_int (by decide +kernel), rfl⟩
set_option maxRecDepth 100000 in
theorem l10_3 (w : World) : Calls Tryz.prog 163 #[.int .i64 (3)] w fun e w' => e = .returned (.int .i64 (0)) ∧ w = w' := by
  go_enter Tryz.func163, Tryz.ntmps163
  go_wp2
  go_ret
  exact ⟨ret_int (by decide +kernel), rfl⟩
set_option maxRecDepth 100000 in
theorem l2_2 (w : World) : Calls Tryz.prog 191 #[.int .i64 2] w fun e w' => e = .returned (.int .i64 6) ∧ w = w' := by
  go_enter Tryz.func191, Tryz.ntmps191
  go_wp2
  go_ret
  exact ⟨ret_int (by decide +kernel), rfl⟩
set_option maxRecDepth 100000 in
theorem l2_3 (w : World) : Calls Tryz.prog 191 #[.int .i64 3] w fun e w' => e = .returned (.int .i64 9) ∧ w = w' := by
  go_enter Tryz.func191, Tryz.ntmps191
  go_wp2
  go_ret
  exact ⟨ret_int (by decide +kernel), rfl⟩
set_option maxRecDepth 100000 in
theorem unmin_1000 (w : World) : Calls Tryz.prog 197 #[.int .u64 1000] w fun e w' => e = .returned (.int .u64 3998) ∧ w = w' := by
  go_enter Tryz.func197, Tryz.ntmps197
  go_wp2
  go_ret
  exact ⟨ret_int (by decide +kernel), rfl⟩
set_option maxRecDepth 100000 in
theorem round_1400 (w : World) : Calls Tryz.prog 196 #[.int .u64 1400] w fun e w' => e = .returned (.int .u64 350) ∧ w = w' := by
  have b : bits .and .u64 350 1 = 0 := by kernel_rfl
  go_enter Tryz.func196, Tryz.ntmps196
  go_wp2
  go_ret
  exact ⟨rfl, rfl⟩
set_option maxRecDepth 100000 in
theorem round_50 (w : World) : Calls Tryz.prog 196 #[.int .u64 50] w fun e w' => e = .returned (.int .u64 12) ∧ w = w' := by
  have b : bits .and .u64 12 1 = 0 := by kernel_rfl
  go_enter Tryz.func196, Tryz.ntmps196
  go_wp2
  go_ret
  exact ⟨rfl, rfl⟩
set_option maxRecDepth 100000 in
theorem b2u_no (w : World) : Calls Tryz.prog 224 #[.bool false] w fun e w' => e = .returned (.int .u64 0) ∧ w' = w := by
  go_enter Tryz.func224, Tryz.ntmps224
  go_wp2
  go_ret
  exact ⟨rfl, rfl⟩
set_option maxRecDepth 100000 in
theorem div_500 (w : World) : Calls Tryz.prog 198 #[.int .u64 500, .int .u64 10] w fun e w' => e = .returned (.int .u64 50) ∧ ∃ n, w' = w.drewN n := by
  have b : bits .and .u64 500 1 = 0 := by kernel_rfl
  have b2 : bits .or .u64 50 0 = 50 := by kernel_rfl
  go_enter Tryz.func198, Tryz.ntmps198
  go_wp2_with fail

  go_quiet ((go_at_call 224; exact Calls.quiet_of_same (b2u_no _)))
  go_wp2_with fail
  go_ret
  exact ⟨rfl, _, rfl⟩
theorem grown_below {w w' : World} {B g : Nat} (h : w.grownBy w' (some g)) (hg : B ≤ g) (hB : B ≤ w.heap.size) : Below B w w' := ⟨h.os, h.tape, h.output, h.size, fun k hk => h.block k (by omega) fun e => by injection e; omega⟩
theorem below_drewN {B : Nat} {w w' : World} (h : Below B w w') (n : Nat) : Below B w (w'.drewN n) := ⟨h.os, h.tape, h.output, h.size, h.block⟩
set_option maxRecDepth 100000 in
theorem fw_a {B : Nat} (w : World) (ht : Tabs B w) (hB : B ≤ w.heap.size) :
    Calls Tryz.prog 164 #[.int .u64 16140901064495857664, .int .i64 (-62), .int .i64 3, .int .i64 2, .int .u8 102] w fun e w' => e = .returned (.tuple #[.int .u64 350, .int .i64 (-2)]) ∧ Below w.heap.size w w' := by
  have hB1 := (Below.refl w.heap.size w).alloc (Nat.le_refl _) (.cells #[.int .u64 0, .int .u64 0, .int .i64 0] 244)
  have ht1 := ht.below (hB1.mono hB)
  have P := prescale_a (w.alloc (.cells #[.int .u64 0, .int .u64 0, .int .i64 0] 244)) ht1 w.heap.size hB (Blk.new w _ _)
  go_enter Tryz.func164, Tryz.ntmps164
  go_wp2_with fail
  refine (l10_1 _).mono ?_
  rintro e w' ⟨rfl, rfl⟩
  go_wp2_with fail
  refine (l2_2 _).mono ?_
  rintro e w' ⟨rfl, rfl⟩
  go_wp2_with fail
  refine P.mono ?_
  rintro e w1 ⟨rfl, hb1, hg1⟩
  have hb2 : Below w.heap.size w w1 := hB1.trans (grown_below hg1 (Nat.le_refl _) (by simp))
  go_wp2_with fail
  refine (uscale_a w1 w.heap.size hb1).mono ?_
  rintro e w2 ⟨rfl, n, rfl⟩
  have ht2 : Tabs B (w1.drewN n) := ht.below ((below_drewN hb2 n).mono hB)
  have c := u10_cell ht2 3 1000 (by kernel_rfl)
  go_wp2_with fail
  refine (unmin_1000 _).mono ?_
  rintro e w' ⟨rfl, rfl⟩
  go_wp2_with fail
  refine wp_loop_rounds 1 ?_
  rw [rounds_succ]
  go_wp2_with fail
  refine (round_1400 _).mono ?_
  rintro e w' ⟨rfl, rfl⟩
  go_wp2_with fail
  go_ret2
  exact ⟨rfl, below_drewN hb2 n⟩
set_option maxRecDepth 100000 in
theorem fw_b {B : Nat} (w : World) (ht : Tabs B w) (hB : B ≤ w.heap.size) :
    Calls Tryz.prog 164 #[.int .u64 9223372036854775808, .int .i64 (-66), .int .i64 3, .int .i64 2, .int .u8 102] w fun e w' => e = .returned (.tuple #[.int .u64 12, .int .i64 (-2)]) ∧ Below w.heap.size w w' := by
  have hB1 := (Below.refl w.heap.size w).alloc (Nat.le_refl _) (.cells #[.int .u64 0, .int .u64 0, .int .i64 0] 244)
  have ht1 := ht.below (hB1.mono hB)
  have P := prescale_b (w.alloc (.cells #[.int .u64 0, .int .u64 0, .int .i64 0] 244)) ht1 w.heap.size hB (Blk.new w _ _)
  go_enter Tryz.func164, Tryz.ntmps164
  go_wp2_with fail
  refine (l10_m3 _).mono ?_
  rintro e w' ⟨rfl, rfl⟩
  go_wp2_with fail
  refine (l2_3 _).mono ?_
  rintro e w' ⟨rfl, rfl⟩
  go_wp2_with fail
  refine P.mono ?_
  rintro e w1 ⟨rfl, hb1, hg1⟩
  have hb2 : Below w.heap.size w w1 := hB1.trans (grown_below hg1 (Nat.le_refl _) (by simp))
  go_wp2_with fail
  refine (uscale_b w1 w.heap.size hb1).mono ?_
  rintro e w2 ⟨rfl, n, rfl⟩
  have ht2 : Tabs B (w1.drewN n) := ht.below ((below_drewN hb2 n).mono hB)
  have c := u10_cell ht2 3 1000 (by kernel_rfl)
  go_wp2_with fail
  refine (unmin_1000 _).mono ?_
  rintro e w' ⟨rfl, rfl⟩
  go_wp2_with fail
  refine wp_loop_rounds 2 ?_
  rw [rounds_succ]
  go_wp2_with fail
  refine (div_500 _).mono ?_
  rintro e w3 ⟨rfl, n3, rfl⟩
  go_wp2_with fail
  rw [rounds_succ]
  go_wp2_with fail
  refine (round_50 _).mono ?_
  rintro e w' ⟨rfl, rfl⟩
  go_wp2_with fail
  go_ret2
  exact ⟨rfl, below_drewN hb2 _⟩
end Go.Proofs.YtbiinghmopgjnaaGreatDoor.Cal
