/- The chapter's examples, asked at the head of each law of layer 2: they hold in every world where strconv's tables lie. -/
import Derived.Test.YtmljdclmcoedfaaGreatDoorRec
namespace Go.Proofs.YtmljdclmcoedfaaGreatDoor.Cal
open Go.RowKit

theorem same_z (w : World) : Calls Tryz.prog 14 #[.float .f64 9223372036854775808, .float .f64 0] w fun e w' => e = .returned (.bool false) ∧ w = w' := by
  have h := same_any 9223372036854775808 0 w (by omega) (by omega)
  rw [show same 9223372036854775808 0 = false by decide +kernel] at h
  exact h
theorem less_z (w : World) : Calls Tryz.prog 21 #[.float .f64 9223372036854775808, .float .f64 0] w fun e w' => e = .returned (.bool true) ∧ w = w' := by
  have h := less_any 9223372036854775808 0 w (by omega) (by omega)
  rw [show less 9223372036854775808 0 = true by decide +kernel] at h
  exact h
theorem whole_25 (w : World) : Calls Tryz.prog 17 #[.float .f64 4612811918334230528] w fun e w' => e = .returned (.int .i64 3) ∧ w = w' := by
  have h := whole_any 4612811918334230528 w (by omega)
  rw [show Flt.whole 4612811918334230528 = 3 by decide +kernel] at h
  exact h
theorem share_81 (w : World) : Calls Tryz.prog 19 #[.int .i64 81, .float .f64 4632233691727265792] w fun e w' => e = .returned (.int .i64 41) ∧ w = w' := by
  have h := share_any 81 4632233691727265792 w (by omega) (by omega) (by omega)
  rw [show share 81 4632233691727265792 = 41 by decide +kernel] at h
  exact h
set_option maxRecDepth 100000 in
set_option maxHeartbeats 1000000 in
theorem shown_any {B : Nat} (w : World) (ht : Tabs B w) (hB : B ≤ w.heap.size) :
    Calls Tryz.prog 11 #[] w fun e w' => e = .returned (.bool true) ∧ Below w.heap.size w w' := by
  have t1 := eq_test 4609434218613702656 4609434218613702656 (by omega) (by omega) true (by decide +kernel)
  go_enter Tryz.func11, Tryz.ntmps11
  go_wp2_with fail
  refine (parse_15 w ht hB).mono ?_
  rintro e w1 ⟨rfl, hb1⟩
  have B1 : B ≤ w1.heap.size := Nat.le_trans hB hb1.size
  have ht1 := ht.below (hb1.mono hB)
  go_wp2_with fail
  refine (parse_m0 w1 ht1 B1).mono ?_
  rintro e w2 ⟨rfl, hb2⟩
  have B2 : B ≤ w2.heap.size := Nat.le_trans B1 hb2.size
  have ht2 := ht1.below (hb2.mono B1)
  have hc2 := hb1.trans (hb2.mono hb1.size)
  go_wp2_with fail
  refine (reckon_a w2 ht2 B2).mono ?_
  rintro e w3 ⟨rfl, hb3⟩
  have B3 : B ≤ w3.heap.size := Nat.le_trans B2 hb3.size
  have ht3 := ht2.below (hb3.mono B2)
  have hc3 := hc2.trans (hb3.mono hc2.size)
  go_wp2_with fail
  refine (reckon_b w3 ht3 B3).mono ?_
  rintro e w4 ⟨rfl, hb4⟩
  have B4 : B ≤ w4.heap.size := Nat.le_trans B3 hb4.size
  have ht4 := ht3.below (hb4.mono B3)
  have hc4 := hc3.trans (hb4.mono hc3.size)
  go_wp2_with fail
  refine (reckon_c w4 ht4 B4).mono ?_
  rintro e w5 ⟨rfl, hb5⟩
  have B5 : B ≤ w5.heap.size := Nat.le_trans B4 hb5.size
  have ht5 := ht4.below (hb5.mono B4)
  have hc5 := hc4.trans (hb5.mono hc4.size)
  go_wp2_with fail
  refine (same_z w5).mono ?_
  rintro e w' ⟨rfl, rfl⟩
  go_wp2_with fail
  refine (print_012 w5 ht5 B5).mono ?_
  rintro e w6 ⟨rfl, hb6⟩
  have hc6 := hc5.trans (hb6.mono hc5.size)
  go_wp2_with fail
  refine (whole_25 w6).mono ?_
  rintro e w' ⟨rfl, rfl⟩
  go_wp2_with fail
  refine (share_81 w6).mono ?_
  rintro e w' ⟨rfl, rfl⟩
  go_wp2_with fail
  refine (less_z w6).mono ?_
  rintro e w' ⟨rfl, rfl⟩
  go_wp2_with fail
  go_ret
  exact ⟨rfl, hc6⟩
end Go.Proofs.YtmljdclmcoedfaaGreatDoor.Cal
