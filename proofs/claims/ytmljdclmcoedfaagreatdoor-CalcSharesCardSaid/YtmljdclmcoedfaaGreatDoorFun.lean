/- The small functions on floats: what each answers, as a plain function of the words. -/
import Derived.Test.YtmljdclmcoedfaaGreatDoorProg
import Derived.Test.YtmljdclmcoedfaaGreatDoorFlt
import Derived.WalkKit
import Derived.WalkLawsBesides
import Derived.WalkSpells
import Derived.WalkSmall
import Derived.Lib.Hide
import Derived.Outline
namespace Go.Proofs.YtmljdclmcoedfaaGreatDoor.Cal
open Go.RowKit

theorem ret_bool {a b : Bool} (h : a = b) : Ending.returned (.bool a) = .returned (.bool b) := by rw [h]
theorem ret_int {k : IntKind} {a b : Int} (h : a = b) : Ending.returned (.int k a) = .returned (.int k b) := by rw [h]
theorem ret_flt {a b : Nat} (h : a = b) : Ending.returned (.float .f64 a) = .returned (.float .f64 b) := by rw [h]

/-! ### The library's doors between floats and their bits -/
theorem bits_run (b : Nat) (w : World) : (callFunc 76 #[.float .f64 b]).run Tryz.prog w = .ok (.value (.int .u64 b)) w := by kernel_rfl
theorem from_run (b : Int) (w : World) : (callFunc 63 #[.int .u64 b]).run Tryz.prog w = .ok (.value (.float .f64 b.toNat)) w := by kernel_rfl

theorem isNaN_any (x : Nat) (b : Bool) (h : Flt.isNaN x = b) (w : World) (hx : x < 2 ^ 64) :
    Calls Tryz.prog 38 #[.float .f64 x] w fun e w' => e = .returned (.bool b) ∧ w = w' := by
  have hn : (FloatKind.f64.format.order x x != some Ordering.eq) = b := by
    show (!(Ieee.double.order x x == some .eq)) = b
    rw [Flt.order_same x x hx hx]
    unfold Flt.eq
    rw [h]
    cases b <;> simp
  go_enter Tryz.func38, Tryz.ntmps38
  go_wp2
  go_ret
  exact ⟨rfl, rfl⟩
theorem wrap_neg (x : Nat) (hx : x < 2 ^ 64) : decide (wrap64 (x : Int) < 0) = Flt.neg x := by
  unfold wrap64 Flt.neg
  rw [Bool.eq_iff_iff]
  simp only [decide_eq_true_eq]
  omega
theorem signbit_any (x : Nat) (w : World) (hx : x < 2 ^ 64) :
    Calls Tryz.prog 48 #[.float .f64 x] w fun e w' => e = .returned (.bool (Flt.neg x)) ∧ w = w' := by
  have hb := bits_run
  have hw := Lib.hid (wrap_neg x hx)
  go_enter Tryz.func48, Tryz.ntmps48
  go_wp2
  go_ret
  exact ⟨ret_bool hw.out, rfl⟩

/-- The order of all floats. -/
def less (a b : Nat) : Bool := if Flt.isNaN a then false else if Flt.isNaN b then true else if Flt.sv a = Flt.sv b then Flt.neg a && !Flt.neg b else decide (Flt.sv a < Flt.sv b)
theorem eq_test (a b : Nat) (ha : a < 2 ^ 64) (hb : b < 2 ^ 64) (c : Bool) (h : Flt.eq a b = c) : (FloatKind.f64.format.order a b == some Ordering.eq) = c := (Flt.order_same a b ha hb).trans h
theorem lt_test (a b : Nat) (ha : a < 2 ^ 64) (hb : b < 2 ^ 64) (c : Bool) (h : Flt.lt a b = c) : (FloatKind.f64.format.order a b == some Ordering.lt) = c := (Flt.order_lt a b ha hb).trans h
theorem gt_test (a b : Nat) (ha : a < 2 ^ 64) (hb : b < 2 ^ 64) (c : Bool) (h : Flt.lt b a = c) : (FloatKind.f64.format.order a b == some Ordering.gt) = c := (Flt.order_gt a b ha hb).trans h
set_option maxHeartbeats 400000 in
theorem less_any (a b : Nat) (w : World) (ha : a < 2 ^ 64) (hb : b < 2 ^ 64) :
    Calls Tryz.prog 21 #[.float .f64 a, .float .f64 b] w fun e w' => e = .returned (.bool (less a b)) ∧ w = w' := by
  cases na : Flt.isNaN a
  · cases nb : Flt.isNaN b
    · cases he : Flt.eq a b
      · have hE := eq_test a b ha hb false he
        have hL : Hid ((FloatKind.f64.format.order a b == some Ordering.lt) = less a b) := by
          show _ = _
          rw [lt_test a b ha hb _ rfl]
          unfold Flt.eq at he
          unfold less Flt.lt
          simp [na, nb] at he ⊢
          simp [he]
        clear he
        go_enter Tryz.func21, Tryz.ntmps21
        go_wp2_with fail
        refine (isNaN_any a false na _ ha).mono ?_
        rintro e w' ⟨rfl, rfl⟩
        go_wp2_with fail
        refine (isNaN_any b false nb _ hb).mono ?_
        rintro e w' ⟨rfl, rfl⟩
        go_wp2_with fail
        go_ret
        exact ⟨ret_bool hL.out, rfl⟩
      · have hE := eq_test a b ha hb true he
        have hL : Hid (less a b = (Flt.neg a && !Flt.neg b)) := by
          show _ = _
          unfold Flt.eq at he
          unfold less
          simp [na, nb] at he ⊢
          simp [he]
        clear he
        cases sa : Flt.neg a <;> cases sb : Flt.neg b
        all_goals
          have hsa := signbit_any a w ha
          have hsb := signbit_any b w hb
          rw [sa] at hsa hL
          rw [sb] at hsb hL
          clear sa sb
          go_enter Tryz.func21, Tryz.ntmps21
          go_wp2_with fail
          refine (isNaN_any a false na _ ha).mono ?_
          rintro e w' ⟨rfl, rfl⟩
          go_wp2_with fail
          refine (isNaN_any b false nb _ hb).mono ?_
          rintro e w' ⟨rfl, rfl⟩
          go_wp2_with fail
          refine hsa.mono ?_
          rintro e w' ⟨rfl, rfl⟩
          go_wp2_with fail
          try (refine hsb.mono ?_
               rintro e w' ⟨rfl, rfl⟩
               go_wp2_with fail)
          go_ret
          exact ⟨ret_bool hL.out.symm, rfl⟩
    · have hL : Hid (less a b = true) := by show _ = _; unfold less; simp [na, nb]
      go_enter Tryz.func21, Tryz.ntmps21
      go_wp2_with fail
      refine (isNaN_any a false na _ ha).mono ?_
      rintro e w' ⟨rfl, rfl⟩
      go_wp2_with fail
      refine (isNaN_any b true nb _ hb).mono ?_
      rintro e w' ⟨rfl, rfl⟩
      go_wp2_with fail
      go_ret
      exact ⟨ret_bool hL.out.symm, rfl⟩
  · have hL : Hid (less a b = false) := by show _ = _; unfold less; simp [na]
    go_enter Tryz.func21, Tryz.ntmps21
    go_wp2_with fail
    refine (isNaN_any a true na _ ha).mono ?_
    rintro e w' ⟨rfl, rfl⟩
    go_wp2_with fail
    go_ret
    exact ⟨ret_bool hL.out.symm, rfl⟩
end Go.Proofs.YtmljdclmcoedfaaGreatDoor.Cal
