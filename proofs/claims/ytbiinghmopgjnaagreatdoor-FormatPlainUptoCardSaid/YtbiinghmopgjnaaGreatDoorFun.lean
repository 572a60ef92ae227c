/- The small functions on floats: what each answers, as a plain function of the words. -/
import Derived.Test.YtbiinghmopgjnaaGreatDoorProg
import Derived.Test.YtbiinghmopgjnaaGreatDoorFlt
import Derived.WalkKit
import Derived.WalkLawsBesides
import Derived.WalkSpells
import Derived.WalkSmall
import Derived.Lib.Hide
import Derived.Outline
namespace Go.Proofs.YtbiinghmopgjnaaGreatDoor.Cal
open Go.RowKit

theorem ret_bool {a b : Bool} (h : a = b) : Ending.returned (.bool a) = .returned (.bool b) := by rw [h]
theorem ret_int {k : IntKind} {a b : Int} (h : a = b) : Ending.returned (.int k a) = .returned (.int k b) := by rw [h]
theorem ret_flt {a b : Nat} (h : a = b) : Ending.returned (.float .f64 a) = .returned (.float .f64 b) := by rw [h]

/-! ### The library's doors between floats and their bits -/
theorem bits_run (b : Nat) (w : World) : (callFunc 108 #[.float .f64 b]).run Tryz.prog w = .ok (.value (.int .u64 b)) w := by kernel_rfl
theorem from_run (b : Int) (w : World) : (callFunc 109 #[.int .u64 b]).run Tryz.prog w = .ok (.value (.float .f64 b.toNat)) w := by kernel_rfl

theorem isNaN_any (x : Nat) (b : Bool) (h : Flt.isNaN x = b) (w : World) (hx : x < 2 ^ 64) :
    Calls Tryz.prog 81 #[.float .f64 x] w fun e w' => e = .returned (.bool b) ∧ w = w' := by
  have hn : (FloatKind.f64.format.order x x != some Ordering.eq) = b := by
    show (!(Ieee.double.order x x == some .eq)) = b
    rw [Flt.order_same x x hx hx]
    unfold Flt.eq
    rw [h]
    cases b <;> simp
  go_enter Tryz.func81, Tryz.ntmps81
  go_wp2
  go_ret
  exact ⟨rfl, rfl⟩
theorem wrap_neg (x : Nat) (hx : x < 2 ^ 64) : decide (wrap64 (x : Int) < 0) = Flt.neg x := by
  unfold wrap64 Flt.neg
  rw [Bool.eq_iff_iff]
  simp only [decide_eq_true_eq]
  omega
/-- The order of all floats. -/
def less (a b : Nat) : Bool := if Flt.isNaN a then false else if Flt.isNaN b then true else if Flt.sv a = Flt.sv b then Flt.neg a && !Flt.neg b else decide (Flt.sv a < Flt.sv b)
theorem eq_test (a b : Nat) (ha : a < 2 ^ 64) (hb : b < 2 ^ 64) (c : Bool) (h : Flt.eq a b = c) : (FloatKind.f64.format.order a b == some Ordering.eq) = c := (Flt.order_same a b ha hb).trans h
theorem lt_test (a b : Nat) (ha : a < 2 ^ 64) (hb : b < 2 ^ 64) (c : Bool) (h : Flt.lt a b = c) : (FloatKind.f64.format.order a b == some Ordering.lt) = c := (Flt.order_lt a b ha hb).trans h
theorem gt_test (a b : Nat) (ha : a < 2 ^ 64) (hb : b < 2 ^ 64) (c : Bool) (h : Flt.lt b a = c) : (FloatKind.f64.format.order a b == some Ordering.gt) = c := (Flt.order_gt a b ha hb).trans h
end Go.Proofs.YtbiinghmopgjnaaGreatDoor.Cal
