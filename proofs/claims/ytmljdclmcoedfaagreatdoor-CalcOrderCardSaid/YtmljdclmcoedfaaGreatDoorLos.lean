/- The walk of the law on the order, its answers given. -/
import Derived.Test.YtmljdclmcoedfaaGreatDoorLor
namespace Go.Proofs.YtmljdclmcoedfaaGreatDoor.Cal
open Go.RowKit Go.ChangeShapes Go.WideShapes Go.ChangeAt

set_option maxRecDepth 100000 in
set_option maxHeartbeats 2000000 in
theorem order_steps {B : Nat} (a b c : Nat) (w : World) (ht : Tabs B w) (hB : B ≤ w.heap.size) (ab ba bc ac sm lt e na nb : Bool)
    (c1 : ∀ w1 : World, Calls Tryz.prog 21 #[.float .f64 a, .float .f64 b] w1 fun e w' => e = .returned (.bool ab) ∧ w1 = w')
    (c2 : ∀ w1 : World, Calls Tryz.prog 21 #[.float .f64 b, .float .f64 a] w1 fun e w' => e = .returned (.bool ba) ∧ w1 = w')
    (c3 : ∀ w1 : World, Calls Tryz.prog 21 #[.float .f64 b, .float .f64 c] w1 fun e w' => e = .returned (.bool bc) ∧ w1 = w')
    (c4 : ∀ w1 : World, Calls Tryz.prog 21 #[.float .f64 a, .float .f64 c] w1 fun e w' => e = .returned (.bool ac) ∧ w1 = w')
    (c5 : ∀ w1 : World, Calls Tryz.prog 14 #[.float .f64 a, .float .f64 b] w1 fun e w' => e = .returned (.bool sm) ∧ w1 = w')
    (t1 : (FloatKind.f64.format.order a b == some Ordering.lt) = lt) (t2 : (FloatKind.f64.format.order a b != some Ordering.eq) = !e) (t3 : (FloatKind.f64.format.order a a == some Ordering.eq) = !na) (t4 : (FloatKind.f64.format.order b b == some Ordering.eq) = !nb)
    (l1 : (ab && ba) = false) (l2 : sm = (!ab && !ba)) (l3 : ((!ab || !bc) || ac) = true) (l4 : lt = (((ab && !e) && !na) && !nb)) :
    Calls Tryz.prog 8 #[.float .f64 a, .float .f64 b, .float .f64 c] w fun e w' => e = .returned (.bool true) ∧ Below w.heap.size w w' := by
  subst l2 l4
  cases ab
  · clear l3
    cases ba
    all_goals
      clear l1
      go_enter Tryz.func8, Tryz.ntmps8
      go_wp2_with fail
      refine (shown_any w ht hB).mono ?_
      rintro e w1 ⟨rfl, hb1⟩
      go_wp2_with fail
      refine (c1 _).mono ?_
      rintro e w' ⟨rfl, rfl⟩
      go_wp2_with fail
      refine (c2 _).mono ?_
      rintro e w' ⟨rfl, rfl⟩
      go_wp2_with fail
      refine (c3 _).mono ?_
      rintro e w' ⟨rfl, rfl⟩
      go_wp2_with fail
      refine (c4 _).mono ?_
      rintro e w' ⟨rfl, rfl⟩
      go_wp2_with fail
      refine (c5 _).mono ?_
      rintro e w' ⟨rfl, rfl⟩
      go_wp2_with fail
      go_ret
      exact ⟨rfl, hb1⟩
  · obtain rfl : ba = false := by simpa using l1
    clear l1
    have hbc : bc = false ∨ (bc = true ∧ ac = true) := by cases bc <;> simp at l3 <;> simp [l3]
    clear l3
    have hev : e = true ∨ (e = false ∧ na = true) ∨ (e = false ∧ na = false ∧ nb = true) ∨ (e = false ∧ na = false ∧ nb = false) := by cases e <;> cases na <;> cases nb <;> simp
    rcases hbc with rfl | ⟨rfl, rfl⟩ <;> rcases hev with rfl | ⟨rfl, rfl⟩ | ⟨rfl, rfl, rfl⟩ | ⟨rfl, rfl, rfl⟩
    all_goals
      go_enter Tryz.func8, Tryz.ntmps8
      go_wp2_with fail
      refine (shown_any w ht hB).mono ?_
      rintro e w1 ⟨rfl, hb1⟩
      go_wp2_with fail
      refine (c1 _).mono ?_
      rintro e w' ⟨rfl, rfl⟩
      go_wp2_with fail
      refine (c2 _).mono ?_
      rintro e w' ⟨rfl, rfl⟩
      go_wp2_with fail
      refine (c3 _).mono ?_
      rintro e w' ⟨rfl, rfl⟩
      go_wp2_with fail
      refine (c4 _).mono ?_
      rintro e w' ⟨rfl, rfl⟩
      go_wp2_with fail
      refine (c5 _).mono ?_
      rintro e w' ⟨rfl, rfl⟩
      go_wp2_with fail
      go_ret
      exact ⟨rfl, hb1⟩
end Go.Proofs.YtmljdclmcoedfaaGreatDoor.Cal
