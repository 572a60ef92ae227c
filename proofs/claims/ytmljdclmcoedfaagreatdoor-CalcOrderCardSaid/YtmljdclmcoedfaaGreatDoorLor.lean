/- The walk of the law on the order: one of two floats that are not the same is ahead; it goes on; it goes with '<'. -/
import Derived.Test.YtmljdclmcoedfaaGreatDoorSho
namespace Go.Proofs.YtmljdclmcoedfaaGreatDoor.Cal
open Go.RowKit

/-- What the law asks of three floats. -/
theorem order_law (a b c : Nat) :
    (less a b && less b a) = false ∧ same a b = (!less a b && !less b a) ∧ ((!less a b || !less b c) || less a c) = true
      ∧ Flt.lt a b = (((less a b && !Flt.eq a b) && !Flt.isNaN a) && !Flt.isNaN b) := by
  unfold less same Flt.lt Flt.eq below
  generalize Flt.sv a = sa
  generalize Flt.sv b = sb
  generalize Flt.sv c = sc
  generalize Flt.isNaN a = na
  generalize Flt.isNaN b = nb
  generalize Flt.isNaN c = nc
  generalize Flt.neg a = ea
  generalize Flt.neg b = eb
  generalize Flt.neg c = ec
  have tri : ∀ x y : Int, (x = y) ∨ (¬ x = y ∧ ¬ y = x ∧ decide (x < y) = true ∧ decide (y < x) = false) ∨ (¬ x = y ∧ ¬ y = x ∧ decide (x < y) = false ∧ decide (y < x) = true) := fun x y => by
    rcases Int.lt_trichotomy x y with h | h | h
    · exact Or.inr (Or.inl ⟨by omega, by omega, by simpa using h, by simp; omega⟩)
    · exact Or.inl h
    · exact Or.inr (Or.inr ⟨by omega, by omega, by simp; omega, by simpa using h⟩)
  have irr : ∀ x : Int, decide (x < x) = false := fun x => by simp
  refine ⟨?_, ?_, ?_, ?_⟩
  · rcases tri sa sb with rfl | ⟨h1, h2, h3, h4⟩ | ⟨h1, h2, h3, h4⟩
    · rw [if_pos rfl, if_pos rfl]; cases na <;> cases nb <;> cases ea <;> cases eb <;> rfl
    · rw [if_neg h1, if_neg h2, h3, h4]; cases na <;> cases nb <;> rfl
    · rw [if_neg h1, if_neg h2, h3, h4]; cases na <;> cases nb <;> rfl
  · rcases tri sa sb with rfl | ⟨h1, h2, h3, h4⟩ | ⟨h1, h2, h3, h4⟩
    · rw [if_pos rfl, if_pos rfl, decide_eq_true rfl]; cases na <;> cases nb <;> cases ea <;> cases eb <;> rfl
    · rw [if_neg h1, if_neg h2, h3, h4, decide_eq_false h1]; cases na <;> cases nb <;> rfl
    · rw [if_neg h1, if_neg h2, h3, h4, decide_eq_false h1]; cases na <;> cases nb <;> rfl
  · rcases tri sa sb with rfl | ⟨h1, h2, h3, h4⟩ | ⟨h1, h2, h3, h4⟩
    · rw [if_pos rfl]
      rcases tri sa sc with rfl | ⟨k1, k2, k3, k4⟩ | ⟨k1, k2, k3, k4⟩
      · rw [if_pos rfl, if_pos rfl]; cases na <;> cases nb <;> cases nc <;> cases ea <;> cases eb <;> cases ec <;> rfl
      · rw [if_neg k1, if_neg k1, k3]; cases na <;> cases nb <;> cases nc <;> cases ea <;> cases eb <;> rfl
      · rw [if_neg k1, if_neg k1, k3]; cases na <;> cases nb <;> cases nc <;> cases ea <;> cases eb <;> rfl
    · rw [if_neg h1, h3]
      rcases tri sb sc with rfl | ⟨k1, k2, k3, k4⟩ | ⟨k1, k2, k3, k4⟩
      · rw [if_pos rfl, if_neg h1, h3]; cases na <;> cases nb <;> cases nc <;> cases eb <;> cases ec <;> rfl
      · have l1 : ¬ sa = sc := by simp at h3 k3; omega
        have l2 : decide (sa < sc) = true := by simp at h3 k3 ⊢; omega
        rw [if_neg k1, if_neg l1, k3, l2]; cases na <;> cases nb <;> cases nc <;> rfl
      · rw [if_neg k1, k3]; cases na <;> cases nb <;> cases nc <;> simp
    · rw [if_neg h1, h3]; cases na <;> cases nb <;> cases nc <;> simp
  · rcases tri sa sb with rfl | ⟨h1, h2, h3, h4⟩ | ⟨h1, h2, h3, h4⟩
    · rw [if_pos rfl, decide_eq_true rfl, irr]; cases na <;> cases nb <;> cases ea <;> cases eb <;> rfl
    · rw [if_neg h1, h3, decide_eq_false h1]; cases na <;> cases nb <;> rfl
    · rw [if_neg h1, h3, decide_eq_false h1]; cases na <;> cases nb <;> rfl
end Go.Proofs.YtmljdclmcoedfaaGreatDoor.Cal
