/- The document's order of floats, and its sameness. -/
import Derived.Test.YtbiinghmopgjnaaGreatDoorSha
namespace Go.Proofs.YtbiinghmopgjnaaGreatDoor.Cal
open Go.RowKit

def below (x : Nat) : Bool := !Flt.isNaN x && Flt.neg x
def same (a b : Nat) : Bool := (Flt.isNaN a && Flt.isNaN b) || (Flt.eq a b && (below a == below b))
def infW (b : Bool) : Nat := if b then 18442240474082181120 else 9218868437227405312
def rank (x : Nat) : Int := if Flt.isNaN x then 3 else if x = 9218868437227405312 then 2 else if x = 18442240474082181120 then 0 else 1

theorem lt_zero (x : Nat) : Flt.lt x 0 = (!Flt.isNaN x && Flt.neg x && decide (Flt.rung x ≠ 0)) := by
  have n0 : Flt.isNaN 0 = false := by decide +kernel
  have s0 : Flt.sv 0 = 0 := by decide +kernel
  unfold Flt.lt
  rw [n0, s0]
  unfold Flt.sv
  have c := @cum_pos (Flt.rung x)
  cases Flt.isNaN x
  · cases Flt.neg x
    · simp
    · by_cases h : Flt.rung x = 0
      · simp [h, Flt.cum_zero]
      · have := c (by omega)
        simp [h]; omega
  · simp
theorem eq_zero (x : Nat) : Flt.eq x 0 = decide (Flt.rung x = 0) := by
  have n0 : Flt.isNaN 0 = false := by decide +kernel
  have s0 : Flt.sv 0 = 0 := by decide +kernel
  unfold Flt.eq
  rw [n0, s0]
  unfold Flt.sv
  have c := @cum_pos (Flt.rung x)
  by_cases h : Flt.rung x = 0
  · have : Flt.isNaN x = false := by unfold Flt.isNaN; rw [h]; decide
    simp [h, Flt.cum_zero, this]
  · have := c (by omega)
    simp [h]
    intro _
    split <;> omega
theorem zero_word (x : Nat) (hx : x < 2 ^ 64) (h : Flt.rung x = 0) : x = 0 ∨ x = 9223372036854775808 := by
  unfold Flt.rung at h; omega

theorem eq_inf (x : Nat) (b : Bool) (hx : x < 2 ^ 64) : Flt.eq x (infW b) = decide (x = infW b) := by
  have hw := Flt.word_of x hx
  unfold Ieee.Format.word at hw
  rw [Flt.sw] at hw
  by_cases h : x = infW b
  · rw [h]; cases b <;> decide +kernel
  · rw [decide_eq_false h]
    have hi : Flt.isNaN (infW b) = false := by cases b <;> decide +kernel
    have hs : Flt.sv (infW b) = if b then -(Flt.cum 9218868437227405312 : Int) else Flt.cum 9218868437227405312 := by cases b <;> rfl
    have hI := cum_pos (show 0 < 9218868437227405312 by omega)
    unfold Flt.eq
    rw [hi, hs]
    unfold Flt.sv
    have inj := @Flt.cum_inj (Flt.rung x) 9218868437227405312
    unfold infW at h
    cases b <;> cases s : Flt.neg x <;> rw [s] at hw <;> simp at h hw ⊢ <;> intro _
    · intro h2; have := inj (by omega); omega
    · omega
    · omega
    · intro h2; have := inj (by omega); omega
theorem rank_cases (x : Nat) (hx : x < 2 ^ 64) : (Flt.isNaN x = true ∧ rank x = 3) ∨ (Flt.isNaN x = false ∧ ((rank x = 2 ∧ Flt.sv x = Flt.cum 9218868437227405312 ∧ Flt.neg x = false) ∨ (rank x = 0 ∧ Flt.sv x = -(Flt.cum 9218868437227405312 : Int) ∧ Flt.neg x = true) ∨ (rank x = 1 ∧ -(Flt.cum 9218868437227405312 : Int) < Flt.sv x ∧ Flt.sv x < Flt.cum 9218868437227405312))) := by
  have hw := Flt.word_of x hx
  unfold Ieee.Format.word at hw
  rw [Flt.sw] at hw
  cases n : Flt.isNaN x
  · refine Or.inr ⟨rfl, ?_⟩
    have hr := Flt.not_nan n
    unfold rank
    simp only [n, Bool.false_eq_true, if_false]
    by_cases c1 : x = 9218868437227405312
    · subst c1; exact Or.inl ⟨rfl, rfl, by decide⟩
    · by_cases c2 : x = 18442240474082181120
      · subst c2; exact Or.inr (Or.inl ⟨rfl, rfl, by decide⟩)
      · refine Or.inr (Or.inr ⟨by rw [if_neg c1, if_neg c2], ?_⟩)
        refine Flt.sv_neg_lt x ?_
        cases s : Flt.neg x <;> rw [s] at hw <;> simp at hw <;> omega
  · exact Or.inl ⟨rfl, by unfold rank; rw [n]; rfl⟩
theorem less_rank (a b : Nat) (ha : a < 2 ^ 64) (hb : b < 2 ^ 64) : less a b = if rank a ≠ rank b ∨ rank a ≠ 1 then decide (rank a < rank b) else if Flt.eq a b then below a && !below b else Flt.lt a b := by
  have hC := cum_pos (show 0 < 9218868437227405312 by omega)
  have ra := rank_cases a ha
  have rb := rank_cases b hb
  unfold less Flt.eq Flt.lt below
  generalize Flt.cum 9218868437227405312 = C at *
  generalize Flt.isNaN a = na at *
  generalize Flt.isNaN b = nb at *
  generalize Flt.neg a = ga at *
  generalize Flt.neg b = gb at *
  generalize Flt.sv a = sa at *
  generalize Flt.sv b = sb at *
  generalize rank a = xa at *
  generalize rank b = xb at *
  rcases ra with ⟨rfl, rfl⟩ | ⟨rfl, ⟨rfl, rfl, rfl⟩ | ⟨rfl, rfl, rfl⟩ | ⟨rfl, h1, h2⟩⟩
  · rcases rb with ⟨rfl, rfl⟩ | ⟨rfl, ⟨rfl, rfl, rfl⟩ | ⟨rfl, rfl, rfl⟩ | ⟨rfl, h3, h4⟩⟩ <;> simp
  · rcases rb with ⟨rfl, rfl⟩ | ⟨rfl, ⟨rfl, rfl, rfl⟩ | ⟨rfl, rfl, rfl⟩ | ⟨rfl, h3, h4⟩⟩ <;> simp <;> omega
  · rcases rb with ⟨rfl, rfl⟩ | ⟨rfl, ⟨rfl, rfl, rfl⟩ | ⟨rfl, rfl, rfl⟩ | ⟨rfl, h3, h4⟩⟩ <;> simp
    all_goals first | omega | (rw [if_neg (by omega)]; first | omega | (rw [decide_eq_true (by omega)]) | (rw [decide_eq_false (by omega)]))
  · rcases rb with ⟨rfl, rfl⟩ | ⟨rfl, ⟨rfl, rfl, rfl⟩ | ⟨rfl, rfl, rfl⟩ | ⟨rfl, h3, h4⟩⟩ <;> simp
    all_goals first | omega | (rw [if_neg (by omega)]; first | omega | (rw [decide_eq_true (by omega)]) | (rw [decide_eq_false (by omega)]))
end Go.Proofs.YtbiinghmopgjnaaGreatDoor.Cal
