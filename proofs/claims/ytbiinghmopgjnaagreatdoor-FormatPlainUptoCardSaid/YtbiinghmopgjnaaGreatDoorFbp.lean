/- Brackets in patterns, in plain words: what a walk that knows the last closing sign finds. -/
import Derived.Test.YtbiinghmopgjnaaGreatDoorFmt
import Derived.Lib.LastIndexByte
namespace Go.Proofs.YtbiinghmopgjnaaGreatDoor.Fmt
open Go.RowKit

/-- Where the last closing sign stands. -/
def LastIs (l : Tx) (k : Int) : Prop := (k = -1 ∧ ∀ j : Nat, l[j]? ≠ some 93) ∨ ∃ i : Nat, k = (i : Int) ∧ l[i]? = some 93 ∧ ∀ j : Nat, i < j → l[j]? ≠ some 93
theorem LastIs.of (l : Tx) : LastIs l (Lib.lastIndexByte (bs l) 93) := by
  have hd : ∀ (j : Nat) (h : j < l.length), ((bs l).data[j]!) = l[j] := fun j h => by
    have : j < (bs l).data.size := by show j < (bs l).size; rw [bs_size]; exact h
    rw [getElem!_pos (bs l).data j this]
    simp [bs]
  rcases Lib.lastIndexByte_spec (bs l) 93 with ⟨e, hn⟩ | ⟨i, hi, e, hc, hn⟩
  · refine .inl ⟨e, fun j hj => ?_⟩
    obtain ⟨h1, h2⟩ := List.getElem?_eq_some_iff.1 hj
    have := hn j (by rw [bs_size]; exact h1)
    rw [hd j h1, h2] at this
    exact this rfl
  · rw [bs_size] at hi
    refine .inr ⟨i, e, ?_, fun j hj hx => ?_⟩
    · rw [hd i hi] at hc
      rw [List.getElem?_eq_getElem hi]
      congr 1
      exact UInt8.toNat_inj.1 (by have : (93 : UInt8).toNat = 93 := rfl; omega)
    · obtain ⟨h1, h2⟩ := List.getElem?_eq_some_iff.1 hx
      have := hn j hj (by rw [bs_size]; exact h1)
      rw [hd j h1, h2] at this
      exact this rfl
/-- Nothing closes it. -/
theorem classR_none : ∀ (m : Nat) (l : Tx) (first : Bool) (f : UInt8 → Bool), l.length ≤ m → (∀ k : Nat, (first = true → 1 ≤ k) → l[k]? ≠ some 93) → classR first l f = none
  | _, [], _, _, _, _ => by unfold classR; rfl
  | 0, _ :: _, _, _, h, _ => by simp at h
  | m + 1, c :: r, first, f, hm, hn => by
    simp only [List.length_cons] at hm
    have h0 : ¬ (c = 93 ∧ first = false) := by
      rintro ⟨rfl, rfl⟩
      exact hn 0 (by simp) rfl
    have hr : ∀ k : Nat, r[k]? ≠ some 93 := fun k => by have := hn (k + 1) (fun _ => by omega); simpa using this
    unfold classR
    rw [if_neg h0]
    cases r with
    | nil => rfl
    | cons d r =>
      simp only [List.length_cons] at hm
      cases r with
      | nil => exact classR_none m [d] false _ (by simp; omega) (fun k _ => hr k)
      | cons e r =>
        simp only [List.length_cons] at hm
        simp only
        split
        · exact classR_none m r false _ (by omega) (fun k _ => by have := hr (k + 2); simpa using this)
        · exact classR_none m (d :: e :: r) false _ (by simp; omega) (fun k _ => hr k)
/-- The walk stands at e, has found f, and the closing sign is at the end of what is left. -/
structure Cls (P : Tx) (en : Nat) (first : Bool) (f : UInt8 → Bool) (lst : Nat) (R : Option ((UInt8 → Bool) × Tx)) : Prop where
  le : en ≤ lst
  lt : first = true → en < lst
  at_ : P[lst]? = some 93
  same : R = classR first (P.drop en) f
theorem Cls.shut {P : Tx} {en : Nat} {f : UInt8 → Bool} {lst : Nat} {R : Option ((UInt8 → Bool) × Tx)} (h : Cls P en false f lst R) (hc : P[en]? = some 93) : R = some (f, P.drop (en + 1)) := by
  rw [h.same, drop_at hc]
  unfold classR
  rw [if_pos ⟨rfl, rfl⟩]
theorem Cls.lt' {P : Tx} {en : Nat} {first : Bool} {f : UInt8 → Bool} {lst : Nat} {R : Option ((UInt8 → Bool) × Tx)} (h : Cls P en first f lst R) {c : UInt8} (hc : P[en]? = some c) (hn : ¬ (c = 93 ∧ first = false)) : en < lst := by
  rcases Nat.lt_or_ge en lst with hlt | hge
  · exact hlt
  · have : en = lst := by have := h.le; omega
    subst this
    have := h.at_
    rw [hc] at this
    injection this with this
    cases first with
    | false => exact absurd ⟨this, rfl⟩ hn
    | true => exact h.lt rfl
/-- A range. -/
theorem Cls.range {P : Tx} {en : Nat} {first : Bool} {f : UInt8 → Bool} {lst : Nat} {R : Option ((UInt8 → Bool) × Tx)} (h : Cls P en first f lst R) {c e : UInt8} (hc : P[en]? = some c) (hn : ¬ (c = 93 ∧ first = false)) (hd : P[en + 1]? = some 45) (he : P[en + 2]? = some e) (h93 : e ≠ 93) :
    Cls P (en + 3) false (fun x => f x || (decide (c ≤ x) && decide (x ≤ e))) lst R := by
  have h1 := h.lt' hc hn
  have h2 : en + 1 ≠ lst := fun x => by have := h.at_; rw [← x, hd] at this; injection this with this; cases this
  have h3 : en + 2 ≠ lst := fun x => by have := h.at_; rw [← x, he] at this; injection this with this; exact h93 this
  refine ⟨by omega, (fun x => by cases x), h.at_, ?_⟩
  rw [h.same, drop_at hc, drop_at hd, drop_at he]
  conv => lhs; unfold classR
  rw [if_neg hn]
  simp only
  rw [if_pos ⟨trivial, h93⟩]
/-- A byte alone. -/
theorem Cls.one {P : Tx} {en : Nat} {first : Bool} {f : UInt8 → Bool} {lst : Nat} {R : Option ((UInt8 → Bool) × Tx)} (h : Cls P en first f lst R) {c d : UInt8} (hc : P[en]? = some c) (hn : ¬ (c = 93 ∧ first = false)) (hd : P[en + 1]? = some d) (hr : ¬ (d = 45 ∧ P[en + 2]? ≠ some 93)) :
    Cls P (en + 1) false (fun x => f x || x == c) lst R := by
  have h1 := h.lt' hc hn
  refine ⟨by omega, (fun x => by cases x), h.at_, ?_⟩
  have h2 : ∀ (g : UInt8 → Bool), classR first (c :: P.drop (en + 1)) f = classR false (P.drop (en + 1)) (fun x => f x || x == c) := fun _ => by
    conv => lhs; unfold classR
    rw [if_neg hn, drop_at hd]
    cases he : P.drop (en + 1 + 1) with
    | nil => rfl
    | cons e r =>
      simp only
      rw [if_neg]
      rintro ⟨h45, h93⟩
      refine hr ⟨h45, fun hx => ?_⟩
      have := drop_at hx
      rw [show en + 2 = en + 1 + 1 from rfl, he] at this
      injection this with this
      exact h93 this
  rw [h.same, drop_at hc]
  exact h2 f
end Go.Proofs.YtbiinghmopgjnaaGreatDoor.Fmt
