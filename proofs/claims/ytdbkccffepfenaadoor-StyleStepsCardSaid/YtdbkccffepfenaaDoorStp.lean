/- A text of two pieces turns as the one and then the other. -/
import Derived.Test.YtdbkccffepfenaaDoorLbk
namespace Go.Proofs.YtdbkccffepfenaaDoor.Sty
open Go.RowKit

/-- A right look. -/
def RightT (s : St) : Prop := rightS s.1 s.2.1 s.2.2 = true
def bitsRow : Bool := (List.range 256).all fun a => (List.range 8).all fun i => decide (0 ≤ bits .or .i64 (a : Int) ((2 ^ i : Nat) : Int) ∧ bits .or .i64 (a : Int) ((2 ^ i : Nat) : Int) ≤ 255 ∧ 0 ≤ bits .andNot .i64 (a : Int) ((2 ^ i : Nat) : Int) ∧ bits .andNot .i64 (a : Int) ((2 ^ i : Nat) : Int) ≤ 255)
theorem bitsRow_true : bitsRow = true := by kernel_rfl
theorem bits_small (a : Int) (h0 : 0 ≤ a) (h1 : a ≤ 255) (i : Nat) (hi : i < 8) :
    0 ≤ bits .or .i64 a ((2 ^ i : Nat) : Int) ∧ bits .or .i64 a ((2 ^ i : Nat) : Int) ≤ 255 ∧ 0 ≤ bits .andNot .i64 a ((2 ^ i : Nat) : Int) ∧ bits .andNot .i64 a ((2 ^ i : Nat) : Int) ≤ 255 := by
  obtain ⟨n, rfl⟩ : ∃ n : Nat, a = n := ⟨a.toNat, by omega⟩
  have := List.all_eq_true.1 (List.all_eq_true.1 bitsRow_true n (List.mem_range.2 (by omega))) i (List.mem_range.2 hi)
  exact of_decide_eq_true this
theorem wordOf_lt {l : Tx} {i : Nat} (h : wordOf l = some i) : i < 8 := by
  unfold wordOf at h
  exact List.mem_range.1 (List.mem_of_find?_eq_some h)
theorem right_mk {s : St} (h : RightT s) : isCol s.1 = true ∧ isCol s.2.1 = true ∧ 0 ≤ s.2.2 ∧ s.2.2 ≤ 255 := rightS_parts h
theorem mk_right {a b c : Int} (h1 : isCol a = true) (h2 : isCol b = true) (h3 : 0 ≤ c) (h4 : c ≤ 255) : RightT (a, b, c) := by
  show rightS a b c = true
  unfold rightS
  simp [h1, h2, h3, h4]
theorem colourS_col {s : Tx} {c : Int} (h : colourS s = some c) : isCol c = true := (names_of_colourS h).1
/-- A right look stays right. -/
theorem turnS_right {s t : St} (q : Tx) (hs : RightT s) (h : turnS s q = some t) : RightT t := by
  obtain ⟨h1, h2, h3, h4⟩ := right_mk hs
  unfold turnS at h
  split at h
  · obtain ⟨c, hc, rfl⟩ := Option.map_eq_some_iff.1 h
    exact mk_right (colourS_col hc) h2 h3 h4
  · split at h
    · obtain ⟨c, hc, rfl⟩ := Option.map_eq_some_iff.1 h
      exact mk_right h1 (colourS_col hc) h3 h4
    · split at h
      · obtain rfl := Option.some.inj h
        exact mk_right h1 h2 (by omega) (by omega)
      · split at h
        · obtain ⟨i, hi, rfl⟩ := Option.map_eq_some_iff.1 h
          have hb := bits_small _ h3 h4 i (wordOf_lt hi)
          exact mk_right h1 h2 hb.2.2.1 hb.2.2.2
        · obtain ⟨i, hi, rfl⟩ := Option.map_eq_some_iff.1 h
          have hb := bits_small _ h3 h4 i (wordOf_lt hi)
          exact mk_right h1 h2 hb.1 hb.2.1
theorem foldS_right {over : St} (ho : RightT over) : ∀ (r : List Tx) (now t : St), RightT now → foldS over now r = some t → RightT t
  | [], now, t, hn, h => by
    rw [foldS] at h
    obtain rfl := Option.some.inj h
    exact hn
  | q :: r, now, t, hn, h => by
    rw [foldS] at h
    split at h
    · exact foldS_right ho r over t ho h
    · cases hq : turnS now q with
      | none => rw [hq] at h; cases h
      | some u => rw [hq] at h; exact foldS_right ho r u t (turnS_right q hn hq) h
/-- Whether an item is wrong does not hang on the look. -/
theorem turnS_none_any {s t : St} {q : Tx} (h : turnS s q = none) : turnS t q = none := by
  unfold turnS at h ⊢
  split at h
  · rw [if_pos (by assumption)]; rw [Option.map_eq_none_iff] at h ⊢; exact h
  · rw [if_neg (by assumption)]
    split at h
    · rw [if_pos (by assumption)]; rw [Option.map_eq_none_iff] at h ⊢; exact h
    · rw [if_neg (by assumption)]
      split at h
      · cases h
      · rw [if_neg (by assumption)]
        split at h
        · rw [if_pos (by assumption)]; rw [Option.map_eq_none_iff] at h ⊢; exact h
        · rw [if_neg (by assumption)]; rw [Option.map_eq_none_iff] at h ⊢; exact h
theorem foldS_none_any : ∀ (r : List Tx) (o1 o2 n1 n2 : St), foldS o1 n1 r = none → foldS o2 n2 r = none
  | [], _, _, _, _, h => by rw [foldS] at h; cases h
  | q :: r, o1, o2, n1, n2, h => by
    rw [foldS] at h ⊢
    by_cases hq : q = tDefault
    · rw [if_pos hq] at h ⊢
      exact foldS_none_any r o1 o2 o1 o2 h
    · rw [if_neg hq] at h ⊢
      cases h1 : turnS n1 q with
      | none => rw [turnS_none_any h1]
      | some u =>
        rw [h1] at h
        cases h2 : turnS n2 q with
        | none => rfl
        | some v => exact foldS_none_any r o1 o2 u v h
theorem foldS_app (over : St) (b : List Tx) : ∀ (a : List Tx) (now : St), foldS over now (a ++ b) = (foldS over now a).bind fun t => foldS over t b
  | [], now => rfl
  | q :: a, now => by
    rw [List.cons_append, foldS, foldS]
    by_cases hq : q = tDefault
    · rw [if_pos hq, if_pos hq, foldS_app over b a over]
    · rw [if_neg hq, if_neg hq]
      cases turnS now q with
      | none => rfl
      | some t => exact foldS_app over b a t
theorem foldS_over (o1 o2 : St) : ∀ (r : List Tx) (now : St), tDefault ∉ r → foldS o1 now r = foldS o2 now r
  | [], _, _ => rfl
  | q :: r, now, h => by
    have hq : q ≠ tDefault := fun e => h (by simp [e])
    rw [foldS, foldS, if_neg hq, if_neg hq]
    cases turnS now q with
    | none => rfl
    | some t => exact foldS_over o1 o2 r t fun hm => h (by simp [hm])
/-- Does a text hold the word 'default' anywhere? -/
def speaksS (l : Tx) : Prop := ∃ p r, low l = p ++ tDefault ++ r
theorem items_sub : ∀ (r cur : Tx), ∀ x ∈ itemsFrom cur r, ∃ p s, cur ++ r = p ++ x ++ s
  | [], cur, x, hx => by
    rw [itemsFrom] at hx
    split at hx
    · cases hx
    · rw [List.mem_singleton] at hx
      exact ⟨[], [], by simp [hx]⟩
  | b :: r, cur, x, hx => by
    rw [itemsFrom] at hx
    split at hx
    · split at hx
      · obtain ⟨p, s, h⟩ := items_sub r [] x hx
        refine ⟨cur ++ b :: p, s, ?_⟩
        rw [List.nil_append] at h
        rw [h]; simp
      · rw [List.mem_cons] at hx
        rcases hx with rfl | hx
        · exact ⟨[], b :: r, by simp⟩
        · obtain ⟨p, s, h⟩ := items_sub r [] x hx
          refine ⟨cur ++ b :: p, s, ?_⟩
          rw [List.nil_append] at h
          rw [h]; simp
    · obtain ⟨p, s, h⟩ := items_sub r (cur ++ [b]) x hx
      exact ⟨p, s, by rw [← h]; simp⟩
theorem speaks_of {l : Tx} (h : tDefault ∈ items (low l)) : speaksS l := by
  obtain ⟨p, s, e⟩ := items_sub (low l) [] _ h
  exact ⟨p, s, by simpa using e⟩
theorem low_two (a b : Tx) : items (low (a ++ 44 :: b)) = items (low a) ++ items (low b) := by
  rw [low_app, low_cons]
  have : lw 44 = 44 := by decide
  rw [this, items_app]
/-- What the law asks, of texts that are not too long. -/
theorem steps_fold {s x : St} {a b : Tx} (hs : RightT s) (ha : foldS s s (items (low a)) = some x) :
    RightT x ∧ ((foldS x x (items (low b)) = none ∧ foldS s s (items (low (a ++ 44 :: b))) = none) ∨
      ∃ y z, foldS x x (items (low b)) = some y ∧ foldS s s (items (low (a ++ 44 :: b))) = some z ∧ RightT y ∧ RightT z ∧ (y = z ∨ speaksS b)) := by
  have hx := foldS_right hs _ s x hs ha
  refine ⟨hx, ?_⟩
  rw [low_two, foldS_app, ha]
  show _ ∨ ∃ y z, _ ∧ foldS s x (items (low b)) = some z ∧ _
  cases h1 : foldS x x (items (low b)) with
  | none => exact .inl ⟨rfl, foldS_none_any _ x s x x h1⟩
  | some y =>
    cases h2 : foldS s x (items (low b)) with
    | none => rw [foldS_none_any _ s x x x h2] at h1; cases h1
    | some z =>
      refine .inr ⟨y, z, rfl, rfl, foldS_right hx _ x y hx h1, foldS_right hs _ x z hx h2, ?_⟩
      by_cases hd : tDefault ∈ items (low b)
      · exact .inr (speaks_of hd)
      · left
        rw [foldS_over x s _ x hd, h2] at h1
        exact (Option.some.inj h1).symm
end Go.Proofs.YtdbkccffepfenaaDoor.Sty
