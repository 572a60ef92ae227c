/- Patterns: from the left on, with one star to come back to. -/
import Derived.Test.YtbiinghmopgjnaaGreatDoorFsq
namespace Go.Proofs.YtbiinghmopgjnaaGreatDoor.Fmt
open Go.RowKit

def Part.isStar : Part → Bool
  | .star => true
  | .one _ => false
def Part.has : Part → UInt8 → Bool
  | .star => fun _ => false
  | .one f => f
theorem Mt_nil : Mt [] [] = true := by unfold Mt; rfl
theorem Mt_nil_cons (c : UInt8) (s : Tx) : Mt [] (c :: s) = false := by unfold Mt; rfl
theorem Mt_star_nil (l : List Part) : Mt (.star :: l) [] = Mt l [] := by rw [Mt]
theorem Mt_star_cons (l : List Part) (c : UInt8) (s : Tx) : Mt (.star :: l) (c :: s) = (Mt l (c :: s) || Mt (.star :: l) s) := by rw [Mt]
theorem Mt_one_nil (f : UInt8 → Bool) (l : List Part) : Mt (.one f :: l) [] = false := by rw [Mt]
theorem Mt_one_cons (f : UInt8 → Bool) (l : List Part) (c : UInt8) (s : Tx) : Mt (.one f :: l) (c :: s) = (f c && Mt l s) := by rw [Mt]
theorem Mt_star (l : List Part) : ∀ (s : Tx), Mt (.star :: l) s = true ↔ ∃ k, k ≤ s.length ∧ Mt l (s.drop k) = true
  | [] => by
    rw [Mt_star_nil]
    constructor
    · intro h; exact ⟨0, Nat.le_refl _, h⟩
    · rintro ⟨k, hk, h⟩; simpa using h
  | c :: s => by
    rw [Mt_star_cons, Bool.or_eq_true, Mt_star l s]
    constructor
    · rintro (h | ⟨k, hk, h⟩)
      · exact ⟨0, Nat.zero_le _, h⟩
      · exact ⟨k + 1, by simp; omega, by simpa using h⟩
    · rintro ⟨k, hk, h⟩
      cases k with
      | zero => exact .inl h
      | succ k => exact .inr ⟨k, by simp at hk; omega, by simpa using h⟩
/-- Parts that are no star take a byte each. -/
theorem Mt_ones : ∀ (u : List Part) (l : List Part) (s : Tx), u.all (fun p => !p.isStar) = true → Mt (u ++ l) s = true → u.length ≤ s.length ∧ Mt l (s.drop u.length) = true
  | [], l, s, _, h => ⟨Nat.zero_le _, h⟩
  | .star :: u, l, s, ha, h => by simp [Part.isStar] at ha
  | .one f :: u, l, [], ha, h => by rw [List.cons_append, Mt_one_nil] at h; cases h
  | .one f :: u, l, c :: s, ha, h => by
    rw [List.cons_append, Mt_one_cons, Bool.and_eq_true] at h
    obtain ⟨h1, h2⟩ := Mt_ones u l s (by simp [Part.isStar] at ha ⊢; exact ha) h.2
    exact ⟨by simp; omega, by simpa using h2⟩

/-- What is so when the walk over a text stands at part n and byte i; the last star was part t, and it ended at byte g. -/
structure At (l : List Part) (s : Tx) (n : Nat) (t : Int) (g i : Nat) : Prop where
  n_le : n ≤ l.length
  i_le : i ≤ s.length
  behind : 0 ≤ t → t < n ∧ g ≤ i ∧ i + (t.toNat + 1) = g + n ∧ ((l.drop (t.toNat + 1)).take (i - g)).all (fun p => !p.isStar) = true
  low : -1 ≤ t
  same : Mt l s = true ↔ Mt (l.drop n) (s.drop i) = true ∨ (0 ≤ t ∧ ∃ k, g < k ∧ k ≤ s.length ∧ Mt (l.drop (t.toNat + 1)) (s.drop k) = true)
theorem At.start (l : List Part) (s : Tx) : At l s 0 (-1) 0 0 := ⟨Nat.zero_le _, Nat.zero_le _, fun h => by omega, Int.le_refl _, by simp⟩
theorem drop_at {α : Type} {l : List α} {n : Nat} {p : α} (h : l[n]? = some p) : l.drop n = p :: l.drop (n + 1) := by
  obtain ⟨hl, rfl⟩ := List.getElem?_eq_some_iff.1 h
  exact List.drop_eq_getElem_cons hl
/-- What stands behind the last star is parts without a star, and then what is still to come. -/
theorem At.parts {l : List Part} {s : Tx} {n : Nat} {t : Int} {g i : Nat} (h : At l s n t g i) (ht : 0 ≤ t) : ∃ u, u.all (fun p => !p.isStar) = true ∧ u.length = i - g ∧ l.drop (t.toNat + 1) = u ++ l.drop n := by
  obtain ⟨h1, h2, h3, h4⟩ := h.behind ht
  have hn := h.n_le
  refine ⟨_, h4, ?_, ?_⟩
  · rw [List.length_take, List.length_drop]; omega
  · have e : l.drop n = (l.drop (t.toNat + 1)).drop (i - g) := by rw [List.drop_drop]; congr 1; omega
    rw [e, List.take_append_drop]
theorem At.star {l : List Part} {s : Tx} {n : Nat} {t : Int} {g i : Nat} (h : At l s n t g i) (hn : l[n]? = some .star) : At l s (n + 1) n i i := by
  have hl : n < l.length := (List.getElem?_eq_some_iff.1 hn).1
  refine ⟨hl, h.i_le, fun _ => ⟨by omega, Nat.le_refl _, by omega, by simp⟩, by omega, ?_⟩
  rw [h.same, drop_at hn]
  have ec : ((n : Nat) : Int).toNat = n := by omega
  rw [ec]
  have key : Mt (.star :: l.drop (n + 1)) (s.drop i) = true ↔ (Mt (l.drop (n + 1)) (s.drop i) = true ∨ (0 ≤ ((n : Nat) : Int) ∧ ∃ k, i < k ∧ k ≤ s.length ∧ Mt (l.drop (n + 1)) (s.drop k) = true)) := by
    rw [Mt_star]
    constructor
    · rintro ⟨k, hk, hm⟩
      rw [List.drop_drop] at hm
      rw [List.length_drop] at hk
      cases k with
      | zero => exact .inl hm
      | succ k => exact .inr ⟨by omega, i + (k + 1), by omega, by have := h.i_le; omega, hm⟩
    · rintro (hm | ⟨_, k, hk, hk2, hm⟩)
      · exact ⟨0, Nat.zero_le _, hm⟩
      · refine ⟨k - i, by rw [List.length_drop]; omega, ?_⟩
        rw [List.drop_drop, show i + (k - i) = k by omega]
        exact hm
  rw [← key]
  constructor
  · rintro (hm | ⟨ht, k, hk, hk2, hm⟩)
    · exact hm
    · obtain ⟨u, hu, hul, he⟩ := h.parts ht
      obtain ⟨_, hg, _, _⟩ := h.behind ht
      rw [he, drop_at hn] at hm
      obtain ⟨h1, h2⟩ := Mt_ones u _ _ hu hm
      rw [List.drop_drop] at h2
      rw [List.length_drop] at h1
      obtain ⟨j, hj, h3⟩ := (Mt_star _ _).1 h2
      rw [List.drop_drop] at h3
      rw [List.length_drop] at hj
      refine (Mt_star _ _).2 ⟨k + u.length + j - i, by rw [List.length_drop]; omega, ?_⟩
      rw [List.drop_drop, show i + (k + u.length + j - i) = k + u.length + j by omega]
      exact h3
  · exact fun hm => .inl hm
theorem At.byte {l : List Part} {s : Tx} {n : Nat} {t : Int} {g i : Nat} (h : At l s n t g i) {f : UInt8 → Bool} {c : UInt8} (hn : l[n]? = some (.one f)) (hi : s[i]? = some c) (hf : f c = true) : At l s (n + 1) t g (i + 1) := by
  have hl : n < l.length := (List.getElem?_eq_some_iff.1 hn).1
  have his : i < s.length := (List.getElem?_eq_some_iff.1 hi).1
  refine ⟨hl, his, fun ht => ?_, h.low, ?_⟩
  · obtain ⟨h1, h2, h3, h4⟩ := h.behind ht
    refine ⟨by omega, by omega, by omega, ?_⟩
    rw [show i + 1 - g = (i - g) + 1 by omega, List.take_add_one, List.all_append, h4, List.getElem?_drop, show t.toNat + 1 + (i - g) = n by omega, hn]
    rfl
  · rw [h.same, drop_at hn, drop_at hi, Mt_one_cons, hf, Bool.true_and]
theorem mt_fails {l : List Part} {s : Tx} {n i : Nat} {c : UInt8} (hi : s[i]? = some c) (hn : l[n]? = none ∨ ∃ f, l[n]? = some (.one f) ∧ f c = false) : Mt (l.drop n) (s.drop i) = false := by
  rw [drop_at hi]
  rcases hn with e | ⟨f, e, hf⟩
  · rw [List.drop_of_length_le (List.getElem?_eq_none_iff.1 e), Mt_nil_cons]
  · rw [drop_at e, Mt_one_cons, hf, Bool.false_and]
theorem At.back {l : List Part} {s : Tx} {n : Nat} {t : Int} {g i : Nat} (h : At l s n t g i) {c : UInt8} (hi : s[i]? = some c) (hn : l[n]? = none ∨ ∃ f, l[n]? = some (.one f) ∧ f c = false) (ht : 0 ≤ t) : At l s (t.toNat + 1) t (g + 1) (g + 1) := by
  have his : i < s.length := (List.getElem?_eq_some_iff.1 hi).1
  obtain ⟨h1, h2, h3, h4⟩ := h.behind ht
  have hnl := h.n_le
  refine ⟨by omega, by omega, fun _ => ⟨by omega, Nat.le_refl _, by omega, by simp⟩, h.low, ?_⟩
  rw [h.same, mt_fails hi hn]
  simp only [Bool.false_eq_true, false_or]
  constructor
  · rintro ⟨_, k, hk, hk2, hm⟩
    rcases Nat.lt_or_ge (g + 1) k with hlt | hge
    · exact .inr ⟨ht, k, hlt, hk2, hm⟩
    · obtain rfl : k = g + 1 := by omega
      exact .inl hm
  · rintro (hm | ⟨_, k, hk, hk2, hm⟩)
    · exact ⟨ht, g + 1, by omega, by omega, hm⟩
    · exact ⟨ht, k, by omega, hk2, hm⟩
theorem At.no {l : List Part} {s : Tx} {n : Nat} {t : Int} {g i : Nat} (h : At l s n t g i) {c : UInt8} (hi : s[i]? = some c) (hn : l[n]? = none ∨ ∃ f, l[n]? = some (.one f) ∧ f c = false) (ht : t < 0) : Mt l s = false := by
  have := h.same
  rw [mt_fails hi hn] at this
  cases hm : Mt l s with
  | false => rfl
  | true =>
    rcases this.1 hm with x | ⟨x, _⟩
    · cases x
    · omega
theorem At.done {l : List Part} {s : Tx} {n : Nat} {t : Int} {g i : Nat} (h : At l s n t g i) (hi : s.length ≤ i) : Mt l s = Mt (l.drop n) [] := by
  have hs := h.same
  have hil := h.i_le
  rw [List.drop_of_length_le hi] at hs
  cases hm : Mt (l.drop n) [] with
  | true => exact hs.2 (.inl hm)
  | false =>
    rw [hm] at hs
    cases hx : Mt l s with
    | false => rfl
    | true =>
      rcases hs.1 hx with x | ⟨ht, k, hk, hk2, hy⟩
      · cases x
      · obtain ⟨u, hu, hul, he⟩ := h.parts ht
        rw [he] at hy
        obtain ⟨h1, _⟩ := Mt_ones u _ _ hu hy
        rw [List.length_drop] at h1
        obtain ⟨_, hg, _, _⟩ := h.behind ht
        omega
/-- How many rounds are left at the most. -/
def left3 (K a b c : Nat) : Nat := a * (K * K) + b * K + c
theorem left3_c {K a b c c' : Nat} (h : c' < c) : left3 K a b c' < left3 K a b c := by unfold left3; omega
theorem left3_b {K a b b' c c' : Nat} (h : b' < b) (hc : c' < K) : left3 K a b' c' < left3 K a b c := by
  unfold left3
  have : (b' + 1) * K ≤ b * K := Nat.mul_le_mul_right K h
  rw [Nat.add_mul] at this
  omega
theorem left3_a {K a a' b b' c c' : Nat} (h : a' < a) (hb : b' < K) (hc : c' < K) : left3 K a' b' c' < left3 K a b c := by
  unfold left3
  have h1 : (a' + 1) * (K * K) ≤ a * (K * K) := Nat.mul_le_mul_right _ h
  have h2 : (b' + 1) * K ≤ K * K := Nat.mul_le_mul_right K hb
  rw [Nat.add_mul] at h1 h2
  omega
end Go.Proofs.YtbiinghmopgjnaaGreatDoor.Fmt
