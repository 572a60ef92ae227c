/- The plain functions of layer 1 (bytes to runes, widths, cuts, fills), on lists and integers, with their laws; no program is named here. -/
import Derived.Laws.Cover4
import Derived.Laws.Runes
namespace Go.Proofs.YtbiinghmopgjnaaGreatDoor.Cel

/-- What a decoder holds: bytes pending, bytes missing, the bits so far, the next byte's bounds. -/
structure Dec where
  p : Int
  m : Int
  r : Int
  lo : Int
  hi : Int

def zero : Dec := ⟨0, 0, 0, 0, 0⟩

/-- How many bytes go behind the second one; -1: the byte opens nothing. -/
def more (b : Int) : Int := if 194 ≤ b ∧ b ≤ 223 then 0 else if 224 ≤ b ∧ b ≤ 239 then 1 else if 240 ≤ b ∧ b ≤ 244 then 2 else -1
def lo (b : Int) : Int := if b = 224 then 160 else if b = 240 then 144 else 128
def hi (b : Int) : Int := if b = 237 then 159 else if b = 244 then 143 else 191
def mask (b : Int) : Int := if b ≤ 223 then b - 192 else if b ≤ 239 then b - 224 else b - 240
def opened (b : Int) : Dec := ⟨1, 1 + more b, mask b, lo b, hi b⟩

/-- What is told of pending bytes that are given up. -/
def lost (d : Dec) : List Int := if d.p = 0 then [] else [65533]
def first (b : Int) : Dec × List Int := if b < 128 then (zero, [b]) else if more b = -1 then (zero, [65533]) else (opened b, [])
def next (d : Dec) (b : Int) : Dec × List Int := if d.m = 1 then (zero, [d.r * 64 + b % 64]) else (⟨d.p + 1, d.m - 1, d.r * 64 + b % 64, 128, 191⟩, [])
def fits (d : Dec) (b : Int) : Prop := 0 < d.p ∧ d.lo ≤ b ∧ b ≤ d.hi
instance (d : Dec) (b : Int) : Decidable (fits d b) := by unfold fits; infer_instance
def step (d : Dec) (b : Int) : Dec × List Int := if fits d b then next d b else ((first b).1, lost d ++ (first b).2)

def run : Dec → List UInt8 → Dec × List Int
  | d, [] => (d, [])
  | d, b :: l => ((run (step d (b.toNat : Int)).1 l).1, (step d (b.toNat : Int)).2 ++ (run (step d (b.toNat : Int)).1 l).2)
def runes (l : List UInt8) : List Int := (run zero l).2 ++ lost (run zero l).1

/-- The states that a decoder can be in. -/
def Inv (d : Dec) : Prop :=
  d = zero ∨ (d.p = 1 ∧ d.m = 1 ∧ 2 ≤ d.r ∧ d.r ≤ 31 ∧ d.lo = 128 ∧ d.hi = 191) ∨
  (d.p = 1 ∧ d.m = 2 ∧ ((d.r = 0 ∧ d.lo = 160 ∧ d.hi = 191) ∨ (d.r = 13 ∧ d.lo = 128 ∧ d.hi = 159) ∨ (1 ≤ d.r ∧ d.r ≤ 15 ∧ d.r ≠ 13 ∧ d.lo = 128 ∧ d.hi = 191))) ∨
  (d.p = 1 ∧ d.m = 3 ∧ ((d.r = 0 ∧ d.lo = 144 ∧ d.hi = 191) ∨ (d.r = 4 ∧ d.lo = 128 ∧ d.hi = 143) ∨ (1 ≤ d.r ∧ d.r ≤ 3 ∧ d.lo = 128 ∧ d.hi = 191))) ∨
  (d.p = 2 ∧ d.m = 1 ∧ 32 ≤ d.r ∧ d.r ≤ 1023 ∧ ¬ (864 ≤ d.r ∧ d.r ≤ 895) ∧ d.lo = 128 ∧ d.hi = 191) ∨
  (d.p = 2 ∧ d.m = 2 ∧ 16 ≤ d.r ∧ d.r ≤ 271 ∧ d.lo = 128 ∧ d.hi = 191) ∨
  (d.p = 3 ∧ d.m = 1 ∧ 1024 ≤ d.r ∧ d.r ≤ 17407 ∧ d.lo = 128 ∧ d.hi = 191)

/-- A rune that can be written. -/
def good (r : Int) : Prop := (0 ≤ r ∧ r < 55296) ∨ (57344 ≤ r ∧ r ≤ 1114111)
theorem good_valid {r : Int} (h : good r) : Utf8.valid r = true := by
  rw [validRune_eq]; unfold validRune good at *; simp; omega

/-- The bounds that a decoder's fields keep. -/
structure Bd (d : Dec) : Prop where
  p0 : 0 ≤ d.p
  p1 : d.p ≤ 3
  m0 : 0 ≤ d.m
  m1 : d.m ≤ 3
  r0 : 0 ≤ d.r
  r1 : d.r ≤ 17407
  lo0 : 0 ≤ d.lo
  lo1 : d.lo ≤ 255
  hi0 : 0 ≤ d.hi
  hi1 : d.hi ≤ 255
  pm : d.p = 0 ↔ d.m = 0
theorem Inv.bd {d : Dec} (h : Inv d) : Bd d := by
  unfold Inv at h
  rcases h with h | h
  · subst h; constructor <;> simp [zero]
  · constructor <;> omega
theorem Inv.zero_of {d : Dec} (h : Inv d) (hp : d.p = 0) : d = zero := by
  unfold Inv at h
  rcases h with h | h
  · exact h
  · exfalso; omega
theorem inv_zero : Inv zero := Or.inl rfl

theorem inv_p1m1 {r : Int} (h1 : 2 ≤ r) (h2 : r ≤ 31) : Inv ⟨1, 1, r, 128, 191⟩ := Or.inr (Or.inl ⟨rfl, rfl, h1, h2, rfl, rfl⟩)
theorem inv_p2m1 {r : Int} (h1 : 32 ≤ r) (h2 : r ≤ 1023) (h3 : ¬ (864 ≤ r ∧ r ≤ 895)) : Inv ⟨2, 1, r, 128, 191⟩ := Or.inr (Or.inr (Or.inr (Or.inr (Or.inl ⟨rfl, rfl, h1, h2, h3, rfl, rfl⟩))))
theorem inv_p2m2 {r : Int} (h1 : 16 ≤ r) (h2 : r ≤ 271) : Inv ⟨2, 2, r, 128, 191⟩ := Or.inr (Or.inr (Or.inr (Or.inr (Or.inr (Or.inl ⟨rfl, rfl, h1, h2, rfl, rfl⟩)))))
theorem inv_p3m1 {r : Int} (h1 : 1024 ≤ r) (h2 : r ≤ 17407) : Inv ⟨3, 1, r, 128, 191⟩ := Or.inr (Or.inr (Or.inr (Or.inr (Or.inr (Or.inr ⟨rfl, rfl, h1, h2, rfl, rfl⟩)))))
theorem next_one {d : Dec} {b : Int} (hm : d.m = 1) : next d b = (zero, [d.r * 64 + b % 64]) := by unfold next; rw [if_pos hm]
theorem next_more {d : Dec} {b : Int} (hm : d.m ≠ 1) : next d b = (⟨d.p + 1, d.m - 1, d.r * 64 + b % 64, 128, 191⟩, []) := by unfold next; rw [if_neg hm]
theorem next_inv {d : Dec} {b : Int} (h : Inv d) (hf : fits d b) : Inv (next d b).1 ∧ ∀ r ∈ (next d b).2, good r := by
  obtain ⟨p, m, r, l, u⟩ := d
  unfold fits at hf
  unfold Inv at h
  simp only at hf h
  have one : ∀ x : Int, good x → Inv (zero, [x]).1 ∧ ∀ r ∈ (zero, [x]).2, good r := fun x hx => ⟨inv_zero, fun r hr => by simp at hr; subst hr; exact hx⟩
  rcases h with h | ⟨rfl, rfl, h⟩ | ⟨rfl, rfl, h⟩ | ⟨rfl, rfl, h⟩ | ⟨rfl, rfl, h⟩ | ⟨rfl, rfl, h⟩ | ⟨rfl, rfl, h⟩
  · exfalso; simp only [zero, Dec.mk.injEq] at h; omega
  · rw [next_one rfl]; refine one _ ?_; unfold good; simp only; omega
  · rw [next_more (by simp only; omega)]
    refine ⟨?_, by simp⟩
    show Inv ⟨1 + 1, 2 - 1, r * 64 + b % 64, 128, 191⟩
    exact inv_p2m1 (by rcases h with h | h | h <;> omega) (by rcases h with h | h | h <;> omega) (by rcases h with h | h | h <;> omega)
  · rw [next_more (by simp only; omega)]
    refine ⟨?_, by simp⟩
    show Inv ⟨1 + 1, 3 - 1, r * 64 + b % 64, 128, 191⟩
    exact inv_p2m2 (by rcases h with h | h | h <;> omega) (by rcases h with h | h | h <;> omega)
  · rw [next_one rfl]; refine one _ ?_; unfold good; simp only; omega
  · rw [next_more (by simp only; omega)]
    refine ⟨?_, by simp⟩
    show Inv ⟨2 + 1, 2 - 1, r * 64 + b % 64, 128, 191⟩
    exact inv_p3m1 (by omega) (by omega)
  · rw [next_one rfl]; refine one _ ?_; unfold good; simp only; omega
/-- The bytes that open a sequence. -/
theorem opens {b : Int} (hm : more b ≠ -1) :
    (194 ≤ b ∧ b ≤ 223 ∧ more b = 0 ∧ mask b = b - 192 ∧ lo b = 128 ∧ hi b = 191) ∨ (b = 224 ∧ more b = 1 ∧ mask b = 0 ∧ lo b = 160 ∧ hi b = 191) ∨
    (b = 237 ∧ more b = 1 ∧ mask b = 13 ∧ lo b = 128 ∧ hi b = 159) ∨ (225 ≤ b ∧ b ≤ 239 ∧ b ≠ 237 ∧ more b = 1 ∧ mask b = b - 224 ∧ lo b = 128 ∧ hi b = 191) ∨
    (b = 240 ∧ more b = 2 ∧ mask b = 0 ∧ lo b = 144 ∧ hi b = 191) ∨ (241 ≤ b ∧ b ≤ 243 ∧ more b = 2 ∧ mask b = b - 240 ∧ lo b = 128 ∧ hi b = 191) ∨
    (b = 244 ∧ more b = 2 ∧ mask b = 4 ∧ lo b = 128 ∧ hi b = 143) := by
  have hr : (194 ≤ b ∧ b ≤ 223) ∨ b = 224 ∨ b = 237 ∨ (225 ≤ b ∧ b ≤ 239 ∧ b ≠ 237) ∨ b = 240 ∨ (241 ≤ b ∧ b ≤ 243) ∨ b = 244 := by
    unfold more at hm
    repeat' split at hm
    all_goals omega
  rcases hr with h | rfl | rfl | h | rfl | h | rfl
  · left
    have e1 : more b = 0 := by unfold more; rw [if_pos h]
    have e2 : mask b = b - 192 := by unfold mask; rw [if_pos h.2]
    have e3 : lo b = 128 := by unfold lo; rw [if_neg (by omega), if_neg (by omega)]
    have e4 : hi b = 191 := by unfold hi; rw [if_neg (by omega), if_neg (by omega)]
    exact ⟨h.1, h.2, e1, e2, e3, e4⟩
  · right; left; decide
  · right; right; left; decide
  · right; right; right; left
    have e1 : more b = 1 := by unfold more; rw [if_neg (by omega), if_pos (by omega)]
    have e2 : mask b = b - 224 := by unfold mask; rw [if_neg (by omega), if_pos (by omega)]
    have e3 : lo b = 128 := by unfold lo; rw [if_neg (by omega), if_neg (by omega)]
    have e4 : hi b = 191 := by unfold hi; rw [if_neg (by omega), if_neg (by omega)]
    exact ⟨h.1, h.2.1, h.2.2, e1, e2, e3, e4⟩
  · right; right; right; right; left; decide
  · right; right; right; right; right; left
    have e1 : more b = 2 := by unfold more; rw [if_neg (by omega), if_neg (by omega), if_pos (by omega)]
    have e2 : mask b = b - 240 := by unfold mask; rw [if_neg (by omega), if_neg (by omega)]
    have e3 : lo b = 128 := by unfold lo; rw [if_neg (by omega), if_neg (by omega)]
    have e4 : hi b = 191 := by unfold hi; rw [if_neg (by omega), if_neg (by omega)]
    exact ⟨h.1, h.2, e1, e2, e3, e4⟩
  · right; right; right; right; right; right; decide
theorem opened_inv {b : Int} (hm : more b ≠ -1) : Inv (opened b) := by
  unfold opened
  rcases opens hm with ⟨h1, h2, e1, e2, e3, e4⟩ | ⟨_, e1, e2, e3, e4⟩ | ⟨_, e1, e2, e3, e4⟩ | ⟨h1, h2, h3, e1, e2, e3, e4⟩ | ⟨_, e1, e2, e3, e4⟩ | ⟨h1, h2, e1, e2, e3, e4⟩ | ⟨_, e1, e2, e3, e4⟩
  all_goals (rw [e1, e2, e3, e4])
  · exact inv_p1m1 (by omega) (by omega)
  · exact Or.inr (Or.inr (Or.inl ⟨rfl, rfl, Or.inl ⟨rfl, rfl, rfl⟩⟩))
  · exact Or.inr (Or.inr (Or.inl ⟨rfl, rfl, Or.inr (Or.inl ⟨rfl, rfl, rfl⟩)⟩))
  · exact Or.inr (Or.inr (Or.inl ⟨rfl, rfl, Or.inr (Or.inr ⟨show 1 ≤ b - 224 by omega, show b - 224 ≤ 15 by omega, show b - 224 ≠ 13 by omega, rfl, rfl⟩)⟩))
  · exact Or.inr (Or.inr (Or.inr (Or.inl ⟨rfl, rfl, Or.inl ⟨rfl, rfl, rfl⟩⟩)))
  · exact Or.inr (Or.inr (Or.inr (Or.inl ⟨rfl, rfl, Or.inr (Or.inr ⟨show 1 ≤ b - 240 by omega, show b - 240 ≤ 3 by omega, rfl, rfl⟩)⟩)))
  · exact Or.inr (Or.inr (Or.inr (Or.inl ⟨rfl, rfl, Or.inr (Or.inl ⟨rfl, rfl, rfl⟩)⟩)))
theorem first_inv {b : Int} (h0 : 0 ≤ b) (h1 : b ≤ 255) : Inv (first b).1 ∧ ∀ r ∈ (first b).2, good r := by
  unfold first
  split
  · refine ⟨inv_zero, ?_⟩
    intro r hr; simp at hr; subst hr; unfold good; omega
  · split
    · refine ⟨inv_zero, ?_⟩
      intro r hr; simp at hr; subst hr; unfold good; omega
    · rename_i hb hm
      exact ⟨opened_inv hm, by simp⟩
theorem lost_good (d : Dec) : ∀ r ∈ lost d, good r := by
  intro r hr
  unfold lost at hr
  split at hr
  · cases hr
  · simp at hr; subst hr; unfold good; omega
theorem step_inv {d : Dec} {b : Int} (h : Inv d) (h0 : 0 ≤ b) (h1 : b ≤ 255) : Inv (step d b).1 ∧ ∀ r ∈ (step d b).2, good r := by
  unfold step
  split
  · exact next_inv h ‹_›
  · refine ⟨(first_inv h0 h1).1, ?_⟩
    intro r hr
    rcases List.mem_append.1 hr with hr | hr
    · exact lost_good d r hr
    · exact (first_inv h0 h1).2 r hr

def pend (d : Dec) : Nat := if d.p = 0 then 0 else 1
theorem lost_length (d : Dec) : (lost d).length = pend d := by unfold lost pend; split <;> rfl
theorem first_count (b : Int) : (first b).2.length + pend (first b).1 = 1 := by
  unfold first
  split
  · simp [pend, zero]
  · split <;> simp [pend, zero, opened]
theorem step_count (d : Dec) (b : Int) : (step d b).2.length + pend (step d b).1 ≤ pend d + 1 := by
  unfold step
  split
  · rename_i hf
    unfold next
    have hp : pend d = 1 := by unfold pend; rw [if_neg]; unfold fits at hf; omega
    split
    · simp [pend, zero]
    · simp only [List.length_nil]; unfold pend at *; split <;> omega
  · have := first_count b
    simp only [List.length_append, lost_length]
    omega

theorem byte_le (b : UInt8) : 0 ≤ (b.toNat : Int) ∧ (b.toNat : Int) ≤ 255 := by
  have := b.toNat_lt
  omega
theorem run_inv : ∀ (l : List UInt8) (d : Dec), Inv d → Inv (run d l).1 ∧ ∀ r ∈ (run d l).2, good r
  | [], d, h => ⟨h, by simp [run]⟩
  | b :: l, d, h => by
    have hb := byte_le b
    have hs := step_inv h hb.1 hb.2
    have ih := run_inv l _ hs.1
    refine ⟨ih.1, ?_⟩
    intro r hr
    simp only [run] at hr
    rcases List.mem_append.1 hr with hr | hr
    · exact hs.2 r hr
    · exact ih.2 r hr
theorem run_count : ∀ (l : List UInt8) (d : Dec), Inv d → (run d l).2.length + pend (run d l).1 ≤ pend d + l.length
  | [], d, _ => by simp [run]
  | b :: l, d, h => by
    have hb := byte_le b
    have hs := step_inv h hb.1 hb.2
    have ih := run_count l _ hs.1
    have hc := step_count d (b.toNat : Int)
    simp only [run, List.length_append, List.length_cons]
    omega
theorem run_append : ∀ (l k : List UInt8) (d : Dec), run d (l ++ k) = ((run (run d l).1 k).1, (run d l).2 ++ (run (run d l).1 k).2)
  | [], k, d => by simp [run]
  | b :: l, k, d => by
    have ih := run_append l k (step d (b.toNat : Int)).1
    simp only [List.cons_append, run, ih, List.append_assoc]
theorem run_snoc (l : List UInt8) (b : UInt8) (d : Dec) : run d (l ++ [b]) = ((step (run d l).1 (b.toNat : Int)).1, (run d l).2 ++ (step (run d l).1 (b.toNat : Int)).2) := by
  rw [run_append]; simp [run]
theorem runes_good (l : List UInt8) : ∀ r ∈ runes l, good r := by
  intro r hr
  unfold runes at hr
  rcases List.mem_append.1 hr with hr | hr
  · exact (run_inv l zero inv_zero).2 r hr
  · exact lost_good _ r hr
theorem runes_length (l : List UInt8) : (runes l).length ≤ l.length := by
  have h := run_count l zero inv_zero
  have h0 : pend zero = 0 := by simp [pend, zero]
  unfold runes
  rw [List.length_append, lost_length]
  omega

/-! ### The document's way: a rune at the front -/

/-- The document's inner loop: bits, bounds, bytes missing, bytes taken. -/
def scan : Int → Int → Int → Nat → Nat → List UInt8 → Int × Nat
  | r, _, _, 0, i, _ => (r, i)
  | _, _, _, _ + 1, _, [] => (0, 0)
  | r, lo, hi, m + 1, i, b :: l => if (b.toNat : Int) < lo ∨ hi < (b.toNat : Int) then (65533, i) else scan (r * 64 + (b.toNat : Int) % 64) 128 191 m (i + 1) l
def takeAt (b : Int) (l : List UInt8) : Int × Nat := if b < 128 then (b, 1) else if more b = -1 then (65533, 1) else scan (mask b) (lo b) (hi b) (more b + 1).toNat 1 l
def take : List UInt8 → Int × Nat
  | [] => (0, 0)
  | b :: l => takeAt (b.toNat : Int) l

theorem scan_run : ∀ (l : List UInt8) (m i : Nat) (r lo hi : Int), 0 < i →
    ((scan r lo hi (m + 1) i l).2 = 0 ∧ (run ⟨i, m + 1, r, lo, hi⟩ l).2 = [] ∧ (run ⟨i, m + 1, r, lo, hi⟩ l).1.p = i + l.length) ∨
    (i ≤ (scan r lo hi (m + 1) i l).2 ∧ (scan r lo hi (m + 1) i l).2 ≤ i + l.length ∧
      run ⟨i, m + 1, r, lo, hi⟩ l = ((run zero (l.drop ((scan r lo hi (m + 1) i l).2 - i))).1, (scan r lo hi (m + 1) i l).1 :: (run zero (l.drop ((scan r lo hi (m + 1) i l).2 - i))).2))
  | [], m, i, r, lo, hi, hi0 => by left; simp [scan, run]
  | b :: l, m, i, r, lo, hi, hi0 => by
    by_cases hb : (b.toNat : Int) < lo ∨ hi < (b.toNat : Int)
    · right
      have hs : scan r lo hi (m + 1) i (b :: l) = (65533, i) := by simp only [scan]; rw [if_pos hb]
      rw [hs]
      refine ⟨Nat.le_refl _, by simp, ?_⟩
      have hf : ¬ fits ⟨i, m + 1, r, lo, hi⟩ (b.toNat : Int) := by unfold fits; simp only; omega
      have hz : ¬ fits zero (b.toNat : Int) := by unfold fits zero; simp only; omega
      have hl : lost ⟨(i : Int), m + 1, r, lo, hi⟩ = [65533] := by unfold lost; rw [if_neg (by simp only; omega)]
      have hl0 : lost zero = [] := rfl
      simp only [Nat.sub_self, List.drop_zero, run, step, if_neg hf, if_neg hz, hl, hl0, List.nil_append, List.cons_append]
    · have hs : scan r lo hi (m + 1) i (b :: l) = scan (r * 64 + (b.toNat : Int) % 64) 128 191 m (i + 1) l := by simp only [scan]; rw [if_neg hb]
      have hf : fits ⟨i, m + 1, r, lo, hi⟩ (b.toNat : Int) := by unfold fits; simp only; omega
      rw [hs]
      cases m with
      | zero =>
        right
        simp only [scan]
        refine ⟨by omega, by simp, ?_⟩
        have he : i + 1 - i = 1 := by omega
        have hn : next ⟨(i : Int), ((0 : Nat) : Int) + 1, r, lo, hi⟩ (b.toNat : Int) = (zero, [r * 64 + (b.toNat : Int) % 64]) := by unfold next; rw [if_pos (by simp)]
        simp only [he, List.drop_succ_cons, List.drop_zero, run, step, if_pos hf, hn, List.cons_append, List.nil_append]
      | succ m =>
        have hn : next ⟨(i : Int), ((m + 1 : Nat) : Int) + 1, r, lo, hi⟩ (b.toNat : Int) = (⟨((i + 1 : Nat) : Int), (m : Int) + 1, r * 64 + (b.toNat : Int) % 64, 128, 191⟩, []) := by
          unfold next
          rw [if_neg (by simp only; omega)]
          simp only [Prod.mk.injEq, Dec.mk.injEq, and_true]
          omega
        have hr : run ⟨(i : Int), ((m + 1 : Nat) : Int) + 1, r, lo, hi⟩ (b :: l) = run ⟨((i + 1 : Nat) : Int), (m : Int) + 1, r * 64 + (b.toNat : Int) % 64, 128, 191⟩ l := by
          simp only [run, step, if_pos hf, hn, List.nil_append]
        rw [hr]
        rcases scan_run l m (i + 1) (r * 64 + (b.toNat : Int) % 64) 128 191 (by omega) with ⟨h1, h2, h3⟩ | ⟨h1, h2, h3⟩
        · left
          refine ⟨h1, h2, ?_⟩
          rw [h3]
          simp only [List.length_cons]
          omega
        · right
          refine ⟨by omega, by simp only [List.length_cons]; omega, ?_⟩
          rw [h3]
          have he : (scan (r * 64 + (b.toNat : Int) % 64) 128 191 (m + 1) (i + 1) l).2 - i = (scan (r * 64 + (b.toNat : Int) % 64) 128 191 (m + 1) (i + 1) l).2 - (i + 1) + 1 := by omega
          rw [he, List.drop_succ_cons]

theorem step_zero (b : Int) : step zero b = first b := by
  have hz : ¬ fits zero b := by unfold fits zero; simp
  unfold step
  rw [if_neg hz]
  rfl
theorem run_zero_cons (b : UInt8) (l : List UInt8) : run zero (b :: l) = ((run (first (b.toNat : Int)).1 l).1, (first (b.toNat : Int)).2 ++ (run (first (b.toNat : Int)).1 l).2) := by
  rw [← step_zero]
  rfl
theorem first_one {b : Int} (h : b < 128) : first b = (zero, [b]) := by unfold first; rw [if_pos h]
theorem first_bad {b : Int} (h : ¬ b < 128) (h2 : more b = -1) : first b = (zero, [65533]) := by unfold first; rw [if_neg h, if_pos h2]
theorem first_open {b : Int} (h : ¬ b < 128) (h2 : more b ≠ -1) : first b = (opened b, []) := by unfold first; rw [if_neg h, if_neg h2]
theorem take_cons (b : UInt8) (l : List UInt8) : take (b :: l) = takeAt (b.toNat : Int) l := rfl
theorem take_one {b : Int} {l : List UInt8} (h : b < 128) : takeAt b l = (b, 1) := by unfold takeAt; rw [if_pos h]
theorem take_bad {b : Int} {l : List UInt8} (h : ¬ b < 128) (h2 : more b = -1) : takeAt b l = (65533, 1) := by unfold takeAt; rw [if_neg h, if_pos h2]
theorem take_open {b : Int} {l : List UInt8} (h : ¬ b < 128) (h2 : more b ≠ -1) : takeAt b l = scan (mask b) (lo b) (hi b) (more b + 1).toNat 1 l := by unfold takeAt; rw [if_neg h, if_neg h2]
theorem more_nat {b : Int} (h2 : more b ≠ -1) : ∃ k : Nat, more b = (k : Int) ∧ k ≤ 2 := by
  rcases opens h2 with ⟨_, _, e, _⟩ | ⟨_, e, _⟩ | ⟨_, e, _⟩ | ⟨_, _, _, e, _⟩ | ⟨_, e, _⟩ | ⟨_, _, e, _⟩ | ⟨_, e, _⟩
  · exact ⟨0, e, by omega⟩
  · exact ⟨1, e, by omega⟩
  · exact ⟨1, e, by omega⟩
  · exact ⟨1, e, by omega⟩
  · exact ⟨2, e, by omega⟩
  · exact ⟨2, e, by omega⟩
  · exact ⟨2, e, by omega⟩

/-- A rune taken at the front is what the decoder tells first; where none is whole, nothing is told, and all is pending. -/
theorem take_run (l : List UInt8) (hl : l ≠ []) :
    ((take l).2 = 0 ∧ (run zero l).2 = [] ∧ (run zero l).1.p = l.length) ∨
    (1 ≤ (take l).2 ∧ (take l).2 ≤ l.length ∧ run zero l = ((run zero (l.drop (take l).2)).1, (take l).1 :: (run zero (l.drop (take l).2)).2)) := by
  cases l with
  | nil => exact absurd rfl hl
  | cons b l =>
    rw [run_zero_cons, take_cons]
    by_cases h1 : (b.toNat : Int) < 128
    · right
      rw [take_one h1, first_one h1]
      exact ⟨Nat.le_refl _, by simp, rfl⟩
    · by_cases h2 : more (b.toNat : Int) = -1
      · right
        rw [take_bad h1 h2, first_bad h1 h2]
        exact ⟨Nat.le_refl _, by simp, rfl⟩
      · obtain ⟨k, hk, _⟩ := more_nat h2
        have hk1 : (more (b.toNat : Int) + 1).toNat = k + 1 := by omega
        have e : opened (b.toNat : Int) = ⟨((1 : Nat) : Int), (k : Int) + 1, mask (b.toNat : Int), lo (b.toNat : Int), hi (b.toNat : Int)⟩ := by
          unfold opened
          rw [hk, Int.add_comm]
          rfl
        rw [take_open h1 h2, first_open h1 h2, hk1, e]
        simp only [List.nil_append, List.length_cons]
        rcases scan_run l k 1 (mask (b.toNat : Int)) (lo (b.toNat : Int)) (hi (b.toNat : Int)) (by omega) with ⟨h3, h4, h5⟩ | ⟨h3, h4, h5⟩
        · left
          refine ⟨h3, h4, ?_⟩
          rw [h5]; omega
        · right
          refine ⟨h3, by omega, ?_⟩
          rw [h5]
          have he : (scan (mask (b.toNat : Int)) (lo (b.toNat : Int)) (hi (b.toNat : Int)) (k + 1) 1 l).2 = (scan (mask (b.toNat : Int)) (lo (b.toNat : Int)) (hi (b.toNat : Int)) (k + 1) 1 l).2 - 1 + 1 := by omega
          conv => rhs; rw [he, List.drop_succ_cons]

/-! ### Widths and cuts -/

def spans : List (Int × Int × Int) := [(127, 159, -1), (768, 879, 0), (8203, 8207, 0), (65024, 65039, 0), (4352, 4447, 2), (11904, 12350, 2), (12353, 13311, 2), (13312, 19903, 2), (19968, 40959, 2), (40960, 42191, 2), (44032, 55203, 2), (63744, 64255, 2), (65072, 65135, 2), (65280, 65376, 2), (65504, 65510, 2), (127744, 128591, 2), (129280, 129535, 2), (131072, 262141, 2)]
def look : List (Int × Int × Int) → Int → Int
  | [], _ => 1
  | s :: l, r => if s.1 ≤ r ∧ r ≤ s.2.1 then s.2.2 else look l r
def width (r : Int) : Int := if r < 32 ∨ 1114111 < r then -1 else look spans r
def room (r : Int) : Int := max (width r) 0
/-- The document's question: is r in one of the ranges? -/
def within : List Int → Int → Bool
  | a :: b :: l, r => (decide (a ≤ r) && decide (r ≤ b)) || within l r
  | _, _ => false
def zeros : List Int := [768, 879, 8203, 8207, 65024, 65039]
def twos : List Int := [4352, 4447, 11904, 12350, 12353, 13311, 13312, 19903, 19968, 40959, 40960, 42191, 44032, 55203, 63744, 64255, 65072, 65135, 65280, 65376, 65504, 65510, 127744, 128591, 129280, 129535, 131072, 262141]
def pairs (w : Int) : List Int → List (Int × Int × Int)
  | a :: b :: l => (a, b, w) :: pairs w l
  | _ => []
theorem look_pairs (w : Int) (k : List (Int × Int × Int)) (r : Int) : ∀ l : List Int, look (pairs w l ++ k) r = if within l r = true then w else look k r
  | [] => by simp [pairs, within]
  | [_] => by simp [pairs, within]
  | a :: b :: l => by
    have ih := look_pairs w k r l
    simp only [pairs, List.cons_append, look, within, ih]
    by_cases h : a ≤ r ∧ r ≤ b
    · simp [h]
    · rw [if_neg h]
      have h2 : (decide (a ≤ r) && decide (r ≤ b)) = false := by
        rw [Bool.and_eq_false_iff, decide_eq_false_iff_not, decide_eq_false_iff_not]; omega
      simp only [h2, Bool.false_or]
theorem spans_eq : spans = pairs (-1) [127, 159] ++ (pairs 0 zeros ++ (pairs 2 twos ++ [])) := rfl
/-- The document's width is the table's. -/
theorem width_eq (r : Int) : width r = if r < 32 ∨ (127 ≤ r ∧ r ≤ 159) ∨ 1114111 < r then -1 else if within zeros r = true then 0 else if within twos r = true then 2 else 1 := by
  unfold width
  by_cases h : r < 32 ∨ 1114111 < r
  · rw [if_pos h, if_pos (by omega)]
  · rw [if_neg h, spans_eq, look_pairs, look_pairs, look_pairs]
    by_cases h2 : 127 ≤ r ∧ r ≤ 159
    · have hw : within [127, 159] r = true := by simp [within, h2]
      rw [if_pos hw, if_pos (Or.inr (Or.inl h2))]
    · have hw : within [127, 159] r = false := by
        simp only [within, Bool.or_false]
        rw [Bool.and_eq_false_iff, decide_eq_false_iff_not, decide_eq_false_iff_not]; omega
      have hn : ¬ (r < 32 ∨ (127 ≤ r ∧ r ≤ 159) ∨ 1114111 < r) := by omega
      rw [if_neg (by rw [hw]; simp), if_neg hn]
      rfl
theorem look_bd (r : Int) : ∀ l : List (Int × Int × Int), (∀ s ∈ l, -1 ≤ s.2.2 ∧ s.2.2 ≤ 2) → -1 ≤ look l r ∧ look l r ≤ 2
  | [], _ => by simp [look]
  | s :: l, h => by
    unfold look
    split
    · exact h s (by simp)
    · exact look_bd r l fun x hx => h x (by simp [hx])
theorem width_bd (r : Int) : -1 ≤ width r ∧ width r ≤ 2 := by
  unfold width
  split
  · omega
  · exact look_bd r spans (by decide)
theorem room_bd (r : Int) : 0 ≤ room r ∧ room r ≤ 2 := by
  have := width_bd r
  unfold room
  omega

def cols : List Int → Int
  | [] => 0
  | r :: l => room r + cols l
theorem cols_append : ∀ l k : List Int, cols (l ++ k) = cols l + cols k
  | [], k => by simp [cols]
  | r :: l, k => by simp only [List.cons_append, cols, cols_append l k]; omega
theorem cols_bd : ∀ l : List Int, 0 ≤ cols l ∧ cols l ≤ 2 * l.length
  | [] => by simp [cols]
  | r :: l => by
    have := room_bd r
    have := cols_bd l
    simp only [cols, List.length_cons]
    omega
/-- The first columns: runes as long as they fit. -/
def cut : List Int → Int → List Int
  | [], _ => []
  | r :: l, n => if room r ≤ n then r :: cut l (n - room r) else []
/-- The last columns. -/
def cutLeft : List Int → Int → List Int
  | [], _ => []
  | r :: l, n => if cols (r :: l) ≤ n then r :: l else cutLeft l n
theorem cut_prefix : ∀ (l : List Int) (n : Int), ∃ k, l = cut l n ++ k
  | [], n => ⟨[], rfl⟩
  | r :: l, n => by
    obtain ⟨k, hk⟩ := cut_prefix l (n - room r)
    unfold cut
    split
    · exact ⟨k, by rw [List.cons_append, ← hk]⟩
    · exact ⟨r :: l, rfl⟩
theorem cutLeft_suffix : ∀ (l : List Int) (n : Int), ∃ k, l = k ++ cutLeft l n
  | [], n => ⟨[], rfl⟩
  | r :: l, n => by
    unfold cutLeft
    split
    · exact ⟨[], rfl⟩
    · obtain ⟨k, hk⟩ := cutLeft_suffix l n
      exact ⟨r :: k, by rw [List.cons_append, ← hk]⟩
theorem cut_cols : ∀ (l : List Int) (n : Int), (0 ≤ n → cols (cut l n) ≤ n) ∧ (n < 0 → cut l n = [])
  | [], n => by simp [cut, cols]
  | r :: l, n => by
    have h := room_bd r
    have ih := cut_cols l (n - room r)
    unfold cut
    split
    · refine ⟨fun hn => ?_, fun hn => by omega⟩
      have := ih.1 (by omega)
      simp only [cols]
      omega
    · exact ⟨fun hn => by simpa [cols] using hn, fun _ => rfl⟩

/-! ### Runes written as bytes -/
def enc (r : Int) : List UInt8 := (Utf8.encode r).data.toList
def bytes (ns : List Int) : List UInt8 := ns.flatMap enc
theorem bytes_append (l k : List Int) : bytes (l ++ k) = bytes l ++ bytes k := by simp [bytes]
theorem bytes_cons (r : Int) (k : List Int) : bytes (r :: k) = enc r ++ bytes k := by simp [bytes]
theorem foldl_data (ns : List Int) : ∀ s : ByteArray, (ns.foldl (fun r n => r ++ Utf8.encode n) s).data.toList = s.data.toList ++ bytes ns := by
  induction ns with
  | nil => intro s; simp [bytes]
  | cons n ns ih => intro s; rw [List.foldl_cons, ih, bytes_cons]; simp [enc, ByteArray.data_append]
theorem runesBytes_list (ns : List Int) : (runesBytes ns).data.toList = bytes ns := by
  unfold runesBytes
  rw [foldl_data]
  simp
theorem runesBytes_eq (ns : List Int) : runesBytes ns = ⟨(bytes ns).toArray⟩ := by
  rw [← runesBytes_list]
end Go.Proofs.YtbiinghmopgjnaaGreatDoor.Cel
