/- Layer 3: what an item turns, and what a text turns. -/
import Derived.Test.YtajnlbfhcbkopaaDoorAtt
namespace Go.Proofs.YtajnlbfhcbkopaaDoor.Sty
open Go.RowKit

/-- A look: front, back, attributes. -/
abbrev St := Int × Int × Int
def wordOf (l : Tx) : Option Nat := (List.range 8).find? fun i => decide (l = words.getD i [])
theorem words_inj : ∀ i, i < 8 → ∀ j, j < 8 → words.getD i [] = words.getD j [] → i = j := by decide
theorem wordOf_none {l : Tx} (h : ∀ i, i < 8 → l ≠ words.getD i []) : wordOf l = none := by
  unfold wordOf
  rw [List.find?_eq_none]
  intro i hi
  have := h i (List.mem_range.1 hi)
  simpa using this
theorem wordOf_some {l : Tx} {i : Nat} (hi : i < 8) (h : l = words.getD i []) : wordOf l = some i := by
  cases hf : wordOf l with
  | none =>
    unfold wordOf at hf
    rw [List.find?_eq_none] at hf
    exact absurd (hf i (List.mem_range.2 hi)) (by simp [h])
  | some j =>
    unfold wordOf at hf
    have h1 := List.find?_some hf
    have h2 := List.mem_range.1 (List.mem_of_find?_eq_some hf)
    have h3 : l = words.getD j [] := of_decide_eq_true h1
    rw [words_inj i hi j h2 (by rw [← h, h3])]
theorem wordOf_cases (l : Tx) : (∃ i, i < 8 ∧ l = words.getD i [] ∧ wordOf l = some i) ∨ ((∀ i, i < 8 → l ≠ words.getD i []) ∧ wordOf l = none) := by
  by_cases h : ∃ i, i < 8 ∧ l = words.getD i []
  · obtain ⟨i, hi, hl⟩ := h
    exact .inl ⟨i, hi, hl, wordOf_some hi hl⟩
  · exact .inr ⟨fun i hi e => h ⟨i, hi, e⟩, wordOf_none fun i hi e => h ⟨i, hi, e⟩⟩
def tFg : Tx := [102, 103, 61]
def tBg : Tx := [98, 103, 61]
def tNone : Tx := [110, 111, 110, 101]
def tNo : Tx := [110, 111]
/-- What one item (in small letters, but for 'default') makes of a look. -/
noncomputable def turnS (s : St) (q : Tx) : Option St :=
  if Lib.hasPrefix q tFg = true then (colourS (q.drop 3)).map fun c => (c, s.2.1, s.2.2)
  else if Lib.hasPrefix q tBg = true then (colourS (q.drop 3)).map fun c => (s.1, c, s.2.2)
  else if q = tNone then some (s.1, s.2.1, 0)
  else if Lib.hasPrefix q tNo = true then (wordOf (q.drop 2)).map fun i => (s.1, s.2.1, bits .andNot .i64 s.2.2 ((2 ^ i : Nat) : Int))
  else (wordOf q).map fun i => (s.1, s.2.1, bits .or .i64 s.2.2 ((2 ^ i : Nat) : Int))
abbrev styV (s : St) : Value := .agg #[.int .i64 s.1, .int .i64 s.2.1, .int .i64 s.2.2]
/-- How a turn ends. -/
def Turned (r : Option St) (e : Ending) : Prop :=
  match r with
  | some t => e = .returned (.tuple #[styV t, .int .i64 0])
  | none => ∃ a b c : Int, e = .returned (.tuple #[.agg #[.int .i64 a, .int .i64 b, .int .i64 c], .int .i64 4])
theorem low_low (l : Tx) : low (low l) = low l := by
  unfold low
  rw [List.map_map]
  refine List.map_congr_left fun b _ => ?_
  have : ∀ b : UInt8, lw (lw b) = lw b := by
    intro b
    unfold lw
    by_cases h : 65 ≤ b.toNat ∧ b.toNat ≤ 90
    · have e : (b + 32).toNat = (b.toNat + 32) % 256 := UInt8.toNat_add b 32
      rw [if_pos h, if_neg]
      rw [e]
      omega
    · rw [if_neg h, if_neg h]
  exact this b
theorem low_drop (l : Tx) (n : Nat) : low (l.drop n) = (low l).drop n := by unfold low; rw [List.map_drop]

theorem bv_strike (x y : BitVec 64) : (x ||| y) &&& ~~~y = x &&& ~~~y := by
  apply BitVec.eq_of_getLsbD_eq
  intro i hi
  rw [BitVec.getLsbD_and, BitVec.getLsbD_or, BitVec.getLsbD_and]
  cases x.getLsbD i <;> cases hy : y.getLsbD i <;> simp [hi, hy]
/-- Setting a bit and striking it again is to strike it. -/
theorem strike_set (a b : Int) : bits .andNot .i64 (bits .or .i64 a b) b = bits .andNot .i64 a b := by
  have wrap_ofInt : ∀ x : Int, BitVec.ofInt 64 (IntKind.i64.wrap x) = BitVec.ofInt 64 x := by
    intro x
    rw [IntKind.wrap_i64]
    apply BitVec.eq_of_toInt_eq
    simp only [BitVec.toInt_ofInt]
    rw [Int.bmod_def, Int.bmod_def]
    omega
  unfold bits
  simp only [IntKind.bits]
  congr 2
  rw [wrap_ofInt, BitVec.ofInt_natCast, BitVec.ofNat_toNat, BitVec.setWidth_eq]
  refine congrArg BitVec.toNat ?_
  generalize BitVec.ofInt 64 a = x
  generalize BitVec.ofInt 64 b = y
  exact bv_strike x y
end Go.Proofs.YtajnlbfhcbkopaaDoor.Sty
