/- An escape's numbers, each behind a semicolon. -/
import Derived.Test.YtdbkccffepfenaaDoorRcc
namespace Go.Proofs.YtdbkccffepfenaaDoor.Sty
open Go.RowKit

def sem (L : List Tx) : Tx := (L.map fun x => (59 : UInt8) :: x).flatten
theorem sem_nil : sem [] = [] := rfl
theorem sem_snoc (L : List Tx) (x : Tx) : sem (L ++ [x]) = sem L ++ 59 :: x := by simp [sem]
theorem sem_len : ∀ L : List Tx, (∀ x ∈ L, x.length ≤ 20) → (sem L).length ≤ 21 * L.length
  | [], _ => by simp [sem]
  | x :: r, h => by
    have h1 := h x (by simp)
    have h2 := sem_len r (fun z hz => h z (by simp [hz]))
    have e : sem (x :: r) = (59 :: x) ++ sem r := by simp [sem]
    rw [e, List.length_append, List.length_cons, List.length_cons]
    omega
theorem sem_join : ∀ L : List Tx, L ≠ [] → sem L = 59 :: Lib.join L [59]
  | [], h => absurd rfl h
  | [x], _ => by simp [sem, Lib.join, List.intercalate]
  | x :: y :: r, _ => by
    have ih := sem_join (y :: r) (by simp)
    have e : sem (x :: y :: r) = (59 :: x) ++ sem (y :: r) := by simp [sem]
    have e2 : Lib.join (x :: y :: r) [59] = x ++ [59] ++ Lib.join (y :: r) [59] := by simp [Lib.join, List.intercalate]
    rw [e, ih, e2]
    simp
theorem on_zero (a j : Nat) : ((a : Int) / 2 ^ j % 2 == 0) = !onN a j := by
  have e : ((a : Int) / 2 ^ j) = ((a / 2 ^ j : Nat) : Int) := by simp
  rw [e]
  have e2 : ((a / 2 ^ j : Nat) : Int) % 2 = ((a / 2 ^ j % 2 : Nat) : Int) := by simp
  rw [e2]
  unfold onN
  rw [Bool.eq_iff_iff]
  simp only [beq_iff_eq, Bool.not_eq_true', decide_eq_false_iff_not]
  omega
theorem on_high (a i : Nat) (ha : a < 256) (hi : 8 ≤ i) : onN a i = false := by
  rw [onN_bit]
  refine Nat.testBit_lt_two_pow ?_
  exact Nat.lt_of_lt_of_le ha (by have : (2 : Nat) ^ 8 ≤ 2 ^ i := Nat.pow_le_pow_right (by omega) hi; omega)
/-- Two looks that differ have a number between them. -/
theorem codesOf_ne {f1 f2 t1 t2 : Int} {fa ta : Nat} (hf : fa < 256) (ht : ta < 256) (h : (f1, f2, (fa : Int)) ≠ (t1, t2, (ta : Int))) : codesOf (f1, f2, (fa : Int)) (t1, t2, (ta : Int)) ≠ [] := by
  intro hc
  unfold codesOf at hc
  simp only [Int.toNat_natCast] at hc
  by_cases hclr : an fa ta = 0
  · simp only [hclr, ne_eq, not_true_eq_false, decide_false, Bool.false_eq_true, if_false, List.nil_append, List.append_eq_nil_iff] at hc
    obtain ⟨⟨h1, h2⟩, h3⟩ := hc
    have e1 : t1 = f1 := by
      by_cases e : t1 = f1
      · exact e
      · rw [if_pos e] at h2; cases h2
    have e2 : t2 = f2 := by
      by_cases e : t2 = f2
      · exact e
      · rw [if_pos e] at h3; cases h3
    have e3 : fa = ta := by
      refine Nat.eq_of_testBit_eq fun i => ?_
      rw [← onN_bit, ← onN_bit]
      by_cases hi : i < 8
      · have ha := an_on fa ta i (by omega)
        rw [hclr] at ha
        have h0 : onN 0 i = false := by unfold onN; simp
        rw [h0] at ha
        have hb : (onN ta i && !onN fa i) = false := by
          cases hx : (onN ta i && !onN fa i)
          · rfl
          · exfalso
            unfold onCodes at h1
            rw [List.map_eq_nil_iff, List.filter_eq_nil_iff] at h1
            have := h1 i (List.mem_range.2 hi)
            rw [Int.toNat_natCast] at this
            exact this hx
        cases h1 : onN fa i <;> cases h2 : onN ta i <;> simp_all
      · rw [on_high fa i hf (by omega), on_high ta i ht (by omega)]
    exact h (by rw [e1, e2, e3])
  · simp [hclr] at hc
def numAt (j : Nat) : Int := ([1, 2, 3, 4, 5, 7, 8, 9] : List Int).getD j 0
theorem numAt_dec (j : Nat) (hj : j < 8) : dec (numAt j).toNat = digitAt j := by
  have : ∀ j, j < 8 → dec (numAt j).toNat = digitAt j := by decide
  exact this j hj
theorem numAt_le (j : Nat) (hj : j < 8) : 0 ≤ numAt j ∧ numAt j < 1000 := by
  have : ∀ j, j < 8 → 0 ≤ numAt j ∧ numAt j < 1000 := by decide
  exact this j hj
theorem numAt_get (j : Nat) (hj : j < 8) : (#[.int .i64 1, .int .i64 2, .int .i64 3, .int .i64 4, .int .i64 5, .int .i64 7, .int .i64 8, .int .i64 9] : Array Value)[j]? = some (.int .i64 (numAt j)) := by
  match j, hj with
  | 0, _ => rfl
  | 1, _ => rfl
  | 2, _ => rfl
  | 3, _ => rfl
  | 4, _ => rfl
  | 5, _ => rfl
  | 6, _ => rfl
  | 7, _ => rfl
  | n + 8, hj => exact absurd hj (by omega)
end Go.Proofs.YtdbkccffepfenaaDoor.Sty
