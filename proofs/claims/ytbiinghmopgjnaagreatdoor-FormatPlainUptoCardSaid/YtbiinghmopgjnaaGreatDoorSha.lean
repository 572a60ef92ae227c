/- A part of a size: the program's way and the document's. -/
import Derived.Test.YtbiinghmopgjnaaGreatDoorWho
namespace Go.Proofs.YtbiinghmopgjnaaGreatDoor.Cal
open Go.RowKit

theorem mul_run (x y r : Nat) (h : Ieee.double.mul x y = some r) (t : TypeId) (w : World) : (binOp .mul t (.float .f64 x) (.float .f64 y)).run Tryz.prog w = .ok (.float .f64 r) w := run_float_arith w .mul t .f64 x y r h
theorem div_run (x y r : Nat) (h : Ieee.double.div x y = some r) (t : TypeId) (w : World) : (binOp .quo t (.float .f64 x) (.float .f64 y)).run Tryz.prog w = .ok (.float .f64 r) w := run_float_arith w .quo t .f64 x y r h

/-- A size, so many hundredths. -/
def part (size : Int) (p : Nat) : Nat := ((Ieee.double.mul (floatOfInt .f64 size) p).bind fun t => Ieee.double.div t 4636737291354636288).getD 0
def share (size : Int) (p : Nat) : Int := if size < 1 ∨ Flt.isNaN p = true then 0 else min (max (Flt.whole (part size p)) 0) size

theorem size_float (size : Int) (h1 : 1 ≤ size) (h2 : size ≤ 9223372036854775807) :
    ∃ r, floatOfInt .f64 size = Ieee.double.word false r ∧ r ≤ 1086 * 4503599627370496 ∧ 1023 * 4503599627370496 ≤ r ∧ Flt.Near (size.natAbs * Flt.U) 1 r := by
  obtain ⟨r, e, hn⟩ := Flt.ofInt_near size
  have hs : decide (size < 0) = false := by rw [decide_eq_false_iff_not]; omega
  rw [hs] at e
  refine ⟨r, by unfold floatOfInt FloatKind.nearest FloatKind.encode; rw [hs]; exact e, ?_, ?_, hn⟩
  · have ht := Flt.Near.exact (1086 * 4503599627370496) (by omega) 1 (by omega)
    refine hn.mono ht (by omega) (by omega) ?_
    rw [Flt.cum_top]
    simp only [Nat.mul_one]
    exact Nat.mul_le_mul_right _ (by omega)
  · have ht := Flt.Near.exact (1023 * 4503599627370496) (by omega) 1 (by omega)
    refine ht.mono hn (by omega) (by omega) ?_
    rw [Flt.cum_one]
    simp only [Nat.mul_one]
    have : 1 * Flt.U ≤ size.natAbs * Flt.U := Nat.mul_le_mul_right _ (by omega)
    omega
theorem hundred : Flt.rung 4636737291354636288 = 4636737291354636288 ∧ Flt.neg 4636737291354636288 = false := by decide +kernel

/-- The product and the quotient, step by step. -/
theorem part_steps (size : Int) (p : Nat) (h1 : 1 ≤ size) (h2 : size ≤ 9223372036854775807) (hp : p < 2 ^ 64) (np : Flt.isNaN p = false) :
    ∃ rf t u, floatOfInt .f64 size = Ieee.double.word false rf ∧ rf ≤ 1086 * 4503599627370496 ∧ 1023 * 4503599627370496 ≤ rf ∧ Flt.Near (size.natAbs * Flt.U) 1 rf
      ∧ Ieee.double.mul (floatOfInt .f64 size) p = some t ∧ Ieee.double.div t 4636737291354636288 = some u ∧ u < 2 ^ 64 ∧ Flt.isNaN u = false ∧ Flt.neg u = Flt.neg p
      ∧ Flt.rung t ≤ 9218868437227405312 ∧ (Flt.rung p < 9218868437227405312 → Flt.Near (Flt.cum rf * Flt.cum (Flt.rung p)) Flt.U (Flt.rung t)) ∧ (Flt.rung p = 9218868437227405312 → Flt.rung t = 9218868437227405312)
      ∧ (Flt.rung t < 9218868437227405312 → Flt.Near (Flt.cum (Flt.rung t) * Flt.U) (Flt.cum 4636737291354636288) (Flt.rung u)) ∧ (Flt.rung t = 9218868437227405312 → Flt.rung u = 9218868437227405312) := by
  obtain ⟨rf, ef, f1, f2, fn⟩ := size_float size h1 h2
  obtain ⟨w1, w2, w3⟩ := Flt.word_parts false rf (by omega)
  have hN := Flt.not_nan np
  have ht : ∃ t, Ieee.double.mul (floatOfInt .f64 size) p = some t ∧ t < 2 ^ 64 ∧ Flt.isNaN t = false ∧ Flt.neg t = Flt.neg p ∧ (Flt.rung p < 9218868437227405312 → Flt.Near (Flt.cum rf * Flt.cum (Flt.rung p)) Flt.U (Flt.rung t)) ∧ (Flt.rung p = 9218868437227405312 → Flt.rung t = 9218868437227405312) := by
    rw [ef]
    by_cases c : Flt.rung p = 9218868437227405312
    · obtain ⟨t, g⟩ := Flt.mul_inf _ p w1 hp (by omega) (by omega) c
      exact ⟨t, g.is, g.lt, g.nan, by rw [g.neg, w3]; simp, fun h => by omega, fun _ => g.rung⟩
    · obtain ⟨t, g⟩ := Flt.mul_fin _ p w1 hp (by omega) (by omega)
      have := g.rung
      rw [w2] at this
      exact ⟨t, g.is, g.lt, g.nan, by rw [g.neg, w3]; simp, fun _ => this, fun h => absurd h c⟩
  obtain ⟨t, em, lt, nt, st, k1, k2⟩ := ht
  have hT := Flt.not_nan nt
  obtain ⟨u1, u2⟩ := hundred
  by_cases c : Flt.rung t = 9218868437227405312
  · obtain ⟨u, g⟩ := Flt.div_inf t 4636737291354636288 lt (by omega) c (by rw [u1]; omega)
    exact ⟨rf, t, u, ef, f1, f2, fn, em, g.is, g.lt, g.nan, by rw [g.neg, u2, st]; simp, hT, k1, k2, fun h => by omega, fun _ => g.rung⟩
  · obtain ⟨u, g⟩ := Flt.div_fin t 4636737291354636288 lt (by omega) (by omega) (by rw [u1]; omega) (by rw [u1]; omega)
    have := g.rung
    rw [u1] at this
    exact ⟨rf, t, u, ef, f1, f2, fn, em, g.is, g.lt, g.nan, by rw [g.neg, u2, st]; simp, hT, k1, k2, fun _ => this, fun h => absurd h c⟩
theorem part_is {size : Int} {p t u : Nat} (h1 : Ieee.double.mul (floatOfInt .f64 size) p = some t) (h2 : Ieee.double.div t 4636737291354636288 = some u) : part size p = u := by
  unfold part
  rw [h1]
  show (Ieee.double.div t 4636737291354636288).getD 0 = u
  rw [h2]
  rfl

end Go.Proofs.YtbiinghmopgjnaaGreatDoor.Cal
