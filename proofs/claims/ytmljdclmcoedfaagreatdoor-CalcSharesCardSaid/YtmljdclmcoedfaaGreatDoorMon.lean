/- Shares: more percent is no less, a hundred is all, none is nothing. -/
import Derived.Test.YtmljdclmcoedfaaGreatDoorSha
namespace Go.Proofs.YtmljdclmcoedfaaGreatDoor.Cal

theorem whole_pos_mono {x y : Nat} (nx : Flt.isNaN x = false) (ny : Flt.isNaN y = false) (sx : Flt.neg x = false) (sy : Flt.neg y = false) (h : Flt.rung x ≤ Flt.rung y) : Flt.whole x ≤ Flt.whole y := by
  have hx := Flt.whole_bd x
  unfold Flt.whole at hx ⊢
  rw [nx, sx] at hx
  rw [nx, ny, sx, sy]
  simp only [Bool.false_eq_true, if_false] at hx ⊢
  by_cases c : 1086 * 4503599627370496 ≤ Flt.rung y
  · rw [if_pos c]; exact hx.2
  · rw [if_neg c, if_neg (by omega)]
    have := Flt.rnd_mono (Flt.cum_le h)
    omega
theorem whole_neg {x : Nat} (sx : Flt.neg x = true) : Flt.whole x ≤ 0 := by
  unfold Flt.whole
  rw [sx]
  split
  · omega
  · simp only [if_true]
    split <;> omega
theorem whole_zero {x : Nat} (h : Flt.rung x = 0) : Flt.whole x = 0 := by
  unfold Flt.whole
  rw [h]
  have e : Flt.rnd (Flt.cum 0) = 0 := by
    unfold Flt.rnd
    rw [Flt.cum_zero]
    exact Nat.div_eq_of_lt (by have := Flt.U_pos; omega)
  rw [e]
  simp
theorem near_zero {d r : Nat} (hd : 0 < d) (h : Flt.Near 0 d r) : r = 0 := by
  have hz := Flt.Near.exact 0 (by omega) d hd
  rw [Flt.cum_zero, Nat.zero_mul] at hz
  exact h.unique hz hd hd rfl
theorem hundred_pos : 0 < Flt.cum 4636737291354636288 := cum_pos (by omega)

theorem share_zero (s : Int) (p : Nat) (hp : p < 2 ^ 64) (h2 : s ≤ 9223372036854775807) (h0 : Flt.rung p = 0) : share s p = 0 := by
  by_cases h1 : s < 1
  · unfold share; rw [if_pos (Or.inl h1)]
  · have np : Flt.isNaN p = false := by unfold Flt.isNaN; rw [h0]; decide
    obtain ⟨rf, t, u, -, -, -, -, em, ed, -, -, -, -, k1, -, k3, -⟩ := part_steps s p (by omega) h2 hp np
    have ht : Flt.rung t = 0 := by
      have := k1 (by omega)
      rw [h0, Flt.cum_zero, Nat.mul_zero] at this
      exact near_zero Flt.U_pos this
    have hu : Flt.rung u = 0 := by
      have := k3 (by omega)
      rw [ht, Flt.cum_zero, Nat.zero_mul] at this
      exact near_zero hundred_pos this
    unfold share
    rw [if_neg (by simp [np]; omega), part_is em ed, whole_zero hu]
    omega
theorem share_bd (s : Int) (p : Nat) (h1 : 0 ≤ s) : 0 ≤ share s p ∧ share s p ≤ s := by
  unfold share
  split <;> omega
theorem share_mono (s : Int) (p q : Nat) (h2 : s ≤ 9223372036854775807) (hp : p < 2 ^ 64) (hq : q < 2 ^ 64) (np : Flt.isNaN p = false) (nq : Flt.isNaN q = false) (h : Flt.sv p ≤ Flt.sv q) (h1 : 1 ≤ s) : share s p ≤ share s q := by
  have bq := share_bd s q (by omega)
  cases sp : Flt.neg p
  · cases sq : Flt.neg q
    · have hr : Flt.rung p ≤ Flt.rung q := by
        unfold Flt.sv at h
        rw [sp, sq] at h
        simp only [Bool.false_eq_true, if_false] at h
        refine Nat.le_of_not_lt fun hlt => ?_
        have := Flt.cum_mono hlt
        omega
      obtain ⟨rf, t, u, ef, -, -, -, em, ed, -, nu, su, tt, k1, k2, k3, k4⟩ := part_steps s p h1 h2 hp np
      obtain ⟨rf', t', u', ef', -, -, -, em', ed', -, nu', su', tt', k1', k2', k3', k4'⟩ := part_steps s q h1 h2 hq nq
      have hf : rf = rf' := by
        have e := ef.symm.trans ef'
        unfold Ieee.Format.word at e
        simpa using e
      subst hf
      have ip := Flt.not_nan np
      have iq := Flt.not_nan nq
      have hU := Flt.U_pos
      have hH := hundred_pos
      have ht : Flt.rung t ≤ Flt.rung t' := by
        by_cases c : Flt.rung q = 9218868437227405312
        · rw [k2' c]; exact tt
        · refine (k1 (by omega)).mono (k1' (by omega)) hU hU ?_
          exact Nat.mul_le_mul_right _ (Nat.mul_le_mul_left _ (Flt.cum_le hr))
      have hu : Flt.rung u ≤ Flt.rung u' := by
        by_cases c : Flt.rung t' = 9218868437227405312
        · rw [k4' c]; exact Flt.not_nan nu
        · refine (k3 (by omega)).mono (k3' (by omega)) hH hH ?_
          exact Nat.mul_le_mul_right _ (Nat.mul_le_mul_right _ (Flt.cum_le ht))
      have hw := whole_pos_mono nu nu' (by rw [su, sp]) (by rw [su', sq]) hu
      unfold share
      rw [if_neg (by simp [np]; omega), if_neg (by simp [nq]; omega), part_is em ed, part_is em' ed']
      omega
    · have hz : Flt.rung p = 0 := by
        unfold Flt.sv at h
        rw [sp, sq] at h
        simp only [Bool.false_eq_true, if_false, if_true] at h
        refine Nat.eq_zero_of_not_pos fun hlt => ?_
        have := Flt.cum_mono hlt
        omega
      rw [share_zero s p hp h2 hz]
      exact bq.1
  · obtain ⟨rf, t, u, -, -, -, -, em, ed, -, -, su, -⟩ := part_steps s p h1 h2 hp np
    have hw := whole_neg (x := u) (by rw [su, sp])
    have : share s p = 0 := by
      unfold share
      rw [if_neg (by simp [np]; omega), part_is em ed]
      omega
    rw [this]
    exact bq.1
theorem cum_hundred : Flt.cum 4636737291354636288 = 100 * Flt.U := by decide +kernel
theorem below_inf {r k : Nat} (h : Flt.cum r = k * Flt.U) (hk : k < 9223372036854775808) : r < 1086 * 4503599627370496 := by
  rw [← Flt.cum_lt_iff, h, Flt.cum_top]
  exact Nat.mul_lt_mul_of_pos_right hk Flt.U_pos
theorem share_all (s : Int) (h1 : 1 ≤ s) (h2 : s < 1099511627776) : share s 4636737291354636288 = s := by
  obtain ⟨n, rfl⟩ : ∃ n : Nat, s = n := ⟨s.toNat, by omega⟩
  have np : Flt.isNaN 4636737291354636288 = false := by decide +kernel
  obtain ⟨rf, t, u, ef, hr1, hr2, hn, em, ed, -, nu, su, tt, k1, k2, k3, k4⟩ := part_steps n 4636737291354636288 h1 (by omega) (by omega) np
  have hU := Flt.U_pos
  have hH := hundred_pos
  have e100 : Flt.rung 4636737291354636288 = 4636737291354636288 := hundred.1
  obtain ⟨ra, ha⟩ := Flt.rep Flt.UE n (by omega)
  have ha' : Flt.cum ra = n * Flt.U := ha
  have hra := below_inf ha' (by omega)
  have hrf : rf = ra := by
    have hx := Flt.Near.exact ra (by omega) 1 (by omega)
    rw [ha', Nat.mul_one] at hx
    refine hn.unique hx (by omega) (by omega) ?_
    rw [Int.natAbs_natCast]
  subst hrf
  obtain ⟨rb, hb⟩ := Flt.rep Flt.UE (n * 100) (by omega)
  have hb' : Flt.cum rb = n * 100 * Flt.U := hb
  have hrb := below_inf hb' (by omega)
  have ht : Flt.rung t = rb := by
    have hx := Flt.Near.exact rb (by omega) 1 (by omega)
    rw [hb', Nat.mul_one] at hx
    refine (k1 (by rw [e100]; omega)).unique hx hU (by omega) ?_
    rw [e100, ha', cum_hundred]
    generalize Flt.U = U
    simp only [Nat.mul_assoc, Nat.mul_comm, Nat.mul_left_comm]
  have hu : Flt.rung u = rf := by
    have hx := Flt.Near.exact rf (by omega) 1 (by omega)
    rw [ha', Nat.mul_one] at hx
    refine (k3 (by rw [ht]; omega)).unique hx hH (by omega) ?_
    rw [ht, hb', cum_hundred]
    generalize Flt.U = U
    simp only [Nat.mul_assoc, Nat.mul_comm, Nat.mul_left_comm]
  have hw : Flt.whole u = n := by
    unfold Flt.whole
    rw [nu, su, hu, hundred.2, if_neg (by simp), if_neg (by omega), ha']
    have : Flt.rnd (n * Flt.U) = n := by
      unfold Flt.rnd
      have : n * (2 * Flt.U) = 2 * (n * Flt.U) := Nat.mul_left_comm ..
      rw [Nat.div_eq_iff (by omega)]
      omega
    rw [this]
    simp
  unfold share
  rw [if_neg (by simp [np]; omega), part_is em ed, hw]
  omega
end Go.Proofs.YtmljdclmcoedfaaGreatDoor.Cal
