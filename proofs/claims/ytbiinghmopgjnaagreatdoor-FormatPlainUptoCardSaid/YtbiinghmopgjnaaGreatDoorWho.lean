/- A float as the nearest int: the program's way and the document's. -/
import Derived.Test.YtbiinghmopgjnaaGreatDoorRnd
namespace Go.Proofs.YtbiinghmopgjnaaGreatDoor.Cal
open Go.RowKit

theorem sv_top : Flt.sv 4890909195324358656 = (Flt.cum (1086 * 4503599627370496) : Int) := by
  unfold Flt.sv Flt.neg Flt.rung
  rfl
theorem sv_bot : Flt.sv 14114281232179134464 = -(Flt.cum (1086 * 4503599627370496) : Int) := by
  unfold Flt.sv Flt.neg Flt.rung
  rfl
theorem cum_pos {r : Nat} (h : 0 < r) : 0 < Flt.cum r := by have := Flt.cum_mono h; omega
theorem ge_word (x k : Nat) (hx : x < 2 ^ 64) (hk : k ≤ 9218868437227405312) (k0 : 0 < k) (nx : Flt.isNaN x = false) :
    (FloatKind.f64.format.order x k == some Ordering.gt || FloatKind.f64.format.order x k == some Ordering.eq) = (!Flt.neg x && decide (k ≤ Flt.rung x)) := by
  rw [gt_test x k hx (by omega) _ rfl, eq_test x k hx (by omega) _ rfl]
  have rk : Flt.rung k = k := by unfold Flt.rung; omega
  have nk : Flt.neg k = false := by unfold Flt.neg; rw [decide_eq_false_iff_not]; omega
  have hn : Flt.isNaN k = false := by unfold Flt.isNaN; rw [rk, decide_eq_false_iff_not]; omega
  unfold Flt.lt Flt.eq Flt.sv
  rw [nx, hn, nk, rk]
  have a := @Flt.cum_lt_iff k (Flt.rung x)
  have b := @Flt.cum_inj k (Flt.rung x)
  have c := cum_pos k0
  cases Flt.neg x
  · simp
    rw [Bool.eq_iff_iff]
    simp
    constructor
    · rintro (h | h)
      · have := a.1 (by omega); omega
      · have := b (by omega); omega
    · intro h
      rcases Nat.lt_or_eq_of_le h with h | h
      · have := a.2 h; omega
      · rw [← h]; omega
  · simp
    omega
theorem le_word (x k : Nat) (hx : x < 2 ^ 64) (hk : k ≤ 9218868437227405312) (k0 : 0 < k) (nx : Flt.isNaN x = false) :
    (FloatKind.f64.format.order x (9223372036854775808 + k) == some Ordering.lt || FloatKind.f64.format.order x (9223372036854775808 + k) == some Ordering.eq) = (Flt.neg x && decide (k ≤ Flt.rung x)) := by
  rw [lt_test x _ hx (by omega) _ rfl, eq_test x _ hx (by omega) _ rfl]
  have rk : Flt.rung (9223372036854775808 + k) = k := by unfold Flt.rung; omega
  have nk : Flt.neg (9223372036854775808 + k) = true := by unfold Flt.neg; rw [decide_eq_true_eq]; omega
  have hn : Flt.isNaN (9223372036854775808 + k) = false := by unfold Flt.isNaN; rw [rk, decide_eq_false_iff_not]; omega
  unfold Flt.lt Flt.eq Flt.sv
  rw [nx, hn, nk, rk]
  have a := @Flt.cum_lt_iff k (Flt.rung x)
  have b := @Flt.cum_inj k (Flt.rung x)
  have c := cum_pos k0
  cases Flt.neg x
  · simp
    omega
  · simp
    rw [Bool.eq_iff_iff]
    simp
    constructor
    · rintro (h | h)
      · have := a.1 (by omega); omega
      · have := b (by omega); omega
    · intro h
      rcases Nat.lt_or_eq_of_le h with h | h
      · have := a.2 h; omega
      · rw [← h]; omega
theorem toInt_val (x : Nat) (hx : x < 2 ^ 64) (hf : Flt.rung x < 1086 * 4503599627370496) : floatToIntVal .f64 x .i64 = some (if Flt.neg x then -((Flt.cum (Flt.rung x) / Flt.U : Nat) : Int) else ((Flt.cum (Flt.rung x) / Flt.U : Nat) : Int)) := by
  have h := Flt.toInt_fin x hx (by omega)
  have hc := Flt.cum_mono hf
  rw [Flt.cum_top] at hc
  have hq : Flt.cum (Flt.rung x) / Flt.U < 9223372036854775808 := by
    rw [Nat.div_lt_iff_lt_mul Flt.U_pos]; exact hc
  unfold floatToIntVal
  show (match (Ieee.double.read x).toInt .zero with | some n => _ | none => none) = _
  rw [h]
  generalize Flt.cum (Flt.rung x) / Flt.U = q at hq
  have m1 : IntKind.i64.min = -9223372036854775808 := by decide
  have m2 : IntKind.i64.max = 9223372036854775807 := by decide
  simp only [m1, m2]
  rw [if_pos]
  split <;> omega
theorem conv_run (x : Nat) (n : Int) (h : floatToIntVal .f64 x .i64 = some n) (w : World) : (convert 84 3 (.float .f64 x)).run Tryz.prog w = .ok (.int .i64 n) w :=
  run_convert_float_int w _ _ .f64 .i64 x n (by kernel_rfl) (by kernel_rfl) h
theorem rnd_conv (x : Nat) (nx : Flt.isNaN x = false) (hf : Flt.rung x < 1086 * 4503599627370496) : floatToIntVal .f64 (Ieee.double.word (Flt.neg x) (Flt.rndR (Flt.rung x))) .i64 = some (Flt.whole x) := by
  have hc := Flt.rndR_cum (Flt.rung x)
  have hl := Flt.rnd_lt hf
  have hU := Flt.U_pos
  have hr : Flt.rndR (Flt.rung x) < 1086 * 4503599627370496 := by
    rw [← Flt.cum_lt_iff, hc, Flt.cum_top]
    exact Nat.mul_lt_mul_of_pos_right hl hU
  obtain ⟨p1, p2, p3⟩ := Flt.word_parts (Flt.neg x) (Flt.rndR (Flt.rung x)) (by omega)
  rw [toInt_val _ p1 (by rw [p2]; exact hr), p2, p3, hc, Nat.mul_div_cancel _ hU]
  unfold Flt.whole
  rw [nx, if_neg (show ¬ (1086 * 4503599627370496 ≤ Flt.rung x) by omega)]
  rfl

set_option maxRecDepth 100000 in
set_option maxHeartbeats 400000 in
theorem whole_any (x : Nat) (w : World) (hx : x < 2 ^ 64) :
    Calls Tryz.prog 55 #[.float .f64 x] w fun e w' => e = .returned (.int .i64 (Flt.whole x)) ∧ w = w' := by
  cases nx : Flt.isNaN x
  · have hg := ge_word x 4890909195324358656 hx (by omega) (by omega) nx
    have hl := le_word x 4890909195324358656 hx (by omega) (by omega) nx
    rw [show 9223372036854775808 + 4890909195324358656 = 14114281232179134464 by omega] at hl
    have hN := isNaN_any x false nx w hx
    by_cases c : 1086 * 4503599627370496 ≤ Flt.rung x
    · rw [decide_eq_true (by omega)] at hg hl
      cases s : Flt.neg x
      · rw [s] at hg hl
        have hv : Hid (Flt.whole x = 9223372036854775807) := by show _ = _; unfold Flt.whole; simp [nx, c, s]
        have HX := Lib.hid hx
        clear hx c s hl nx
        go_enter Tryz.func55, Tryz.ntmps55
        go_wp2_with fail
        refine hN.mono ?_
        rintro e w' ⟨rfl, rfl⟩
        go_wp2_with fail
        go_ret
        exact ⟨ret_int hv.out.symm, rfl⟩
      · rw [s] at hg hl
        have hv : Hid (Flt.whole x = -9223372036854775808) := by show _ = _; unfold Flt.whole; simp [nx, c, s]
        have HX := Lib.hid hx
        clear hx c s nx
        go_enter Tryz.func55, Tryz.ntmps55
        go_wp2_with fail
        refine hN.mono ?_
        rintro e w' ⟨rfl, rfl⟩
        go_wp2_with fail
        go_ret
        exact ⟨ret_int hv.out.symm, rfl⟩
    · rw [decide_eq_false (by omega), Bool.and_false] at hg hl
      have hR := round_any x w hx
      have hc := conv_run _ _ (rnd_conv x nx (by omega))
      have HX := Lib.hid hx
      clear hx c nx
      generalize Ieee.double.word (Flt.neg x) (Flt.rndR (Flt.rung x)) = y at *
      go_enter Tryz.func55, Tryz.ntmps55
      go_wp2_with fail
      refine hN.mono ?_
      rintro e w' ⟨rfl, rfl⟩
      go_wp2_with fail
      refine hR.mono ?_
      rintro e w' ⟨rfl, rfl⟩
      go_wp2_with fail
      go_ret
      exact ⟨rfl, rfl⟩
  · have hv : Hid (Flt.whole x = 0) := by show _ = _; unfold Flt.whole; simp [nx]
    have hN := isNaN_any x true nx w hx
    have HX := Lib.hid hx
    clear hx nx
    go_enter Tryz.func55, Tryz.ntmps55
    go_wp2_with fail
    refine hN.mono ?_
    rintro e w' ⟨rfl, rfl⟩
    go_wp2_with fail
    go_ret
    exact ⟨ret_int hv.out.symm, rfl⟩

/-! ### The document's way -/
theorem rnd_split (c : Nat) : Flt.rnd c = c / Flt.U + (if Flt.U ≤ 2 * (c % Flt.U) then 1 else 0) := by
  have hU := Flt.U_pos
  have hd := Nat.div_add_mod c Flt.U
  have hm := Nat.mod_lt c hU
  unfold Flt.rnd
  generalize c / Flt.U = q at *
  generalize c % Flt.U = r at *
  generalize Flt.U = u at *
  have e2 : (q + 1) * (2 * u) = 2 * (u * q) + 2 * u := by rw [Nat.add_mul, Nat.one_mul, Nat.mul_comm q, Nat.mul_assoc]
  have e1 : q * (2 * u) = 2 * (u * q) := by rw [Nat.mul_comm q, Nat.mul_assoc]
  by_cases h : u ≤ 2 * r
  · rw [if_pos h, Nat.div_eq_iff (by omega)]
    omega
  · rw [if_neg h, Nat.add_zero, Nat.div_eq_iff (by omega)]
    omega
theorem floatOf_run (n : Int) (w : World) : (convert 3 84 (.int .i64 n)).run Tryz.prog w = .ok (.float .f64 (floatOfInt .f64 n)) w :=
  run_convert_int_float w _ _ .i64 .f64 n (by kernel_rfl) (by kernel_rfl)
/-- What is left when the whole is taken away. -/
theorem rest_of (x : Nat) (hx : x < 2 ^ 64) (hf : Flt.rung x < 1086 * 4503599627370496) (n : Int) (hn : n = if Flt.neg x then -((Flt.cum (Flt.rung x) / Flt.U : Nat) : Int) else ((Flt.cum (Flt.rung x) / Flt.U : Nat) : Int)) :
    floatOfInt .f64 n < 2 ^ 64 ∧ ∃ r, Ieee.double.sub x (floatOfInt .f64 n) = some r ∧ r < 2 ^ 64 ∧ Flt.isNaN r = false ∧ Flt.cum (Flt.rung r) = Flt.cum (Flt.rung x) % Flt.U ∧ (Flt.cum (Flt.rung x) % Flt.U ≠ 0 → Flt.neg r = Flt.neg x) := by
  obtain ⟨⟨r1, t1, c1⟩, r2, t2, c2⟩ := Flt.rep_trunc (Flt.rung x) (by omega)
  have na : n.natAbs = Flt.cum (Flt.rung x) / Flt.U := by
    rw [hn]
    generalize Flt.cum (Flt.rung x) / Flt.U = q
    split <;> omega
  have ef : floatOfInt .f64 n = Ieee.double.word (n < 0) r1 := Flt.ofInt_exact n r1 t1 (by rw [na, c1])
  have hU := Flt.U_pos
  have hdm := Nat.div_add_mod (Flt.cum (Flt.rung x)) Flt.U
  rw [Nat.mul_comm] at hdm
  have r1lt : r1 < 9218868437227405312 := by
    have : Flt.cum r1 ≤ Flt.cum (Flt.rung x) := by omega
    refine Nat.lt_of_not_le fun h => ?_
    have := Flt.cum_mono (show Flt.rung x < r1 by omega)
    omega
  obtain ⟨p1, p2, p3⟩ := Flt.word_parts (n < 0) r1 t1
  rw [ef]
  refine ⟨p1, ?_⟩
  obtain ⟨r, es, hr, nr, hnear, hsg⟩ := Flt.sub_fin x (Ieee.double.word (n < 0) r1) hx p1 (by omega) (by rw [p2]; exact r1lt)
  have sv1 : Flt.sv (Ieee.double.word (n < 0) r1) = n * Flt.U := by
    rw [Flt.sv_word _ _ t1, c1]
    have hq := hn
    generalize Flt.cum (Flt.rung x) / Flt.U = q at *
    by_cases h : n < 0
    · rw [if_pos (by simpa using h)]
      have : n = -(q : Int) := by cases s : Flt.neg x <;> rw [s] at hq <;> simp at hq <;> omega
      rw [this, Int.natCast_mul, Int.neg_mul]
    · rw [if_neg (by simpa using h)]
      have : n = (q : Int) := by omega
      rw [this, Int.natCast_mul]
  have dif : Flt.sv x - Flt.sv (Ieee.double.word (n < 0) r1) = if Flt.neg x then -((Flt.cum (Flt.rung x) % Flt.U : Nat) : Int) else ((Flt.cum (Flt.rung x) % Flt.U : Nat) : Int) := by
    rw [sv1, hn]
    unfold Flt.sv
    generalize Flt.cum (Flt.rung x) / Flt.U = q at *
    generalize Flt.cum (Flt.rung x) % Flt.U = m at *
    have : ((q * Flt.U : Nat) : Int) = (q : Int) * (Flt.U : Int) := Int.natCast_mul ..
    cases Flt.neg x
    · simp only [Bool.false_eq_true, if_false]
      omega
    · simp only [if_true, Int.neg_mul]
      omega
  have ab : (Flt.sv x - Flt.sv (Ieee.double.word (n < 0) r1)).natAbs = Flt.cum (Flt.rung x) % Flt.U := by
    rw [dif]; split <;> omega
  rw [ab] at hnear
  have hex := Flt.Near.exact r2 t2 1 (by omega)
  rw [c2, Nat.mul_one] at hex
  have er : Flt.rung r = r2 := hnear.unique hex (by omega) (by omega) rfl
  refine ⟨r, es, hr, nr, by rw [er, c2], fun h0 => ?_⟩
  rw [hsg (fun e => by rw [e] at ab; omega)]
  cases s : Flt.neg x <;> rw [s] at dif <;> simp at dif ⊢ <;> omega
theorem half_test (x r : Nat) (h : Flt.cum (Flt.rung r) = Flt.cum (Flt.rung x) % Flt.U) : decide (4602678819172646912 ≤ Flt.rung r) = decide (Flt.U ≤ 2 * (Flt.cum (Flt.rung x) % Flt.U)) := by
  rw [← h]
  have hh := Flt.cum_half
  have c := @Flt.cum_lt_iff (Flt.rung r) 4602678819172646912
  rw [show 1022 * 4503599627370496 = 4602678819172646912 by omega] at hh
  rw [Bool.eq_iff_iff, decide_eq_true_eq, decide_eq_true_eq]
  omega
theorem sub_run (x y r : Nat) (h : Ieee.double.sub x y = some r) (t : TypeId) (w : World) : (binOp .sub t (.float .f64 x) (.float .f64 y)).run Tryz.prog w = .ok (.float .f64 r) w := run_float_arith w .sub t .f64 x y r h
theorem nan_test (x : Nat) (hx : x < 2 ^ 64) (b : Bool) (h : Flt.isNaN x = b) : (FloatKind.f64.format.order x x != some Ordering.eq) = b := by
  show (!(Ieee.double.order x x == some .eq)) = b
  rw [Flt.order_same x x hx hx]
  unfold Flt.eq
  rw [h]
  cases b <;> simp
end Go.Proofs.YtbiinghmopgjnaaGreatDoor.Cal
