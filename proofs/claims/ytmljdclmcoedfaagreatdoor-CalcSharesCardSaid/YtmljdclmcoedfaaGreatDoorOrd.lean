/- The document's order of floats, and its sameness. -/
import Derived.Test.YtmljdclmcoedfaaGreatDoorSha
namespace Go.Proofs.YtmljdclmcoedfaaGreatDoor.Cal
open Go.RowKit

def below (x : Nat) : Bool := !Flt.isNaN x && Flt.neg x
def same (a b : Nat) : Bool := (Flt.isNaN a && Flt.isNaN b) || (Flt.eq a b && (below a == below b))
def infW (b : Bool) : Nat := if b then 18442240474082181120 else 9218868437227405312
def rank (x : Nat) : Int := if Flt.isNaN x then 3 else if x = 9218868437227405312 then 2 else if x = 18442240474082181120 then 0 else 1

theorem lt_zero (x : Nat) : Flt.lt x 0 = (!Flt.isNaN x && Flt.neg x && decide (Flt.rung x ≠ 0)) := by
  have n0 : Flt.isNaN 0 = false := by decide +kernel
  have s0 : Flt.sv 0 = 0 := by decide +kernel
  unfold Flt.lt
  rw [n0, s0]
  unfold Flt.sv
  have c := @cum_pos (Flt.rung x)
  cases Flt.isNaN x
  · cases Flt.neg x
    · simp
    · by_cases h : Flt.rung x = 0
      · simp [h, Flt.cum_zero]
      · have := c (by omega)
        simp [h]; omega
  · simp
theorem eq_zero (x : Nat) : Flt.eq x 0 = decide (Flt.rung x = 0) := by
  have n0 : Flt.isNaN 0 = false := by decide +kernel
  have s0 : Flt.sv 0 = 0 := by decide +kernel
  unfold Flt.eq
  rw [n0, s0]
  unfold Flt.sv
  have c := @cum_pos (Flt.rung x)
  by_cases h : Flt.rung x = 0
  · have : Flt.isNaN x = false := by unfold Flt.isNaN; rw [h]; decide
    simp [h, Flt.cum_zero, this]
  · have := c (by omega)
    simp [h]
    intro _
    split <;> omega
theorem zero_word (x : Nat) (hx : x < 2 ^ 64) (h : Flt.rung x = 0) : x = 0 ∨ x = 9223372036854775808 := by
  unfold Flt.rung at h; omega

theorem below_any (x : Nat) (w : World) (hx : x < 2 ^ 64) :
    Calls Tryz.prog 37 #[.float .f64 x] w fun e w' => e = .returned (.bool (below x)) ∧ w = w' := by
  by_cases h : Flt.rung x = 0
  · rcases zero_word x hx h with rfl | rfl
    · have t1 := lt_test 0 0 (by omega) (by omega) false (by decide +kernel)
      have t2 := eq_test 0 0 (by omega) (by omega) true (by decide +kernel)
      have t3 := lt_test 9218868437227405312 0 (by omega) (by omega) false (by decide +kernel)
      have hd := div_run 4607182418800017408 0 9218868437227405312 (by decide +kernel) 23
      have hv : Hid (below 0 = false) := by show _ = _; decide +kernel
      clear hx h
      go_enter Tryz.func37, Tryz.ntmps37
      go_wp2_with fail
      go_ret
      exact ⟨ret_bool hv.out.symm, rfl⟩
    · have t1 := lt_test 9223372036854775808 0 (by omega) (by omega) false (by decide +kernel)
      have t2 := eq_test 9223372036854775808 0 (by omega) (by omega) true (by decide +kernel)
      have t3 := lt_test 18442240474082181120 0 (by omega) (by omega) true (by decide +kernel)
      have hd := div_run 4607182418800017408 9223372036854775808 18442240474082181120 (by decide +kernel) 23
      have hv : Hid (below 9223372036854775808 = true) := by show _ = _; decide +kernel
      clear hx h
      go_enter Tryz.func37, Tryz.ntmps37
      go_wp2_with fail
      go_ret
      exact ⟨ret_bool hv.out.symm, rfl⟩
  · have t2 := eq_test x 0 hx (by omega) false (by rw [eq_zero]; simpa using h)
    cases b : below x
    · have t1 := lt_test x 0 hx (by omega) false (by rw [lt_zero]; unfold below at b; rw [b]; rfl)
      clear hx h b
      go_enter Tryz.func37, Tryz.ntmps37
      go_wp2_with fail
      go_ret
      exact ⟨rfl, rfl⟩
    · have t1 := lt_test x 0 hx (by omega) true (by rw [lt_zero]; unfold below at b; rw [b]; simpa using h)
      clear hx h b
      go_enter Tryz.func37, Tryz.ntmps37
      go_wp2_with fail
      go_ret
      exact ⟨rfl, rfl⟩

theorem same_any (a b : Nat) (w : World) (ha : a < 2 ^ 64) (hb : b < 2 ^ 64) :
    Calls Tryz.prog 14 #[.float .f64 a, .float .f64 b] w fun e w' => e = .returned (.bool (same a b)) ∧ w = w' := by
  have n1 := nan_test a ha _ rfl
  have n2 := nan_test b hb _ rfl
  have t := eq_test a b ha hb _ rfl
  have b1 := below_any a w ha
  have b2 := below_any b w hb
  have hv : Hid (same a b = ((Flt.isNaN a && Flt.isNaN b) || (Flt.eq a b && (below a == below b)))) := by show _ = _; rfl
  clear ha hb
  generalize Flt.isNaN a = na at *
  generalize Flt.isNaN b = nb at *
  generalize Flt.eq a b = ab at *
  generalize below a = ba at *
  generalize below b = bb at *
  cases ab
  · cases na <;> cases nb
    all_goals
      go_enter Tryz.func14, Tryz.ntmps14
      go_wp2_with fail
      go_ret
      exact ⟨ret_bool hv.out.symm, rfl⟩
  · cases na <;> cases nb <;> cases ba <;> cases bb
    all_goals
      go_enter Tryz.func14, Tryz.ntmps14
      go_wp2_with fail
      try
        refine b1.mono ?_
        rintro e w' ⟨rfl, rfl⟩
        go_wp2_with fail
        refine b2.mono ?_
        rintro e w' ⟨rfl, rfl⟩
        go_wp2_with fail
      go_ret
      exact ⟨ret_bool hv.out.symm, rfl⟩

theorem inf_any (b : Bool) (w : World) :
    Calls Tryz.prog 29 #[.bool b] w fun e w' => e = .returned (.float .f64 (infW b)) ∧ w = w' := by
  have hd := div_run 4607182418800017408 0 9218868437227405312 (by decide +kernel) 23
  have hd2 := div_run 13830554455654793216 0 18442240474082181120 (by decide +kernel) 23
  cases b
  all_goals
    go_enter Tryz.func29, Tryz.ntmps29
    go_wp2_with fail
    go_ret
    exact ⟨rfl, rfl⟩

theorem eq_inf (x : Nat) (b : Bool) (hx : x < 2 ^ 64) : Flt.eq x (infW b) = decide (x = infW b) := by
  have hw := Flt.word_of x hx
  unfold Ieee.Format.word at hw
  rw [Flt.sw] at hw
  by_cases h : x = infW b
  · rw [h]; cases b <;> decide +kernel
  · rw [decide_eq_false h]
    have hi : Flt.isNaN (infW b) = false := by cases b <;> decide +kernel
    have hs : Flt.sv (infW b) = if b then -(Flt.cum 9218868437227405312 : Int) else Flt.cum 9218868437227405312 := by cases b <;> rfl
    have hI := cum_pos (show 0 < 9218868437227405312 by omega)
    unfold Flt.eq
    rw [hi, hs]
    unfold Flt.sv
    have inj := @Flt.cum_inj (Flt.rung x) 9218868437227405312
    unfold infW at h
    cases b <;> cases s : Flt.neg x <;> rw [s] at hw <;> simp at h hw ⊢ <;> intro _
    · intro h2; have := inj (by omega); omega
    · omega
    · omega
    · intro h2; have := inj (by omega); omega
set_option maxRecDepth 100000 in
theorem rank_any (x : Nat) (w : World) (hx : x < 2 ^ 64) :
    Calls Tryz.prog 49 #[.float .f64 x] w fun e w' => e = .returned (.int .i64 (rank x)) ∧ w = w' := by
  have h1 := nan_test x hx _ rfl
  have h2 := eq_test x (infW false) hx (by decide +kernel) _ (eq_inf x false hx)
  have h3 := eq_test x (infW true) hx (by decide +kernel) _ (eq_inf x true hx)
  have i1 := inf_any false w
  have i2 := inf_any true w
  have hv : Hid (rank x = if Flt.isNaN x then 3 else if x = infW false then 2 else if x = infW true then 0 else 1) := by show _ = _; rfl
  clear hx
  generalize infW false = pi at *
  generalize infW true = ni at *
  cases n : Flt.isNaN x
  · rw [n] at h1 hv
    by_cases c1 : x = pi
    · rw [decide_eq_true c1] at h2
      rw [if_neg (by simp), if_pos c1] at hv
      clear n c1 h3
      go_enter Tryz.func49, Tryz.ntmps49
      go_wp2_with fail
      refine i1.mono ?_
      rintro e w' ⟨rfl, rfl⟩
      go_wp2_with fail
      go_ret
      exact ⟨ret_int hv.out.symm, rfl⟩
    · rw [decide_eq_false c1] at h2
      rw [if_neg (by simp), if_neg c1] at hv
      by_cases c2 : x = ni
      · rw [decide_eq_true c2] at h3
        rw [if_pos c2] at hv
        clear n c1 c2
        go_enter Tryz.func49, Tryz.ntmps49
        go_wp2_with fail
        refine i1.mono ?_
        rintro e w' ⟨rfl, rfl⟩
        go_wp2_with fail
        refine i2.mono ?_
        rintro e w' ⟨rfl, rfl⟩
        go_wp2_with fail
        go_ret
        exact ⟨ret_int hv.out.symm, rfl⟩
      · rw [decide_eq_false c2] at h3
        rw [if_neg c2] at hv
        clear n c1 c2
        go_enter Tryz.func49, Tryz.ntmps49
        go_wp2_with fail
        refine i1.mono ?_
        rintro e w' ⟨rfl, rfl⟩
        go_wp2_with fail
        refine i2.mono ?_
        rintro e w' ⟨rfl, rfl⟩
        go_wp2_with fail
        go_ret
        exact ⟨ret_int hv.out.symm, rfl⟩
  · rw [n] at h1 hv
    rw [if_pos rfl] at hv
    clear n
    go_enter Tryz.func49, Tryz.ntmps49
    go_wp2_with fail
    go_ret
    exact ⟨ret_int hv.out.symm, rfl⟩

theorem rank_cases (x : Nat) (hx : x < 2 ^ 64) : (Flt.isNaN x = true ∧ rank x = 3) ∨ (Flt.isNaN x = false ∧ ((rank x = 2 ∧ Flt.sv x = Flt.cum 9218868437227405312 ∧ Flt.neg x = false) ∨ (rank x = 0 ∧ Flt.sv x = -(Flt.cum 9218868437227405312 : Int) ∧ Flt.neg x = true) ∨ (rank x = 1 ∧ -(Flt.cum 9218868437227405312 : Int) < Flt.sv x ∧ Flt.sv x < Flt.cum 9218868437227405312))) := by
  have hw := Flt.word_of x hx
  unfold Ieee.Format.word at hw
  rw [Flt.sw] at hw
  cases n : Flt.isNaN x
  · refine Or.inr ⟨rfl, ?_⟩
    have hr := Flt.not_nan n
    unfold rank
    simp only [n, Bool.false_eq_true, if_false]
    by_cases c1 : x = 9218868437227405312
    · subst c1; exact Or.inl ⟨rfl, rfl, by decide⟩
    · by_cases c2 : x = 18442240474082181120
      · subst c2; exact Or.inr (Or.inl ⟨rfl, rfl, by decide⟩)
      · refine Or.inr (Or.inr ⟨by rw [if_neg c1, if_neg c2], ?_⟩)
        refine Flt.sv_neg_lt x ?_
        cases s : Flt.neg x <;> rw [s] at hw <;> simp at hw <;> omega
  · exact Or.inl ⟨rfl, by unfold rank; rw [n]; rfl⟩
theorem less_rank (a b : Nat) (ha : a < 2 ^ 64) (hb : b < 2 ^ 64) : less a b = if rank a ≠ rank b ∨ rank a ≠ 1 then decide (rank a < rank b) else if Flt.eq a b then below a && !below b else Flt.lt a b := by
  have hC := cum_pos (show 0 < 9218868437227405312 by omega)
  have ra := rank_cases a ha
  have rb := rank_cases b hb
  unfold less Flt.eq Flt.lt below
  generalize Flt.cum 9218868437227405312 = C at *
  generalize Flt.isNaN a = na at *
  generalize Flt.isNaN b = nb at *
  generalize Flt.neg a = ga at *
  generalize Flt.neg b = gb at *
  generalize Flt.sv a = sa at *
  generalize Flt.sv b = sb at *
  generalize rank a = xa at *
  generalize rank b = xb at *
  rcases ra with ⟨rfl, rfl⟩ | ⟨rfl, ⟨rfl, rfl, rfl⟩ | ⟨rfl, rfl, rfl⟩ | ⟨rfl, h1, h2⟩⟩
  · rcases rb with ⟨rfl, rfl⟩ | ⟨rfl, ⟨rfl, rfl, rfl⟩ | ⟨rfl, rfl, rfl⟩ | ⟨rfl, h3, h4⟩⟩ <;> simp
  · rcases rb with ⟨rfl, rfl⟩ | ⟨rfl, ⟨rfl, rfl, rfl⟩ | ⟨rfl, rfl, rfl⟩ | ⟨rfl, h3, h4⟩⟩ <;> simp <;> omega
  · rcases rb with ⟨rfl, rfl⟩ | ⟨rfl, ⟨rfl, rfl, rfl⟩ | ⟨rfl, rfl, rfl⟩ | ⟨rfl, h3, h4⟩⟩ <;> simp
    all_goals first | omega | (rw [if_neg (by omega)]; first | omega | (rw [decide_eq_true (by omega)]) | (rw [decide_eq_false (by omega)]))
  · rcases rb with ⟨rfl, rfl⟩ | ⟨rfl, ⟨rfl, rfl, rfl⟩ | ⟨rfl, rfl, rfl⟩ | ⟨rfl, h3, h4⟩⟩ <;> simp
    all_goals first | omega | (rw [if_neg (by omega)]; first | omega | (rw [decide_eq_true (by omega)]) | (rw [decide_eq_false (by omega)]))
theorem lessRef_any (a b : Nat) (w : World) (ha : a < 2 ^ 64) (hb : b < 2 ^ 64) :
    Calls Tryz.prog 22 #[.float .f64 a, .float .f64 b] w fun e w' => e = .returned (.bool (less a b)) ∧ w = w' := by
  have hv := less_rank a b ha hb
  have r1 := rank_any a w ha
  have r2 := rank_any b w hb
  have t1 := eq_test a b ha hb _ rfl
  have t2 := lt_test a b ha hb _ rfl
  have b1 := below_any a w ha
  have b2 := below_any b w hb
  clear ha hb
  generalize rank a = xa at *
  generalize rank b = xb at *
  generalize below a = ba at *
  generalize below b = bb at *
  generalize Flt.lt a b = lt at *
  by_cases c1 : xa = xb
  · subst c1
    by_cases c2 : xa = 1
    · subst c2
      cases ab : Flt.eq a b
      · rw [ab] at t1 hv
        have hv2 : Hid (less a b = lt) := by show _ = _; rw [hv]; simp
        clear hv ab
        go_enter Tryz.func22, Tryz.ntmps22
        go_wp2_with fail
        refine r1.mono ?_
        rintro e w' ⟨rfl, rfl⟩
        go_wp2_with fail
        refine r2.mono ?_
        rintro e w' ⟨rfl, rfl⟩
        go_wp2_with fail
        go_ret
        exact ⟨ret_bool hv2.out.symm, rfl⟩
      · rw [ab] at t1 hv
        have hv2 : Hid (less a b = (ba && !bb)) := by show _ = _; rw [hv]; simp
        clear hv ab
        cases ba <;> cases bb
        all_goals
          go_enter Tryz.func22, Tryz.ntmps22
          go_wp2_with fail
          refine r1.mono ?_
          rintro e w' ⟨rfl, rfl⟩
          go_wp2_with fail
          refine r2.mono ?_
          rintro e w' ⟨rfl, rfl⟩
          go_wp2_with fail
          refine b1.mono ?_
          rintro e w' ⟨rfl, rfl⟩
          go_wp2_with fail
          refine b2.mono ?_
          rintro e w' ⟨rfl, rfl⟩
          go_wp2_with fail
          go_ret
          exact ⟨ret_bool hv2.out.symm, rfl⟩
    · have hv2 : Hid (less a b = decide (xa < xa)) := by show _ = _; rw [hv, if_pos (Or.inr c2)]
      have c3 : (xa == 1) = false := by simpa using c2
      have c4 : (xa != 1) = true := by simpa using c2
      clear hv
      go_enter Tryz.func22, Tryz.ntmps22
      go_wp2_with fail
      refine r1.mono ?_
      rintro e w' ⟨rfl, rfl⟩
      go_wp2_with fail
      refine r2.mono ?_
      rintro e w' ⟨rfl, rfl⟩
      go_wp2_with fail
      go_ret
      exact ⟨ret_bool (by rw [hv2.out]; simp), rfl⟩
  · have hv2 : Hid (less a b = decide (xa < xb)) := by show _ = _; rw [hv, if_pos (Or.inl c1)]
    have c3 : (xa == xb) = false := by simpa using c1
    have c4 : (xa != xb) = true := by simpa using c1
    clear hv
    go_enter Tryz.func22, Tryz.ntmps22
    go_wp2_with fail
    refine r1.mono ?_
    rintro e w' ⟨rfl, rfl⟩
    go_wp2_with fail
    refine r2.mono ?_
    rintro e w' ⟨rfl, rfl⟩
    go_wp2_with fail
    go_ret
    exact ⟨ret_bool hv2.out.symm, rfl⟩
end Go.Proofs.YtmljdclmcoedfaaGreatDoor.Cal
