/- The walk of a Feed's test if a byte may stand where it stands. -/
import Derived.Test.YtmhmbeofcedjjaaDoorVwb
namespace Go.Proofs.YtmhmbeofcedjjaaDoor.Vt
open Go.RowKit
open Cel (Blk Kept Tabs low Owns At)

set_option maxRecDepth 100000 in
theorem fits_any {K : Ctx} {w : World} {C : Cfg} (hS : Sys K w C) : Calls Tryd.prog 54 #[ptr K.fb] w fun e w' => e = .returned (.bool (fits C.S C.x)) ∧ Sys K w' C ∧ Fr K w C w' C := by
  have c0 : w.cell? ⟨K.fb, 0, none⟩ = some (ptr K.pb) := hS.fee.cell 0
  have hp   := hS.P.par
  have hr : w.rangeAt K.pb 2 [.int .i64 C.S.k, .int .i32 0, .int .u8 C.S.b, C.pv, .string (bs C.S.it), .string (bs [])] := fun j v hj => by
    rw [hp.cell]
    have hj6 : j < 6 := (List.getElem?_eq_some_iff.1 hj).1
    rw [← hj]
    match j, hj6 with
    | 0, _ => rfl
    | 1, _ => rfl
    | 2, _ => rfl
    | 3, _ => rfl
    | 4, _ => rfl
    | 5, _ => rfl
    | n + 6, h => exact absurd h (by omega)
  obtain ⟨A, c, hpv⟩ := own_slice hS.P.prm
  have hpl   := hS.P.bd.pl
  have hil := hS.P.bd.il
  obtain ⟨o, ho⟩ : ∃ o, o = Obj.cells #[.int .i64 C.S.k, .int .i32 0, .int .u8 C.S.b, C.pv, .string (bs C.S.it), .string (bs [])] 38 := ⟨_, rfl⟩
  have hbg : Blk (w.alloc o) w.heap.size 38 #[.int .i64 C.S.k, .int .i32 0, .int .u8 C.S.b, C.pv, .string (bs C.S.it), .string (bs [])] := by rw [ho]; exact Blk.new _ _ _
  rw [hpv] at hr hbg ho
  have d4 := hbg.cell 4
  have d3 := hbg.cell 3
  simp at d3 d4
  have c3 : (w.alloc o).cell? ⟨K.fb, 3, none⟩ = some (.int .u8 C.x) := (hS.fee.alloc o).cell 3
  have hS1 := hS.alloc o
  have hun := unmarked_any C.S.it (by omega) (w.alloc o)
  have hbt := isBetween_any C.x (w.alloc o)
  have hmk := isMark_any C.x (w.alloc o)
  have hbs := bs_size (bare C.S.it)
  have hbl := (bare_le C.S.it).1
  have HO := Lib.hid ho
  have HPV := Lib.hid hpv
  have lf := (hS.lt K.fb (.inr (.inl rfl))).2
  clear hpv hp ho hbg
  have hfr : Fr K w C (w.alloc o) C := Fr.same (p := fun _ => False) ((Kept.refl w _).alloc o) fun _ hf => hf.elim
  clear hS
  cases hb : isBet C.x with
  | true =>
    rw [hb] at hbt
    by_cases hlt : (bare C.S.it).length < 2
    all_goals
      first
        | have HF : Hid (fits C.S C.x = true) := (by show _ = _; unfold fits; rw [if_pos hb]; exact decide_eq_true hlt)
        | have HF : Hid (fits C.S C.x = false) := (by show _ = _; unfold fits; rw [if_pos hb]; exact decide_eq_false hlt)
      rw [HF.out]
      generalize bs (bare C.S.it) = X at *
      generalize (bare C.S.it).length = n at *
      clear hb HF
      go_enter Tryd.func54, Tryd.ntmps54
      go_wp2_with (refine wpList_load_mid rfl 38 (.tmp 11) rfl K.pb 2 rfl _ _ hr Tryd.underlying38 rfl (by show _ = some 6; kernel_rfl) ?_)
      rw [← HO.out]
      refine hun.mono ?_
      rintro e w1 ⟨rfl, rfl⟩
      go_wp2_with fail
      refine hbt.mono ?_
      rintro e w1 ⟨rfl, rfl⟩
      go_wp2
      go_ret
      refine ⟨?_, hS1, hfr⟩
      show Ending.returned (Value.bool _) = _
      first | rfl | (congr 2; simp only [decide_eq_true_eq, decide_eq_false_iff_not]; omega) | (congr 2; simp; omega)
  | false =>
    rw [hb] at hbt
    cases hm : isMk C.x with
    | true =>
      rw [hm] at hmk
      by_cases hit : C.S.it = []
      · rw [hit, bs_nil] at d4
        by_cases hps : C.S.ps.length = 0
        all_goals
          first
            | have HF : Hid (fits C.S C.x = true) := (by show _ = _; unfold fits; rw [if_neg (by rw [hb]; decide), if_pos hm, hit, List.eq_nil_of_length_eq_zero hps]; rfl)
            | have HF : Hid (fits C.S C.x = false) := (by show _ = _; unfold fits; rw [if_neg (by rw [hb]; decide), if_pos hm, hit]; cases hq : C.S.ps with | nil => exact absurd (by rw [hq]; rfl) hps | cons => rfl)
          rw [HF.out]
          generalize bs (bare C.S.it) = X at *
          try rw [hps] at hr d3 HO
          try generalize C.S.ps.length = n at *
          clear hb HF hm hit
          go_enter Tryd.func54, Tryd.ntmps54
          go_wp2_with (refine wpList_load_mid rfl 38 (.tmp 11) rfl K.pb 2 rfl _ _ hr Tryd.underlying38 rfl (by show _ = some 6; kernel_rfl) ?_)
          rw [← HO.out]
          refine hun.mono ?_
          rintro e w1 ⟨rfl, rfl⟩
          go_wp2_with fail
          refine hbt.mono ?_
          rintro e w1 ⟨rfl, rfl⟩
          go_wp2_with fail
          refine hmk.mono ?_
          rintro e w1 ⟨rfl, rfl⟩
          go_wp2
          go_ret
          refine ⟨?_, hS1, hfr⟩
          show Ending.returned (Value.bool _) = _
          first | rfl | (congr 2; simp only [decide_eq_true_eq, decide_eq_false_iff_not]; omega) | (congr 2; simp; omega)
      · have he1 : (bs C.S.it).toList.isEmpty = false := by rw [bs_tl]; cases hq : C.S.it with | nil => exact absurd hq hit | cons => rfl
        have he2 : ((bs C.S.it).toList == []) = false := by rw [bs_tl]; cases hq : C.S.it with | nil => exact absurd hq hit | cons => rfl
        have HF : Hid (fits C.S C.x = false) := (by show _ = _; unfold fits; rw [if_neg (by rw [hb]; decide), if_pos hm]; cases hq : C.S.it with | nil => exact absurd hq hit | cons => rfl)
        rw [HF.out]
        generalize bs (bare C.S.it) = X at *
        clear hb HF hm hit
        go_enter Tryd.func54, Tryd.ntmps54
        go_wp2_with (refine wpList_load_mid rfl 38 (.tmp 11) rfl K.pb 2 rfl _ _ hr Tryd.underlying38 rfl (by show _ = some 6; kernel_rfl) ?_)
        rw [← HO.out]
        refine hun.mono ?_
        rintro e w1 ⟨rfl, rfl⟩
        go_wp2_with fail
        refine hbt.mono ?_
        rintro e w1 ⟨rfl, rfl⟩
        go_wp2_with fail
        refine hmk.mono ?_
        rintro e w1 ⟨rfl, rfl⟩
        go_wp2
        go_ret
        refine ⟨?_, hS1, hfr⟩
        show Ending.returned (Value.bool _) = _
        first | rfl | (congr 2; simp only [decide_eq_true_eq, decide_eq_false_iff_not]; omega) | (congr 2; simp; omega)
    | false =>
      rw [hm] at hmk
      by_cases hx : C.x = 58
      · have hx1 : (C.x != 58) = false := by simp [hx]
        have HF : Hid (fits C.S C.x = false) := (by show _ = _; unfold fits; rw [if_neg (by rw [hb]; decide), if_neg (by rw [hm]; decide), hx1]; rfl)
        rw [HF.out]
        generalize bs (bare C.S.it) = X at *
        clear hb HF hm hx
        go_enter Tryd.func54, Tryd.ntmps54
        go_wp2_with (refine wpList_load_mid rfl 38 (.tmp 11) rfl K.pb 2 rfl _ _ hr Tryd.underlying38 rfl (by show _ = some 6; kernel_rfl) ?_)
        rw [← HO.out]
        refine hun.mono ?_
        rintro e w1 ⟨rfl, rfl⟩
        go_wp2_with fail
        refine hbt.mono ?_
        rintro e w1 ⟨rfl, rfl⟩
        go_wp2_with fail
        refine hmk.mono ?_
        rintro e w1 ⟨rfl, rfl⟩
        go_wp2
        go_ret
        refine ⟨?_, hS1, hfr⟩
        show Ending.returned (Value.bool _) = _
        first | rfl | (congr 2; simp only [decide_eq_true_eq, decide_eq_false_iff_not]; omega) | (congr 2; simp; omega)
      · have hx1 : (C.x != 58) = true := by simp [hx]
        by_cases h0 : (bare C.S.it).length = 0
        all_goals
          first
            | have HF : Hid (fits C.S C.x = true) := (by show _ = _; unfold fits; rw [if_neg (by rw [hb]; decide), if_neg (by rw [hm]; decide), hx1, h0]; rfl)
            | have HF : Hid (fits C.S C.x = false) := (by show _ = _; unfold fits; rw [if_neg (by rw [hb]; decide), if_neg (by rw [hm]; decide), hx1]; simpa using h0)
          rw [HF.out]
          generalize bs (bare C.S.it) = X at *
          generalize (bare C.S.it).length = n at *
          clear hb HF hm hx
          go_enter Tryd.func54, Tryd.ntmps54
          go_wp2_with (refine wpList_load_mid rfl 38 (.tmp 11) rfl K.pb 2 rfl _ _ hr Tryd.underlying38 rfl (by show _ = some 6; kernel_rfl) ?_)
          rw [← HO.out]
          refine hun.mono ?_
          rintro e w1 ⟨rfl, rfl⟩
          go_wp2_with fail
          refine hbt.mono ?_
          rintro e w1 ⟨rfl, rfl⟩
          go_wp2_with fail
          refine hmk.mono ?_
          rintro e w1 ⟨rfl, rfl⟩
          go_wp2
          go_ret
          refine ⟨?_, hS1, hfr⟩
          show Ending.returned (Value.bool _) = _
          first | rfl | (congr 2; simp only [decide_eq_true_eq, decide_eq_false_iff_not]; omega) | (congr 2; simp; omega)
end Go.Proofs.YtmhmbeofcedjjaaDoor.Vt
