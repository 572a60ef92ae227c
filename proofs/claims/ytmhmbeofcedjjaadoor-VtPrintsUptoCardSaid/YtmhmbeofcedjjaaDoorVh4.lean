/- The walk of a Feed's reading of what an ESC begins. -/
import Derived.Test.YtmhmbeofcedjjaaDoorVh7
namespace Go.Proofs.YtmhmbeofcedjjaaDoor.Vt
open Go.RowKit
open Cel (Blk Kept Tabs low Owns At)
attribute [local go_sem] Jn.normal Jn.exit Jn.ret Jn.panic

set_option maxRecDepth 100000 in
set_option maxHeartbeats 4000000 in
theorem readHead_4 {K : Ctx} {w : World} {C : Cfg} (hS : Sys K w C) (hs : C.S.s = 4) (F : Ps × List Ac) (hF : Fu K C C.S C.j = F) (hn : F.2.length ≤ 4294967200) :
    Calls Tryd.prog 22 #[ptr K.fb] w (Read K w C F) := by
  have c0 : w.cell? ⟨K.fb, 0, none⟩ = some (ptr K.pb) := hS.fee.cell 0
  have p0 : w.cell? ⟨K.pb, 0, none⟩ = some (.string (nm C.S.s)) := hS.P.par.cell 0
  rw [hs, nm4] at p0
  have HF0 : Hid (Fu K C { C.S with s := 4 } C.j = F) := by show _ = _; rw [setS_same hs]; exact hF
  have HHD : Hid (isHd C.S.s = true) := by show _ = _; rw [hs]; rfl
  clear hF
  obtain ⟨C5, hC5⟩ : ∃ C5, C5 = C := ⟨_, rfl⟩
  have s5 : Sys K w C5 := hC5 ▸ hS
  have ff : Fr K w C w C5 := hC5 ▸ Fr.refl K w C
  have HG : Hid (C.j ≤ C5.j) := by show _ ≤ _; rw [hC5]; exact Nat.le_refl _
  have HF : Hid (Fu K C5 { C5.S with s := 4 } C5.j = F) := by rw [hC5]; exact HF0
  clear hC5 HF0
  go_enter Tryd.func22, Tryd.ntmps22
  refine wp_scope_unroll 3 ?_
  go_wp2
  apply wp_goto
  refine Jn.go (by rfl) ?_
  have ck := collect_any s5 4 (by omega) F HF.out hn
  rw [nm4] at ck
  go_wp2_with fail
  refine ck.mono ?_
  rintro e w6 ⟨r, C6, rfl, s6, f6, ⟨rfl, hj6, hs6, hf6⟩ | ⟨rfl, hj6, hf6⟩ | ⟨rfl, hf6, hj6, hc6⟩⟩
  · clear ck HF
    have hop := opened_any s6
    have HG6 : Hid (C.j < C6.j) := by show _ < _; exact Nat.lt_of_le_of_lt HG.out hj6
    clear hj6
    have d0 : w6.cell? ⟨K.fb, 0, none⟩ = some (ptr K.pb) := s6.fee.cell 0
    have d1 : w6.cell? ⟨K.pb, 0, none⟩ = some (.string (nm C6.S.s)) := s6.P.par.cell 0
    have d2 : w6.frozen? ⟨K.pb, 0, none⟩ = false := s6.P.par.frozen 0
    have hoc : opened C6.S C6.x = 5 ∨ opened C6.S C6.x = 6 ∨ opened C6.S C6.x = 1 ∨ opened C6.S C6.x = 3 ∨ opened C6.S C6.x = 0 := by
      unfold opened opens; repeat' split
      all_goals simp
    rcases hoc with ho | ho | ho | ho | ho
    · rw [ho, nm5] at hop
      go_wp2_with fail
      refine hop.mono ?_
      rintro e w7 ⟨rfl, rfl⟩
      have he : ended C6.S C6.x = ({ C6.S with s := 5, k := 4, b := 0, ps := [], it := [], tx := [], af := false }, []) := by unfold ended; rw [if_pos hs6, ho]; rfl
      rw [he] at hf6
      have hfu6 : Fu K C6 { C6.S with s := 5, k := 4, b := 0, ps := [], it := [], tx := [], af := false } C6.j = F := fe_end hf6 (List.append_nil _).symm
      have HF6 := Lib.hid hfu6
      clear hf6 hfu6 he hs6 ho
      have hb := begin_any s6.P.par 4
      have hd6 := s6.P.bd
      go_wp2_with fail
      refine hb.mono ?_
      rintro e w7 ⟨rfl, q7, k7⟩
      obtain ⟨s7, f7⟩ := s6.setP k7 { C6.S with k := 4, b := 0, ps := [], it := [], tx := [], af := false } nilV nilV q7 rfl ⟨hd6.s1, (by decide : (0 : Int) ≤ 4), (by decide : (4 : Int) ≤ 6), (by decide : (0 : Int) ≤ 0), (by decide : (0 : Int) ≤ 255), (by decide : ([] : List Int).length ≤ 33), (fun p hp => by cases hp), (by decide : ([] : Tx).length ≤ 3), (by decide : ([] : Tx).length ≤ 1024), hd6.di⟩ (.inr ⟨rfl, rfl⟩) (.inr ⟨rfl, rfl⟩)
      clear q7 k7 hb hd6
      have HG : Hid (C.j ≤ C6.j) := by show _ ≤ _; exact Nat.le_of_lt HG6.out
      have HF : Hid (Fu K { C6 with S := { C6.S with k := 4, b := 0, ps := [], it := [], tx := [], af := false }, pv := nilV, tv := nilV } { ({ C6.S with k := 4, b := 0, ps := [], it := [], tx := [], af := false } : Ps) with s := 5 } C6.j = F) := by show _ = _; exact HF6.out
      have ff := (ff.trans f6).trans f7
      clear HG6 HF6
      obtain ⟨C5, hC5⟩ : ∃ C5, C5 = ({ C6 with S := { C6.S with k := 4, b := 0, ps := [], it := [], tx := [], af := false }, pv := nilV, tv := nilV } : Cfg) := ⟨_, rfl⟩
      have s5 : Sys K w7 C5 := hC5 ▸ s7
      have ff : Fr K w C w7 C5 := hC5 ▸ ff
      have HG : Hid (C.j ≤ C5.j) := by rw [hC5]; exact HG
      have HF : Hid (Fu K C5 { C5.S with s := 5 } C5.j = F) := by rw [hC5]; exact HF
      clear hC5 s7 f7 f6 s6
      go_wp2
      apply wp_goto
      refine Jn.go (by rfl) ?_
      have ck := collect_any s5 5 (by omega) F HF.out hn
      rw [nm5] at ck
      go_wp2_with fail
      refine ck.mono ?_
      rintro e w6 ⟨r, C6, rfl, s6, f6, ⟨rfl, hj6, hs6, hf6⟩ | ⟨rfl, hj6, hf6⟩ | ⟨rfl, hf6, hj6, hc6⟩⟩
      · clear ck HF
        have he : ended C6.S C6.x = (ps0, [act C6.S]) := by unfold ended; rw [if_neg (by rw [hs6]; decide), if_pos hs6]
        rw [he] at hf6
        have hl6 := fe_len hf6
        have ht := tellBegun_left s6 (by simp at hl6; omega)
        have HF6 := Lib.hid hf6
        have HG6 : Hid (C.j < C6.j) := by show _ < _; exact Nat.lt_of_le_of_lt HG.out hj6
        clear hf6 hj6 hs6 he hl6
        go_wp2_with fail
        refine ht.mono ?_
        rintro e w7 ⟨rfl, C7, s7, f7, j7, x7, S7, o7⟩
        have HF7 : Hid (Fu K C7 C7.S C7.j = F) := by show _ = _; rw [S7, j7]; exact fe_end HF6.out o7
        have HJ7 : Hid (C.j < C7.j) := by show _ < _; rw [j7]; exact HG6.out
        clear j7 x7 S7 o7
        go_wp2
        go_end0
        exact ⟨rfl, C7, s7, (ff.trans f6).trans f7, HF7.out, Nat.le_of_lt HJ7.out, .inr (.inl HJ7.out)⟩
      · clear ck HF
        have HG : Hid (C.j ≤ C6.j) := by show _ ≤ _; exact Nat.le_of_lt (Nat.lt_of_le_of_lt HG.out hj6)
        have HF := Lib.hid hf6
        have ff := ff.trans f6
        clear hj6 hf6 f6
        generalize C6 = C5 at *
        rename Sys K w6 C5 => s5
        go_wp2
        apply wp_goto
        refine Jn.go (by rfl) ?_
        go_wp2
        go_loopw [] (fun wr => ∃ C', Sys K wr C' ∧ Fr K w C wr C' ∧ C.j ≤ C'.j ∧ Fu K C' { C'.S with s := 7 } C'.j = F) (fun wr => K.l.length - (intOf ((wr.cell? ⟨K.fb, 2, none⟩).getD (.int .i64 0))).toNat)
        case atStart => exact ⟨C5, s5, ff, HG.out, HF.out⟩
        case round =>
          obtain ⟨C', hs', hf, hj, hfu⟩ := hrel
          have q2 : wr.cell? ⟨K.fb, 2, none⟩ = some (.int .i64 C'.j) := hs'.fee.cell 2
          have tk := take_any hs' 7 (by omega) F hfu hn
          rw [nm7] at tk
          have HJ := Lib.hid hj
          clear hfu hj
          go_wp2_with fail
          refine tk.mono ?_
          rintro e w2 ⟨t, C2, rfl, s2, f2, ⟨rfl, m, u, hm, hjm, hu, hx, hs2, hl, hfu2⟩ | ⟨rfl, hfu2, hj2, hc2⟩⟩
          · have hfin := final_any s2
            have hst0 := step_ign (S := C2.S) (u := u) hs2 (by rw [hs2]; exact hl)
            rw [← hx] at hst0
            have HM := Lib.hid hm
            have HJ2 : Hid (C'.j < C2.j) := by show _ < _; omega
            have HS2 := Lib.hid hs2
            cases hfi : isFin C2.S.k C2.x with
            | true =>
              rw [hfi] at hfin
              have hst : step C2.S u = (ign C2.S, []) := by rw [hst0, if_pos hfi]; rfl
              have HF2 := Lib.hid (fun (C3 : Cfg) h => (fu_step (C' := C3) hu hst h).trans hfu2)
              clear hx hu hl hfu2 hs2 hst hst0 hm hfi tk q2
              go_wp2_with fail
              refine hfin.mono ?_
              rintro e w3 ⟨rfl, n, hw3⟩
              have s3 : Sys K w3 C2 := hw3 ▸ s2.drewN n
              have f3 : Fr K w2 C2 w3 C2 := hw3 ▸ Fr.same (p := fun _ => False) ((Kept.refl w2 _).drewN n) fun _ hf => hf.elim
              clear hw3 hfin
              have hen := endIgnored_any s3
              go_wp2_with fail
              refine hen.mono ?_
              rintro e w5 ⟨rfl, C5, s5, f5, j5, x5, S5, o5⟩
              have HJ5 := Lib.hid j5
              have HS5 := Lib.hid S5
              have HO5 := Lib.hid o5
              clear j5 x5 S5 o5
              go_wp2
              go_end0
              refine ⟨rfl, C5, s5, ((hf.trans f2).trans f3).trans f5, ?_, ?_, .inr (.inl ?_)⟩
              · rw [HS5.out, HJ5.out, HM.out]; exact HF2.out C5 HO5.out
              · rw [HJ5.out]; exact Nat.le_of_lt (Nat.lt_of_le_of_lt HJ.out HJ2.out)
              · rw [HJ5.out]; exact Nat.lt_of_le_of_lt HJ.out HJ2.out
            | false =>
              rw [hfi] at hfin
              have hst : step C2.S u = (C2.S, []) := by rw [hst0, if_neg (by rw [hfi]; decide)]
              have HF2 := Lib.hid (fun (C3 : Cfg) h => (fu_step (C' := C3) hu hst h).trans hfu2)
              clear hx hu hl hfu2 hs2 hst hst0 hm hfi tk
              go_wp2_with fail
              refine hfin.mono ?_
              rintro e w3 ⟨rfl, n, hw3⟩
              have s3 : Sys K w3 C2 := hw3 ▸ s2.drewN n
              have f3 : Fr K w2 C2 w3 C2 := hw3 ▸ Fr.same (p := fun _ => False) ((Kept.refl w2 _).drewN n) fun _ hf => hf.elim
              clear hw3 hfin
              go_wp2
              go_roundw
              case rel =>
                refine ⟨C2, s3, (hf.trans f2).trans f3, Nat.le_of_lt (Nat.lt_of_le_of_lt HJ.out HJ2.out), ?_⟩
                rw [setS_same HS2.out, HM.out]
                exact HF2.out C2 (List.append_nil _).symm
              case measure => exact meas q2 (s3.fee.cell 2) HJ2.out s3.jl
          · have HC := Lib.hid hc2
            have HF2 := Lib.hid hfu2
            clear hc2 hfu2
            go_wp2_with fail
            go_end0
            refine ⟨rfl, C2, s2, hf.trans f2, HF2.out, Nat.le_trans HJ.out hj2, ?_⟩
            have := HJ.out
            rcases HC.out with h | h | h
            · exact .inl h
            · exact .inr (.inl (by omega))
            · exact .inr (.inr ⟨HHD.out, h.2⟩)
      · clear ck HF
        have HC := Lib.hid hc6
        have HF2 := Lib.hid hf6
        have HJ6 := Lib.hid hj6
        clear hc6 hf6 hj6
        go_wp2
        go_end0
        refine ⟨rfl, C6, s6, ff.trans f6, HF2.out, Nat.le_trans HG.out HJ6.out, ?_⟩
        have := HG.out
        rcases HC.out with h | h | h
        · exact .inl h
        · exact .inr (.inl (by omega))
        · exact .inr (.inr ⟨HHD.out, h⟩)
    · rw [ho, nm6] at hop
      go_wp2_with fail
      refine hop.mono ?_
      rintro e w7 ⟨rfl, rfl⟩
      have he : ended C6.S C6.x = ({ C6.S with s := 6, k := 6, b := 0, ps := [], it := [], tx := [], af := false }, []) := by unfold ended; rw [if_pos hs6, ho]; rfl
      rw [he] at hf6
      have hfu6 : Fu K C6 { C6.S with s := 6, k := 6, b := 0, ps := [], it := [], tx := [], af := false } C6.j = F := fe_end hf6 (List.append_nil _).symm
      have HF6 := Lib.hid hfu6
      clear hf6 hfu6 he hs6 ho
      have hb := begin_any s6.P.par 6
      have hd6 := s6.P.bd
      go_wp2_with fail
      refine hb.mono ?_
      rintro e w7 ⟨rfl, q7, k7⟩
      obtain ⟨s7, f7⟩ := s6.setP k7 { C6.S with k := 6, b := 0, ps := [], it := [], tx := [], af := false } nilV nilV q7 rfl ⟨hd6.s1, (by decide : (0 : Int) ≤ 6), (by decide : (6 : Int) ≤ 6), (by decide : (0 : Int) ≤ 0), (by decide : (0 : Int) ≤ 255), (by decide : ([] : List Int).length ≤ 33), (fun p hp => by cases hp), (by decide : ([] : Tx).length ≤ 3), (by decide : ([] : Tx).length ≤ 1024), hd6.di⟩ (.inr ⟨rfl, rfl⟩) (.inr ⟨rfl, rfl⟩)
      clear q7 k7 hb hd6
      have HG : Hid (C.j ≤ C6.j) := by show _ ≤ _; exact Nat.le_of_lt HG6.out
      have HF : Hid (Fu K { C6 with S := { C6.S with k := 6, b := 0, ps := [], it := [], tx := [], af := false }, pv := nilV, tv := nilV } { ({ C6.S with k := 6, b := 0, ps := [], it := [], tx := [], af := false } : Ps) with s := 6 } C6.j = F) := by show _ = _; exact HF6.out
      have ff := (ff.trans f6).trans f7
      clear HG6 HF6
      obtain ⟨C5, hC5⟩ : ∃ C5, C5 = ({ C6 with S := { C6.S with k := 6, b := 0, ps := [], it := [], tx := [], af := false }, pv := nilV, tv := nilV } : Cfg) := ⟨_, rfl⟩
      have s5 : Sys K w7 C5 := hC5 ▸ s7
      have ff : Fr K w C w7 C5 := hC5 ▸ ff
      have HG : Hid (C.j ≤ C5.j) := by rw [hC5]; exact HG
      have HF : Hid (Fu K C5 { C5.S with s := 6 } C5.j = F) := by rw [hC5]; exact HF
      clear hC5 s7 f7 f6 s6
      go_wp2
      apply wp_goto
      refine Jn.go (by rfl) ?_
      have ck := collect_any s5 6 (by omega) F HF.out hn
      rw [nm6] at ck
      go_wp2_with fail
      refine ck.mono ?_
      rintro e w6 ⟨r, C6, rfl, s6, f6, ⟨rfl, hj6, hs6, hf6⟩ | ⟨rfl, hj6, hf6⟩ | ⟨rfl, hf6, hj6, hc6⟩⟩
      · clear ck HF
        have he : ended C6.S C6.x = ({ C6.S with s := 2 }, []) := by unfold ended; rw [if_neg (by rw [hs6]; decide), if_neg (by rw [hs6]; decide)]
        rw [he] at hf6
        have HF6 := Lib.hid hf6
        have HG6 : Hid (C.j < C6.j) := by show _ < _; exact Nat.lt_of_le_of_lt HG.out hj6
        clear hf6 hj6 hs6 he
        have d0 : w6.cell? ⟨K.fb, 0, none⟩ = some (ptr K.pb) := s6.fee.cell 0
        have d1 : w6.cell? ⟨K.pb, 0, none⟩ = some (.string (nm C6.S.s)) := s6.P.par.cell 0
        have d2 : w6.frozen? ⟨K.pb, 0, none⟩ = false := s6.P.par.frozen 0
        obtain ⟨s7, f7⟩ := s6.setS 2 (by omega)
        rw [nm2] at s7 f7
        go_wp2
        go_end0
        exact ⟨rfl, _, s7, (ff.trans f6).trans f7, fe_end HF6.out (List.append_nil _).symm, Nat.le_of_lt HG6.out, .inr (.inl HG6.out)⟩
      · clear ck HF
        have HG : Hid (C.j ≤ C6.j) := by show _ ≤ _; exact Nat.le_of_lt (Nat.lt_of_le_of_lt HG.out hj6)
        have HF := Lib.hid hf6
        have ff := ff.trans f6
        clear hj6 hf6 f6
        generalize C6 = C5 at *
        rename Sys K w6 C5 => s5
        go_wp2
        apply wp_goto
        refine Jn.go (by rfl) ?_
        go_wp2
        go_loopw [] (fun wr => ∃ C', Sys K wr C' ∧ Fr K w C wr C' ∧ C.j ≤ C'.j ∧ Fu K C' { C'.S with s := 7 } C'.j = F) (fun wr => K.l.length - (intOf ((wr.cell? ⟨K.fb, 2, none⟩).getD (.int .i64 0))).toNat)
        case atStart => exact ⟨C5, s5, ff, HG.out, HF.out⟩
        case round =>
          obtain ⟨C', hs', hf, hj, hfu⟩ := hrel
          have q2 : wr.cell? ⟨K.fb, 2, none⟩ = some (.int .i64 C'.j) := hs'.fee.cell 2
          have tk := take_any hs' 7 (by omega) F hfu hn
          rw [nm7] at tk
          have HJ := Lib.hid hj
          clear hfu hj
          go_wp2_with fail
          refine tk.mono ?_
          rintro e w2 ⟨t, C2, rfl, s2, f2, ⟨rfl, m, u, hm, hjm, hu, hx, hs2, hl, hfu2⟩ | ⟨rfl, hfu2, hj2, hc2⟩⟩
          · have hfin := final_any s2
            have hst0 := step_ign (S := C2.S) (u := u) hs2 (by rw [hs2]; exact hl)
            rw [← hx] at hst0
            have HM := Lib.hid hm
            have HJ2 : Hid (C'.j < C2.j) := by show _ < _; omega
            have HS2 := Lib.hid hs2
            cases hfi : isFin C2.S.k C2.x with
            | true =>
              rw [hfi] at hfin
              have hst : step C2.S u = (ign C2.S, []) := by rw [hst0, if_pos hfi]; rfl
              have HF2 := Lib.hid (fun (C3 : Cfg) h => (fu_step (C' := C3) hu hst h).trans hfu2)
              clear hx hu hl hfu2 hs2 hst hst0 hm hfi tk q2
              go_wp2_with fail
              refine hfin.mono ?_
              rintro e w3 ⟨rfl, n, hw3⟩
              have s3 : Sys K w3 C2 := hw3 ▸ s2.drewN n
              have f3 : Fr K w2 C2 w3 C2 := hw3 ▸ Fr.same (p := fun _ => False) ((Kept.refl w2 _).drewN n) fun _ hf => hf.elim
              clear hw3 hfin
              have hen := endIgnored_any s3
              go_wp2_with fail
              refine hen.mono ?_
              rintro e w5 ⟨rfl, C5, s5, f5, j5, x5, S5, o5⟩
              have HJ5 := Lib.hid j5
              have HS5 := Lib.hid S5
              have HO5 := Lib.hid o5
              clear j5 x5 S5 o5
              go_wp2
              go_end0
              refine ⟨rfl, C5, s5, ((hf.trans f2).trans f3).trans f5, ?_, ?_, .inr (.inl ?_)⟩
              · rw [HS5.out, HJ5.out, HM.out]; exact HF2.out C5 HO5.out
              · rw [HJ5.out]; exact Nat.le_of_lt (Nat.lt_of_le_of_lt HJ.out HJ2.out)
              · rw [HJ5.out]; exact Nat.lt_of_le_of_lt HJ.out HJ2.out
            | false =>
              rw [hfi] at hfin
              have hst : step C2.S u = (C2.S, []) := by rw [hst0, if_neg (by rw [hfi]; decide)]
              have HF2 := Lib.hid (fun (C3 : Cfg) h => (fu_step (C' := C3) hu hst h).trans hfu2)
              clear hx hu hl hfu2 hs2 hst hst0 hm hfi tk
              go_wp2_with fail
              refine hfin.mono ?_
              rintro e w3 ⟨rfl, n, hw3⟩
              have s3 : Sys K w3 C2 := hw3 ▸ s2.drewN n
              have f3 : Fr K w2 C2 w3 C2 := hw3 ▸ Fr.same (p := fun _ => False) ((Kept.refl w2 _).drewN n) fun _ hf => hf.elim
              clear hw3 hfin
              go_wp2
              go_roundw
              case rel =>
                refine ⟨C2, s3, (hf.trans f2).trans f3, Nat.le_of_lt (Nat.lt_of_le_of_lt HJ.out HJ2.out), ?_⟩
                rw [setS_same HS2.out, HM.out]
                exact HF2.out C2 (List.append_nil _).symm
              case measure => exact meas q2 (s3.fee.cell 2) HJ2.out s3.jl
          · have HC := Lib.hid hc2
            have HF2 := Lib.hid hfu2
            clear hc2 hfu2
            go_wp2_with fail
            go_end0
            refine ⟨rfl, C2, s2, hf.trans f2, HF2.out, Nat.le_trans HJ.out hj2, ?_⟩
            have := HJ.out
            rcases HC.out with h | h | h
            · exact .inl h
            · exact .inr (.inl (by omega))
            · exact .inr (.inr ⟨HHD.out, h.2⟩)
      · clear ck HF
        have HC := Lib.hid hc6
        have HF2 := Lib.hid hf6
        have HJ6 := Lib.hid hj6
        clear hc6 hf6 hj6
        go_wp2
        go_end0
        refine ⟨rfl, C6, s6, ff.trans f6, HF2.out, Nat.le_trans HG.out HJ6.out, ?_⟩
        have := HG.out
        rcases HC.out with h | h | h
        · exact .inl h
        · exact .inr (.inl (by omega))
        · exact .inr (.inr ⟨HHD.out, h⟩)
    · rw [ho, nm1] at hop
      go_wp2_with fail
      refine hop.mono ?_
      rintro e w7 ⟨rfl, rfl⟩
      have he : ended C6.S C6.x = ({ C6.S with s := 1, k := 5, b := 0, ps := [], it := [], tx := [], af := false }, []) := by unfold ended; rw [if_pos hs6, ho]; rfl
      rw [he] at hf6
      have hfu6 : Fu K C6 { C6.S with s := 1, k := 5, b := 0, ps := [], it := [], tx := [], af := false } C6.j = F := fe_end hf6 (List.append_nil _).symm
      have HF6 := Lib.hid hfu6
      clear hf6 hfu6 he hs6 ho
      have hb := begin_any s6.P.par 5
      have hd6 := s6.P.bd
      go_wp2_with fail
      refine hb.mono ?_
      rintro e w7 ⟨rfl, q7, k7⟩
      obtain ⟨s7, f7⟩ := s6.setP k7 { C6.S with k := 5, b := 0, ps := [], it := [], tx := [], af := false } nilV nilV q7 rfl ⟨hd6.s1, (by decide : (0 : Int) ≤ 5), (by decide : (5 : Int) ≤ 6), (by decide : (0 : Int) ≤ 0), (by decide : (0 : Int) ≤ 255), (by decide : ([] : List Int).length ≤ 33), (fun p hp => by cases hp), (by decide : ([] : Tx).length ≤ 3), (by decide : ([] : Tx).length ≤ 1024), hd6.di⟩ (.inr ⟨rfl, rfl⟩) (.inr ⟨rfl, rfl⟩)
      clear q7 k7 hb hd6
      have e0 : w7.cell? ⟨K.fb, 0, none⟩ = some (ptr K.pb) := s7.fee.cell 0
      have e1 : w7.cell? ⟨K.pb, 0, none⟩ = some (.string (nm C6.S.s)) := s7.P.par.cell 0
      have e2 : w7.frozen? ⟨K.pb, 0, none⟩ = false := s7.P.par.frozen 0
      obtain ⟨s8, f8⟩ := s7.setS 1 (by omega)
      rw [nm1] at s8 f8
      go_wp2
      go_end0
      exact ⟨rfl, _, s8, ((ff.trans f6).trans f7).trans f8, HF6.out, Nat.le_of_lt HG6.out, .inr (.inl HG6.out)⟩
    · rw [ho, nm3] at hop
      go_wp2_with fail
      refine hop.mono ?_
      rintro e w7 ⟨rfl, rfl⟩
      have he : ended C6.S C6.x = ({ C6.S with s := 3 }, []) := by unfold ended; rw [if_pos hs6, ho]; rfl
      rw [he] at hf6
      have HF6 := Lib.hid hf6
      clear hf6 he hs6 ho
      obtain ⟨s8, f8⟩ := s6.setS 3 (by omega)
      rw [nm3] at s8 f8
      go_wp2
      go_end0
      exact ⟨rfl, _, s8, (ff.trans f6).trans f8, fe_end HF6.out (List.append_nil _).symm, Nat.le_of_lt HG6.out, .inr (.inl HG6.out)⟩
    · rw [ho, nm0] at hop
      have he : ended C6.S C6.x = (ps0, escEnd C6.S C6.x) := by
        unfold ended escEnd; rw [if_pos hs6, ho]
        by_cases h : C6.S.af = true ∧ C6.S.it = [] ∧ C6.x = 92
        · simp [h]
        · rw [if_neg h]; simp only [if_neg h]; rfl
      rw [he] at hf6
      have hl6 := fe_len hf6
      have ht := tellEscape_any s6 (by omega)
      have HF6 := Lib.hid hf6
      clear hf6 he hs6 ho hl6
      go_wp2_with fail
      refine hop.mono ?_
      rintro e w7 ⟨rfl, rfl⟩
      go_wp2_with fail
      refine ht.mono ?_
      rintro e w7 ⟨rfl, C7, s7, f7, j7, x7, S7, o7⟩
      have HF7 : Hid (Fu K C7 C7.S C7.j = F) := by show _ = _; rw [S7, j7]; exact fe_end HF6.out o7
      have HJ7 : Hid (C.j < C7.j) := by show _ < _; rw [j7]; exact HG6.out
      clear j7 x7 S7 o7
      go_wp2
      go_end0
      exact ⟨rfl, C7, s7, (ff.trans f6).trans f7, HF7.out, Nat.le_of_lt HJ7.out, .inr (.inl HJ7.out)⟩
  · clear ck HF
    have HG : Hid (C.j ≤ C6.j) := by show _ ≤ _; exact Nat.le_of_lt (Nat.lt_of_le_of_lt HG.out hj6)
    have HF := Lib.hid hf6
    have ff := ff.trans f6
    clear hj6 hf6 f6
    generalize C6 = C5 at *
    rename Sys K w6 C5 => s5
    go_wp2
    apply wp_goto
    refine Jn.go (by rfl) ?_
    go_wp2
    go_loopw [] (fun wr => ∃ C', Sys K wr C' ∧ Fr K w C wr C' ∧ C.j ≤ C'.j ∧ Fu K C' { C'.S with s := 7 } C'.j = F) (fun wr => K.l.length - (intOf ((wr.cell? ⟨K.fb, 2, none⟩).getD (.int .i64 0))).toNat)
    case atStart => exact ⟨C5, s5, ff, HG.out, HF.out⟩
    case round =>
      obtain ⟨C', hs', hf, hj, hfu⟩ := hrel
      have q2 : wr.cell? ⟨K.fb, 2, none⟩ = some (.int .i64 C'.j) := hs'.fee.cell 2
      have tk := take_any hs' 7 (by omega) F hfu hn
      rw [nm7] at tk
      have HJ := Lib.hid hj
      clear hfu hj
      go_wp2_with fail
      refine tk.mono ?_
      rintro e w2 ⟨t, C2, rfl, s2, f2, ⟨rfl, m, u, hm, hjm, hu, hx, hs2, hl, hfu2⟩ | ⟨rfl, hfu2, hj2, hc2⟩⟩
      · have hfin := final_any s2
        have hst0 := step_ign (S := C2.S) (u := u) hs2 (by rw [hs2]; exact hl)
        rw [← hx] at hst0
        have HM := Lib.hid hm
        have HJ2 : Hid (C'.j < C2.j) := by show _ < _; omega
        have HS2 := Lib.hid hs2
        cases hfi : isFin C2.S.k C2.x with
        | true =>
          rw [hfi] at hfin
          have hst : step C2.S u = (ign C2.S, []) := by rw [hst0, if_pos hfi]; rfl
          have HF2 := Lib.hid (fun (C3 : Cfg) h => (fu_step (C' := C3) hu hst h).trans hfu2)
          clear hx hu hl hfu2 hs2 hst hst0 hm hfi tk q2
          go_wp2_with fail
          refine hfin.mono ?_
          rintro e w3 ⟨rfl, n, hw3⟩
          have s3 : Sys K w3 C2 := hw3 ▸ s2.drewN n
          have f3 : Fr K w2 C2 w3 C2 := hw3 ▸ Fr.same (p := fun _ => False) ((Kept.refl w2 _).drewN n) fun _ hf => hf.elim
          clear hw3 hfin
          have hen := endIgnored_any s3
          go_wp2_with fail
          refine hen.mono ?_
          rintro e w5 ⟨rfl, C5, s5, f5, j5, x5, S5, o5⟩
          have HJ5 := Lib.hid j5
          have HS5 := Lib.hid S5
          have HO5 := Lib.hid o5
          clear j5 x5 S5 o5
          go_wp2
          go_end0
          refine ⟨rfl, C5, s5, ((hf.trans f2).trans f3).trans f5, ?_, ?_, .inr (.inl ?_)⟩
          · rw [HS5.out, HJ5.out, HM.out]; exact HF2.out C5 HO5.out
          · rw [HJ5.out]; exact Nat.le_of_lt (Nat.lt_of_le_of_lt HJ.out HJ2.out)
          · rw [HJ5.out]; exact Nat.lt_of_le_of_lt HJ.out HJ2.out
        | false =>
          rw [hfi] at hfin
          have hst : step C2.S u = (C2.S, []) := by rw [hst0, if_neg (by rw [hfi]; decide)]
          have HF2 := Lib.hid (fun (C3 : Cfg) h => (fu_step (C' := C3) hu hst h).trans hfu2)
          clear hx hu hl hfu2 hs2 hst hst0 hm hfi tk
          go_wp2_with fail
          refine hfin.mono ?_
          rintro e w3 ⟨rfl, n, hw3⟩
          have s3 : Sys K w3 C2 := hw3 ▸ s2.drewN n
          have f3 : Fr K w2 C2 w3 C2 := hw3 ▸ Fr.same (p := fun _ => False) ((Kept.refl w2 _).drewN n) fun _ hf => hf.elim
          clear hw3 hfin
          go_wp2
          go_roundw
          case rel =>
            refine ⟨C2, s3, (hf.trans f2).trans f3, Nat.le_of_lt (Nat.lt_of_le_of_lt HJ.out HJ2.out), ?_⟩
            rw [setS_same HS2.out, HM.out]
            exact HF2.out C2 (List.append_nil _).symm
          case measure => exact meas q2 (s3.fee.cell 2) HJ2.out s3.jl
      · have HC := Lib.hid hc2
        have HF2 := Lib.hid hfu2
        clear hc2 hfu2
        go_wp2_with fail
        go_end0
        refine ⟨rfl, C2, s2, hf.trans f2, HF2.out, Nat.le_trans HJ.out hj2, ?_⟩
        have := HJ.out
        rcases HC.out with h | h | h
        · exact .inl h
        · exact .inr (.inl (by omega))
        · exact .inr (.inr ⟨HHD.out, h.2⟩)
  · clear ck HF
    have HC := Lib.hid hc6
    have HF2 := Lib.hid hf6
    have HJ6 := Lib.hid hj6
    clear hc6 hf6 hj6
    go_wp2
    go_end0
    refine ⟨rfl, C6, s6, ff.trans f6, HF2.out, Nat.le_trans HG.out HJ6.out, ?_⟩
    have := HG.out
    rcases HC.out with h | h | h
    · exact .inl h
    · exact .inr (.inl (by omega))
    · exact .inr (.inr ⟨HHD.out, h⟩)
theorem readHead_any {K : Ctx} {w : World} {C : Cfg} (hS : Sys K w C) (hs : isHd C.S.s = true) (F : Ps × List Ac) (hF : Fu K C C.S C.j = F) (hn : F.2.length ≤ 4294967200) :
    Calls Tryd.prog 22 #[ptr K.fb] w (Read K w C F) := by
  rcases s8 hS.P.bd.s1 with h | h | h | h | h | h | h | h
  · rw [h] at hs; exact absurd hs (by decide)
  · rw [h] at hs; exact absurd hs (by decide)
  · rw [h] at hs; exact absurd hs (by decide)
  · rw [h] at hs; exact absurd hs (by decide)
  · exact readHead_4 hS h F hF hn
  · exact readHead_5 hS h F hF hn
  · exact readHead_6 hS h F hF hn
  · exact readHead_7 hS h F hF hn
end Go.Proofs.YtmhmbeofcedjjaaDoor.Vt
