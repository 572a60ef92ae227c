/- The walk of a Feed's reading of what an ESC begins. -/
import Derived.Test.YtjklnnklgkihlaaGreatDoorPaq
import Derived.Test.YtjklnnklgkihlaaGreatDoorPae
namespace Go.Proofs.YtjklnnklgkihlaaGreatDoor.Vt
open Go.RowKit
open Cel (Blk Kept Tabs low Owns At)
attribute [local go_sem] Jn.normal Jn.exit Jn.ret Jn.panic

set_option maxRecDepth 100000 in
set_option maxHeartbeats 4000000 in
theorem readHead_4 {K : Ctx} {w : World} {C : Cfg} (hS : Sys K w C) (hs : C.S.s = 4) (F : Ps × List Ac) (hF : Fu K C C.S C.j = F) (hn : F.2.length ≤ 4294967200) :
    Calls Tryz.prog 42 #[ptr K.fb] w (Read K w C F) := by
  have c0 : w.cell? ⟨K.fb, 0, none⟩ = some (ptr K.pb) := hS.fee.cell 0
  have p0 : w.cell? ⟨K.pb, 0, none⟩ = some (.string (nm C.S.s)) := hS.P.par.cell 0
  rw [hs, nm4] at p0
  have HF0 : Hid (Fu K C { C.S with s := 4 } C.j = F) := by show _ = _; rw [setS_same hs]; exact hF
  have HHD : Hid (isHd C.S.s = true) := by show _ = _; rw [hs]; rfl
  clear hF
  obtain ⟨C5, hC5⟩ : ∃ C5, C5 = C := ⟨_, rfl⟩
  have s5 : Sys K w C5 := hC5 ▸ hS
  have ff : Fr K w C w C5 := hC5 ▸ Fr.refl K w C
  have HG : Hid (C.j ≤ C5.j) := by show _ ≤ _; rw [hC5]; exact Nat.le_refl _
  have HF : Hid (Fu K C5 { C5.S with s := 4 } C5.j = F) := by rw [hC5]; exact HF0
  clear hC5 HF0
  go_enter Tryz.func42, Tryz.ntmps42
  refine wp_scope_unroll 3 ?_
  go_wp2
  apply wp_goto
  refine Jn.go (by rfl) ?_
  have ck := collect_any s5 4 (by omega) F HF.out hn
  rw [nm4] at ck
  go_wp2_with fail
  refine ck.mono ?_
  rintro e w6 ⟨r, C6, rfl, s6, f6, ⟨rfl, hj6, hs6, hf6⟩ | ⟨rfl, hj6, hf6⟩ | ⟨rfl, hf6, hj6, hc6⟩⟩
  · clear ck HF
    have hop := opened_any s6
    have HG6 : Hid (C.j < C6.j) := by show _ < _; exact Nat.lt_of_le_of_lt HG.out hj6
    clear hj6
    have d0 : w6.cell? ⟨K.fb, 0, none⟩ = some (ptr K.pb) := s6.fee.cell 0
    have d1 : w6.cell? ⟨K.pb, 0, none⟩ = some (.string (nm C6.S.s)) := s6.P.par.cell 0
    have d2 : w6.frozen? ⟨K.pb, 0, none⟩ = false := s6.P.par.frozen 0
    have hoc : opened C6.S C6.x = 5 ∨ opened C6.S C6.x = 6 ∨ opened C6.S C6.x = 1 ∨ opened C6.S C6.x = 3 ∨ opened C6.S C6.x = 0 := by
      unfold opened opens; repeat' split
      all_goals simp
    rcases hoc with ho | ho | ho | ho | ho
    · rw [ho, nm5] at hop
      go_wp2_with fail
      refine hop.mono ?_
      rintro e w7 ⟨rfl, rfl⟩
      have he : ended C6.S C6.x = ({ C6.S with s := 5, k := 4, b := 0, ps := [], it := [], tx := [], af := false }, []) := by unfold ended; rw [if_pos hs6, ho]; rfl
      rw [he] at hf6
      have hfu6 : Fu K C6 { C6.S with s := 5, k := 4, b := 0, ps := [], it := [], tx := [], af := false } C6.j = F := fe_end hf6 (List.append_nil _).symm
      have HF6 := Lib.hid hfu6
      clear hf6 hfu6 he hs6 ho
      have hb := begin_any s6.P.par 4
      have hd6 := s6.P.bd
      go_wp2_with fail
      refine hb.mono ?_
      rintro e w7 ⟨rfl, q7, k7⟩
      obtain ⟨s7, f7⟩ := s6.setP k7 { C6.S with k := 4, b := 0, ps := [], it := [], tx := [], af := false } nilV nilV q7 rfl ⟨hd6.s1, (by decide : (0 : Int) ≤ 4), (by decide : (4 : Int) ≤ 6), (by decide : (0 : Int) ≤ 0), (by decide : (0 : Int) ≤ 255), (by decide : ([] : List Int).length ≤ 33), (fun p hp => by cases hp), (by decide : ([] : Tx).length ≤ 3), (by decide : ([] : Tx).length ≤ 1024), hd6.di⟩ (.inr ⟨rfl, rfl⟩) (.inr ⟨rfl, rfl⟩)
      clear q7 k7 hb hd6
      have HG : Hid (C.j ≤ C6.j) := by show _ ≤ _; exact Nat.le_of_lt HG6.out
      have HF : Hid (Fu K { C6 with S := { C6.S with k := 4, b := 0, ps := [], it := [], tx := [], af := false }, pv := nilV, tv := nilV } { ({ C6.S with k := 4, b := 0, ps := [], it := [], tx := [], af := false } : Ps) with s := 5 } C6.j = F) := by show _ = _; exact HF6.out
      have ff := (ff.trans f6).trans f7
      clear HG6 HF6
      obtain ⟨C5, hC5⟩ : ∃ C5, C5 = ({ C6 with S := { C6.S with k := 4, b := 0, ps := [], it := [], tx := [], af := false }, pv := nilV, tv := nilV } : Cfg) := ⟨_, rfl⟩
      have s5 : Sys K w7 C5 := hC5 ▸ s7
      have ff : Fr K w C w7 C5 := hC5 ▸ ff
      have HG : Hid (C.j ≤ C5.j) := by rw [hC5]; exact HG
      have HF : Hid (Fu K C5 { C5.S with s := 5 } C5.j = F) := by rw [hC5]; exact HF
      clear hC5 s7 f7 f6 s6
      go_wp2
      apply wp_goto
      refine Jn.go (by rfl) ?_
      have ck := collect_any s5 5 (by omega) F HF.out hn
      rw [nm5] at ck
      go_wp2_with fail
      refine ck.mono ?_
      rintro e w6 ⟨r, C6, rfl, s6, f6, ⟨rfl, hj6, hs6, hf6⟩ | ⟨rfl, hj6, hf6⟩ | ⟨rfl, hf6, hj6, hc6⟩⟩
      · clear ck HF
        have he : ended C6.S C6.x = (ps0, [act C6.S]) := by unfold ended; rw [if_neg (by rw [hs6]; decide), if_pos hs6]
        rw [he] at hf6
        have hl6 := fe_len hf6
        have ht := tellBegun_left s6 (by simp at hl6; omega)
        have HF6 := Lib.hid hf6
        have HG6 : Hid (C.j < C6.j) := by show _ < _; exact Nat.lt_of_le_of_lt HG.out hj6
        clear hf6 hj6 hs6 he hl6
        go_wp2_with fail
        refine ht.mono ?_
        rintro e w7 ⟨rfl, C7, s7, f7, j7, x7, S7, o7⟩
        have HF7 : Hid (Fu K C7 C7.S C7.j = F) := by show _ = _; rw [S7, j7]; exact fe_end HF6.out o7
        have HJ7 : Hid (C.j < C7.j) := by show _ < _; rw [j7]; exact HG6.out
        clear j7 x7 S7 o7
        go_wp2
        go_end0
        exact ⟨rfl, C7, s7, (ff.trans f6).trans f7, HF7.out, Nat.le_of_lt HJ7.out, .inr (.inl HJ7.out)⟩
      · clear ck HF
        have HG : Hid (C.j ≤ C6.j) := by show _ ≤ _; exact Nat.le_of_lt (Nat.lt_of_le_of_lt HG.out hj6)
        have HF := Lib.hid hf6
        have ff := ff.trans f6
        clear hj6 hf6 f6
        generalize C6 = C5 at *
        rename Sys K w6 C5 => s5
        go_wp2
        apply wp_goto
        refine Jn.go (by rfl) ?_
        go_wp2
        go_loopw [] (fun wr => ∃ C', Sys K wr C' ∧ Fr K w C wr C' ∧ C.j ≤ C'.j ∧ Fu K C' { C'.S with s := 7 } C'.j = F) (fun wr => K.l.length - (intOf ((wr.cell? ⟨K.fb, 2, none⟩).getD (.int .i64 0))).toNat)
        case atStart => exact ⟨C5, s5, ff, HG.out, HF.out⟩
        case round =>
          obtain ⟨C', hs', hf, hj, hfu⟩ := hrel
          have q2 : wr.cell? ⟨K.fb, 2, none⟩ = some (.int .i64 C'.j) := hs'.fee.cell 2
          have tk := take_any hs' 7 (by omega) F hfu hn
          rw [nm7] at tk
          have HJ := Lib.hid hj
          clear hfu hj
          go_wp2_with fail
          refine tk.mono ?_
          rintro e w2 ⟨t, C2, rfl, s2, f2, ⟨rfl, m, u, hm, hjm, hu, hx, hs2, hl, hfu2⟩ | ⟨rfl, hfu2, hj2, hc2⟩⟩
          · have hfin := final_any s2
            have hst0 := step_ign (S := C2.S) (u := u) hs2 (by rw [hs2]; exact hl)
            rw [← hx] at hst0
            have HM := Lib.hid hm
            have HJ2 : Hid (C'.j < C2.j) := by show _ < _; omega
            have HS2 := Lib.hid hs2
            cases hfi : isFin C2.S.k C2.x with
            | true =>
              rw [hfi] at hfin
              have hst : step C2.S u = (ign C2.S, []) := by rw [hst0, if_pos hfi]; rfl
              have HF2 := Lib.hid (fun (C3 : Cfg) h => (fu_step (C' := C3) hu hst h).trans hfu2)
              clear hx hu hl hfu2 hs2 hst hst0 hm hfi tk q2
              go_wp2_with fail
              refine hfin.mono ?_
              rintro e w3 ⟨rfl, n, hw3⟩
              have s3 : Sys K w3 C2 := hw3 ▸ s2.drewN n
              have f3 : Fr K w2 C2 w3 C2 := hw3 ▸ Fr.same (p := fun _ => False) ((Kept.refl w2 _).drewN n) fun _ hf => hf.elim
              clear hw3 hfin
              have hen := endIgnored_any s3
              go_wp2_with fail
              refine hen.mono ?_
              rintro e w5 ⟨rfl, C5, s5, f5, j5, x5, S5, o5⟩
              have HJ5 := Lib.hid j5
              have HS5 := Lib.hid S5
              have HO5 := Lib.hid o5
              clear j5 x5 S5 o5
              go_wp2
              go_end0
              refine ⟨rfl, C5, s5, ((hf.trans f2).trans f3).trans f5, ?_, ?_, .inr (.inl ?_)⟩
              · rw [HS5.out, HJ5.out, HM.out]; exact HF2.out C5 HO5.out
              · rw [HJ5.out]; exact Nat.le_of_lt (Nat.lt_of_le_of_lt HJ.out HJ2.out)
              · rw [HJ5.out]; exact Nat.lt_of_le_of_lt HJ.out HJ2.out
            | false =>
              rw [hfi] at hfin
              have hst : step C2.S u = (C2.S, []) := by rw [hst0, if_neg (by rw [hfi]; decide)]
              have HF2 := Lib.hid (fun (C3 : Cfg) h => (fu_step (C' := C3) hu hst h).trans hfu2)
              clear hx hu hl hfu2 hs2 hst hst0 hm hfi tk
              go_wp2_with fail
              refine hfin.mono ?_
              rintro e w3 ⟨rfl, n, hw3⟩
              have s3 : Sys K w3 C2 := hw3 ▸ s2.drewN n
              have f3 : Fr K w2 C2 w3 C2 := hw3 ▸ Fr.same (p := fun _ => False) ((Kept.refl w2 _).drewN n) fun _ hf => hf.elim
              clear hw3 hfin
              go_wp2
              go_roundw
              case rel =>
                refine ⟨C2, s3, (hf.trans f2).trans f3, Nat.le_of_lt (Nat.lt_of_le_of_lt HJ.out HJ2.out), ?_⟩
                rw [setS_same HS2.out, HM.out]
                exact HF2.out C2 (List.append_nil _).symm
              case measure => exact meas q2 (s3.fee.cell 2) HJ2.out s3.jl
          · have HC := Lib.hid hc2
            have HF2 := Lib.hid hfu2
            clear hc2 hfu2
            go_wp2_with fail
            go_end0
            refine ⟨rfl, C2, s2, hf.trans f2, HF2.out, Nat.le_trans HJ.out hj2, ?_⟩
            have := HJ.out
            rcases HC.out with h | h | h
            · exact .inl h
            · exact .inr (.inl (by omega))
            · exact .inr (.inr ⟨HHD.out, h.2⟩)
      · clear ck HF
        have HC := Lib.hid hc6
        have HF2 := Lib.hid hf6
        have HJ6 := Lib.hid hj6
        clear hc6 hf6 hj6
        go_wp2
        go_end0
        refine ⟨rfl, C6, s6, ff.trans f6, HF2.out, Nat.le_trans HG.out HJ6.out, ?_⟩
        have := HG.out
        rcases HC.out with h | h | h
        · exact .inl h
        · exact .inr (.inl (by omega))
        · exact .inr (.inr ⟨HHD.out, h⟩)
    · rw [ho, nm6] at hop
      go_wp2_with fail
      refine hop.mono ?_
      rintro e w7 ⟨rfl, rfl⟩
      have he : ended C6.S C6.x = ({ C6.S with s := 6, k := 6, b := 0, ps := [], it := [], tx := [], af := false }, []) := by unfold ended; rw [if_pos hs6, ho]; rfl
      rw [he] at hf6
      have hfu6 : Fu K C6 { C6.S with s := 6, k := 6, b := 0, ps := [], it := [], tx := [], af := false } C6.j = F := fe_end hf6 (List.append_nil _).symm
      have HF6 := Lib.hid hfu6
      clear hf6 hfu6 he hs6 ho
      have hb := begin_any s6.P.par 6
      have hd6 := s6.P.bd
      go_wp2_with fail
      refine hb.mono ?_
      rintro e w7 ⟨rfl, q7, k7⟩
      obtain ⟨s7, f7⟩ := s6.setP k7 { C6.S with k := 6, b := 0, ps := [], it := [], tx := [], af := false } nilV nilV q7 rfl ⟨hd6.s1, (by decide : (0 : Int) ≤ 6), (by decide : (6 : Int) ≤ 6), (by decide : (0 : Int) ≤ 0), (by decide : (0 : Int) ≤ 255), (by decide : ([] : List Int).length ≤ 33), (fun p hp => by cases hp), (by decide : ([] : Tx).length ≤ 3), (by decide : ([] : Tx).length ≤ 1024), hd6.di⟩ (.inr ⟨rfl, rfl⟩) (.inr ⟨rfl, rfl⟩)
      clear q7 k7 hb hd6
      have HG : Hid (C.j ≤ C6.j) := by show _ ≤ _; exact Nat.le_of_lt HG6.out
      have HF : Hid (Fu K { C6 with S := { C6.S with k := 6, b := 0, ps := [], it := [], tx := [], af := false }, pv := nilV, tv := nilV } { ({ C6.S with k := 6, b := 0, ps := [], it := [], tx := [], af := false } : Ps) with s := 6 } C6.j = F) := by show _ = _; exact HF6.out
      have ff := (ff.trans f6).trans f7
      clear HG6 HF6
      obtain ⟨C5, hC5⟩ : ∃ C5, C5 = ({ C6 with S := { C6.S with k := 6, b := 0, ps := [], it := [], tx := [], af := false }, pv := nilV, tv := nilV } : Cfg) := ⟨_, rfl⟩
      have s5 : Sys K w7 C5 := hC5 ▸ s7
      have ff : Fr K w C w7 C5 := hC5 ▸ ff
      have HG : Hid (C.j ≤ C5.j) := by rw [hC5]; exact HG
      have HF : Hid (Fu K C5 { C5.S with s := 6 } C5.j = F) := by rw [hC5]; exact HF
      clear hC5 s7 f7 f6 s6
      go_wp2
      apply wp_goto
      refine Jn.go (by rfl) ?_
      have ck := collect_any s5 6 (by omega) F HF.out hn
      rw [nm6] at ck
      go_wp2_with fail
      refine ck.mono ?_
      rintro e w6 ⟨r, C6, rfl, s6, f6, ⟨rfl, hj6, hs6, hf6⟩ | ⟨rfl, hj6, hf6⟩ | ⟨rfl, hf6, hj6, hc6⟩⟩
      · clear ck HF
        have he : ended C6.S C6.x = ({ C6.S with s := 2 }, []) := by unfold ended; rw [if_neg (by rw [hs6]; decide), if_neg (by rw [hs6]; decide)]
        rw [he] at hf6
        have HF6 := Lib.hid hf6
        have HG6 : Hid (C.j < C6.j) := by show _ < _; exact Nat.lt_of_le_of_lt HG.out hj6
        clear hf6 hj6 hs6 he
        have d0 : w6.cell? ⟨K.fb, 0, none⟩ = some (ptr K.pb) := s6.fee.cell 0
        have d1 : w6.cell? ⟨K.pb, 0, none⟩ = some (.string (nm C6.S.s)) := s6.P.par.cell 0
        have d2 : w6.frozen? ⟨K.pb, 0, none⟩ = false := s6.P.par.frozen 0
        obtain ⟨s7, f7⟩ := s6.setS 2 (by omega)
        rw [nm2] at s7 f7
        go_wp2
        go_end0
        exact ⟨rfl, _, s7, (ff.trans f6).trans f7, fe_end HF6.out (List.append_nil _).symm, Nat.le_of_lt HG6.out, .inr (.inl HG6.out)⟩
      · clear ck HF
        have HG : Hid (C.j ≤ C6.j) := by show _ ≤ _; exact Nat.le_of_lt (Nat.lt_of_le_of_lt HG.out hj6)
        have HF := Lib.hid hf6
        have ff := ff.trans f6
        clear hj6 hf6 f6
        generalize C6 = C5 at *
        rename Sys K w6 C5 => s5
        go_wp2
        apply wp_goto
        refine Jn.go (by rfl) ?_
        go_wp2
        go_loopw [] (fun wr => ∃ C', Sys K wr C' ∧ Fr K w C wr C' ∧ C.j ≤ C'.j ∧ Fu K C' { C'.S with s := 7 } C'.j = F) (fun wr => K.l.length - (intOf ((wr.cell? ⟨K.fb, 2, none⟩).getD (.int .i64 0))).toNat)
        case atStart => exact ⟨C5, s5, ff, HG.out, HF.out⟩
        case round =>
          obtain ⟨C', hs', hf, hj, hfu⟩ := hrel
          have q2 : wr.cell? ⟨K.fb, 2, none⟩ = some (.int .i64 C'.j) := hs'.fee.cell 2
          have tk := take_any hs' 7 (by omega) F hfu hn
          rw [nm7] at tk
          have HJ := Lib.hid hj
          clear hfu hj
          go_wp2_with fail
          refine tk.mono ?_
          rintro e w2 ⟨t, C2, rfl, s2, f2, ⟨rfl, m, u, hm, hjm, hu, hx, hs2, hl, hfu2⟩ | ⟨rfl, hfu2, hj2, hc2⟩⟩
          · have hfin := final_any s2
            have hst0 := step_ign (S := C2.S) (u := u) hs2 (by rw [hs2]; exact hl)
            rw [← hx] at hst0
            have HM := Lib.hid hm
            have HJ2 : Hid (C'.j < C2.j) := by show _ < _; omega
            have HS2 := Lib.hid hs2
            cases hfi : isFin C2.S.k C2.x with
            | true =>
              rw [hfi] at hfin
              have hst : step C2.S u = (ign C2.S, []) := by rw [hst0, if_pos hfi]; rfl
              have HF2 := Lib.hid (fun (C3 : Cfg) h => (fu_step (C' := C3) hu hst h).trans hfu2)
              clear hx hu hl hfu2 hs2 hst hst0 hm hfi tk q2
              go_wp2_with fail
              refine hfin.mono ?_
              rintro e w3 ⟨rfl, n, hw3⟩
              have s3 : Sys K w3 C2 := hw3 ▸ s2.drewN n
              have f3 : Fr K w2 C2 w3 C2 := hw3 ▸ Fr.same (p := fun _ => False) ((Kept.refl w2 _).drewN n) fun _ hf => hf.elim
              clear hw3 hfin
              have hen := endIgnored_any s3
              go_wp2_with fail
              refine hen.mono ?_
              rintro e w5 ⟨rfl, C5, s5, f5, j5, x5, S5, o5⟩
              have HJ5 := Lib.hid j5
              have HS5 := Lib.hid S5
              have HO5 := Lib.hid o5
              clear j5 x5 S5 o5
              go_wp2
              go_end0
              refine ⟨rfl, C5, s5, ((hf.trans f2).trans f3).trans f5, ?_, ?_, .inr (.inl ?_)⟩
              · rw [HS5.out, HJ5.out, HM.out]; exact HF2.out C5 HO5.out
              · rw [HJ5.out]; exact Nat.le_of_lt (Nat.lt_of_le_of_lt HJ.out HJ2.out)
              · rw [HJ5.out]; exact Nat.lt_of_le_of_lt HJ.out HJ2.out
            | false =>
              rw [hfi] at hfin
              have hst : step C2.S u = (C2.S, []) := by rw [hst0, if_neg (by rw [hfi]; decide)]
              have HF2 := Lib.hid (fun (C3 : Cfg) h => (fu_step (C' := C3) hu hst h).trans hfu2)
              clear hx hu hl hfu2 hs2 hst hst0 hm hfi tk
              go_wp2_with fail
              refine hfin.mono ?_
              rintro e w3 ⟨rfl, n, hw3⟩
              have s3 : Sys K w3 C2 := hw3 ▸ s2.drewN n
              have f3 : Fr K w2 C2 w3 C2 := hw3 ▸ Fr.same (p := fun _ => False) ((Kept.refl w2 _).drewN n) fun _ hf => hf.elim
              clear hw3 hfin
              go_wp2
              go_roundw
              case rel =>
                refine ⟨C2, s3, (hf.trans f2).trans f3, Nat.le_of_lt (Nat.lt_of_le_of_lt HJ.out HJ2.out), ?_⟩
                rw [setS_same HS2.out, HM.out]
                exact HF2.out C2 (List.append_nil _).symm
              case measure => exact meas q2 (s3.fee.cell 2) HJ2.out s3.jl
          · have HC := Lib.hid hc2
            have HF2 := Lib.hid hfu2
            clear hc2 hfu2
            go_wp2_with fail
            go_end0
            refine ⟨rfl, C2, s2, hf.trans f2, HF2.out, Nat.le_trans HJ.out hj2, ?_⟩
            have := HJ.out
            rcases HC.out with h | h | h
            · exact .inl h
            · exact .inr (.inl (by omega))
            · exact .inr (.inr ⟨HHD.out, h.2⟩)
      · clear ck HF
        have HC := Lib.hid hc6
        have HF2 := Lib.hid hf6
        have HJ6 := Lib.hid hj6
        clear hc6 hf6 hj6
        go_wp2
        go_end0
        refine ⟨rfl, C6, s6, ff.trans f6, HF2.out, Nat.le_trans HG.out HJ6.out, ?_⟩
        have := HG.out
        rcases HC.out with h | h | h
        · exact .inl h
        · exact .inr (.inl (by omega))
        · exact .inr (.inr ⟨HHD.out, h⟩)
    · rw [ho, nm1] at hop
      go_wp2_with fail
      refine hop.mono ?_
      rintro e w7 ⟨rfl, rfl⟩
      have he : ended C6.S C6.x = ({ C6.S with s := 1, k := 5, b := 0, ps := [], it := [], tx := [], af := false }, []) := by unfold ended; rw [if_pos hs6, ho]; rfl
      rw [he] at hf6
      have hfu6 : Fu K C6 { C6.S with s := 1, k := 5, b := 0, ps := [], it := [], tx := [], af := false } C6.j = F := fe_end hf6 (List.append_nil _).symm
      have HF6 := Lib.hid hfu6
      clear hf6 hfu6 he hs6 ho
      have hb := begin_any s6.P.par 5
      have hd6 := s6.P.bd
      go_wp2_with fail
      refine hb.mono ?_
      rintro e w7 ⟨rfl, q7, k7⟩
      obtain ⟨s7, f7⟩ := s6.setP k7 { C6.S with k := 5, b := 0, ps := [], it := [], tx := [], af := false } nilV nilV q7 rfl ⟨hd6.s1, (by decide : (0 : Int) ≤ 5), (by decide : (5 : Int) ≤ 6), (by decide : (0 : Int) ≤ 0), (by decide : (0 : Int) ≤ 255), (by decide : ([] : List Int).length ≤ 33), (fun p hp => by cases hp), (by decide : ([] : Tx).length ≤ 3), (by decide : ([] : Tx).length ≤ 1024), hd6.di⟩ (.inr ⟨rfl, rfl⟩) (.inr ⟨rfl, rfl⟩)
      clear q7 k7 hb hd6
      have e0 : w7.cell? ⟨K.fb, 0, none⟩ = some (ptr K.pb) := s7.fee.cell 0
      have e1 : w7.cell? ⟨K.pb, 0, none⟩ = some (.string (nm C6.S.s)) := s7.P.par.cell 0
      have e2 : w7.frozen? ⟨K.pb, 0, none⟩ = false := s7.P.par.frozen 0
      obtain ⟨s8, f8⟩ := s7.setS 1 (by omega)
      rw [nm1] at s8 f8
      go_wp2
      go_end0
      exact ⟨rfl, _, s8, ((ff.trans f6).trans f7).trans f8, HF6.out, Nat.le_of_lt HG6.out, .inr (.inl HG6.out)⟩
    · rw [ho, nm3] at hop
      go_wp2_with fail
      refine hop.mono ?_
      rintro e w7 ⟨rfl, rfl⟩
      have he : ended C6.S C6.x = ({ C6.S with s := 3 }, []) := by unfold ended; rw [if_pos hs6, ho]; rfl
      rw [he] at hf6
      have HF6 := Lib.hid hf6
      clear hf6 he hs6 ho
      obtain ⟨s8, f8⟩ := s6.setS 3 (by omega)
      rw [nm3] at s8 f8
      go_wp2
      go_end0
      exact ⟨rfl, _, s8, (ff.trans f6).trans f8, fe_end HF6.out (List.append_nil _).symm, Nat.le_of_lt HG6.out, .inr (.inl HG6.out)⟩
    · rw [ho, nm0] at hop
      have he : ended C6.S C6.x = (ps0, escEnd C6.S C6.x) := by
        unfold ended escEnd; rw [if_pos hs6, ho]
        by_cases h : C6.S.af = true ∧ C6.S.it = [] ∧ C6.x = 92
        · simp [h]
        · rw [if_neg h]; simp only [if_neg h]; rfl
      rw [he] at hf6
      have hl6 := fe_len hf6
      have ht := tellEscape_any s6 (by omega)
      have HF6 := Lib.hid hf6
      clear hf6 he hs6 ho hl6
      go_wp2_with fail
      refine hop.mono ?_
      rintro e w7 ⟨rfl, rfl⟩
      go_wp2_with fail
      refine ht.mono ?_
      rintro e w7 ⟨rfl, C7, s7, f7, j7, x7, S7, o7⟩
      have HF7 : Hid (Fu K C7 C7.S C7.j = F) := by show _ = _; rw [S7, j7]; exact fe_end HF6.out o7
      have HJ7 : Hid (C.j < C7.j) := by show _ < _; rw [j7]; exact HG6.out
      clear j7 x7 S7 o7
      go_wp2
      go_end0
      exact ⟨rfl, C7, s7, (ff.trans f6).trans f7, HF7.out, Nat.le_of_lt HJ7.out, .inr (.inl HJ7.out)⟩
  · clear ck HF
    have HG : Hid (C.j ≤ C6.j) := by show _ ≤ _; exact Nat.le_of_lt (Nat.lt_of_le_of_lt HG.out hj6)
    have HF := Lib.hid hf6
    have ff := ff.trans f6
    clear hj6 hf6 f6
    generalize C6 = C5 at *
    rename Sys K w6 C5 => s5
    go_wp2
    apply wp_goto
    refine Jn.go (by rfl) ?_
    go_wp2
    go_loopw [] (fun wr => ∃ C', Sys K wr C' ∧ Fr K w C wr C' ∧ C.j ≤ C'.j ∧ Fu K C' { C'.S with s := 7 } C'.j = F) (fun wr => K.l.length - (intOf ((wr.cell? ⟨K.fb, 2, none⟩).getD (.int .i64 0))).toNat)
    case atStart => exact ⟨C5, s5, ff, HG.out, HF.out⟩
    case round =>
      obtain ⟨C', hs', hf, hj, hfu⟩ := hrel
      have q2 : wr.cell? ⟨K.fb, 2, none⟩ = some (.int .i64 C'.j) := hs'.fee.cell 2
      have tk := take_any hs' 7 (by omega) F hfu hn
      rw [nm7] at tk
      have HJ := Lib.hid hj
      clear hfu hj
      go_wp2_with fail
      refine tk.mono ?_
      rintro e w2 ⟨t, C2, rfl, s2, f2, ⟨rfl, m, u, hm, hjm, hu, hx, hs2, hl, hfu2⟩ | ⟨rfl, hfu2, hj2, hc2⟩⟩
      · have hfin := final_any s2
        have hst0 := step_ign (S := C2.S) (u := u) hs2 (by rw [hs2]; exact hl)
        rw [← hx] at hst0
        have HM := Lib.hid hm
        have HJ2 : Hid (C'.j < C2.j) := by show _ < _; omega
        have HS2 := Lib.hid hs2
        cases hfi : isFin C2.S.k C2.x with
        | true =>
          rw [hfi] at hfin
          have hst : step C2.S u = (ign C2.S, []) := by rw [hst0, if_pos hfi]; rfl
          have HF2 := Lib.hid (fun (C3 : Cfg) h => (fu_step (C' := C3) hu hst h).trans hfu2)
          clear hx hu hl hfu2 hs2 hst hst0 hm hfi tk q2
          go_wp2_with fail
          refine hfin.mono ?_
          rintro e w3 ⟨rfl, n, hw3⟩
          have s3 : Sys K w3 C2 := hw3 ▸ s2.drewN n
          have f3 : Fr K w2 C2 w3 C2 := hw3 ▸ Fr.same (p := fun _ => False) ((Kept.refl w2 _).drewN n) fun _ hf => hf.elim
          clear hw3 hfin
          have hen := endIgnored_any s3
          go_wp2_with fail
          refine hen.mono ?_
          rintro e w5 ⟨rfl, C5, s5, f5, j5, x5, S5, o5⟩
          have HJ5 := Lib.hid j5
          have HS5 := Lib.hid S5
          have HO5 := Lib.hid o5
          clear j5 x5 S5 o5
          go_wp2
          go_end0
          refine ⟨rfl, C5, s5, ((hf.trans f2).trans f3).trans f5, ?_, ?_, .inr (.inl ?_)⟩
          · rw [HS5.out, HJ5.out, HM.out]; exact HF2.out C5 HO5.out
          · rw [HJ5.out]; exact Nat.le_of_lt (Nat.lt_of_le_of_lt HJ.out HJ2.out)
          · rw [HJ5.out]; exact Nat.lt_of_le_of_lt HJ.out HJ2.out
        | false =>
          rw [hfi] at hfin
          have hst : step C2.S u = (C2.S, []) := by rw [hst0, if_neg (by rw [hfi]; decide)]
          have HF2 := Lib.hid (fun (C3 : Cfg) h => (fu_step (C' := C3) hu hst h).trans hfu2)
          clear hx hu hl hfu2 hs2 hst hst0 hm hfi tk
          go_wp2_with fail
          refine hfin.mono ?_
          rintro e w3 ⟨rfl, n, hw3⟩
          have s3 : Sys K w3 C2 := hw3 ▸ s2.drewN n
          have f3 : Fr K w2 C2 w3 C2 := hw3 ▸ Fr.same (p := fun _ => False) ((Kept.refl w2 _).drewN n) fun _ hf => hf.elim
          clear hw3 hfin
          go_wp2
          go_roundw
          case rel =>
            refine ⟨C2, s3, (hf.trans f2).trans f3, Nat.le_of_lt (Nat.lt_of_le_of_lt HJ.out HJ2.out), ?_⟩
            rw [setS_same HS2.out, HM.out]
            exact HF2.out C2 (List.append_nil _).symm
          case measure => exact meas q2 (s3.fee.cell 2) HJ2.out s3.jl
      · have HC := Lib.hid hc2
        have HF2 := Lib.hid hfu2
        clear hc2 hfu2
        go_wp2_with fail
        go_end0
        refine ⟨rfl, C2, s2, hf.trans f2, HF2.out, Nat.le_trans HJ.out hj2, ?_⟩
        have := HJ.out
        rcases HC.out with h | h | h
        · exact .inl h
        · exact .inr (.inl (by omega))
        · exact .inr (.inr ⟨HHD.out, h.2⟩)
  · clear ck HF
    have HC := Lib.hid hc6
    have HF2 := Lib.hid hf6
    have HJ6 := Lib.hid hj6
    clear hc6 hf6 hj6
    go_wp2
    go_end0
    refine ⟨rfl, C6, s6, ff.trans f6, HF2.out, Nat.le_trans HG.out HJ6.out, ?_⟩
    have := HG.out
    rcases HC.out with h | h | h
    · exact .inl h
    · exact .inr (.inl (by omega))
    · exact .inr (.inr ⟨HHD.out, h⟩)
theorem readHead_any {K : Ctx} {w : World} {C : Cfg} (hS : Sys K w C) (hs : isHd C.S.s = true) (F : Ps × List Ac) (hF : Fu K C C.S C.j = F) (hn : F.2.length ≤ 4294967200) :
    Calls Tryz.prog 42 #[ptr K.fb] w (Read K w C F) := by
  rcases s8 hS.P.bd.s1 with h | h | h | h | h | h | h | h
  · rw [h] at hs; exact absurd hs (by decide)
  · rw [h] at hs; exact absurd hs (by decide)
  · rw [h] at hs; exact absurd hs (by decide)
  · rw [h] at hs; exact absurd hs (by decide)
  · exact readHead_4 hS h F hF hn
  · exact readHead_5 hS h F hF hn
  · exact readHead_6 hS h F hF hn
  · exact readHead_7 hS h F hF hn
end Go.Proofs.YtjklnnklgkihlaaGreatDoor.Vt
/- How much is told: a byte tells one thing at the most, and one that was pending. Plain words alone. -/
namespace Go.Proofs.YtjklnnklgkihlaaGreatDoor.Vt
open Cel (zero lost pend)

theorem pend_zero : pend zero = 0 := rfl
theorem pend_le (d : Cel.Dec) : pend d ≤ 1 := by unfold pend; split <;> omega
theorem ground_len (S : Ps) (x : Int) : (ground S x).2.length + pend (ground S x).1.d ≤ pend S.d + 1 := by
  unfold ground
  simp only [List.length_map]
  exact Cel.step_count S.d x
theorem add_d (S : Ps) (u : UInt8) : (add S u).d = S.d := by unfold add; split <;> rfl
theorem put_d (S : Ps) (u : UInt8) : (put S u).d = S.d := by unfold put; split <;> rfl
theorem ended_len (S : Ps) (x : Int) : (ended S x).2.length + pend (ended S x).1.d ≤ pend S.d + 1 := by
  unfold ended
  repeat' split
  all_goals first | (show 0 + pend S.d ≤ _; omega) | (show 1 + 0 ≤ _; omega) | (show 0 + 0 ≤ _; omega)
theorem step_len (S : Ps) (u : UInt8) : (step S u).2.length + pend (step S u).1.d ≤ pend S.d + 1 := by
  unfold step
  simp only []
  split
  · show 0 + 0 ≤ _; omega
  split
  · show (escA S).length + pend zero ≤ _
    unfold escA
    rw [List.length_append, List.length_map, Cel.lost_length, pend_zero]
    split <;> simp
  split
  · split
    · show 1 + 0 ≤ _; omega
    split
    · show 0 + pend S.d ≤ _; omega
    split
    · show 0 + pend S.d ≤ _; omega
    · show 0 + pend (put S u).d ≤ _; rw [put_d]; omega
  split
  · show ((lost S.d).map prt ++ [ctl _]).length + pend zero ≤ _
    rw [List.length_append, List.length_map, Cel.lost_length, pend_zero]
    simp
  split
  · have := ground_len ps0 (u.toNat : Int)
    have e : pend ps0.d = 0 := rfl
    omega
  split
  · show 0 + pend S.d ≤ _; omega
  split
  · exact ground_len S _
  split
  · split
    · split
      · show 0 + 0 ≤ _; omega
      · show 0 + 0 ≤ _; omega
    · show 0 + pend S.d ≤ _; omega
  split
  · exact ended_len { S with b := (u.toNat : Int) } _
  split
  · show 0 + pend (add S u).d ≤ _; rw [add_d]; omega
  · show 0 + pend S.d ≤ _; omega
theorem run_len (S : Ps) (l : Tx) : (run S l).2.length + pend (run S l).1.d ≤ pend S.d + l.length := by
  induction l generalizing S with
  | nil => simp [run]
  | cons u l ih =>
    have h1 := step_len S u
    have h2 := ih (step S u).1
    simp only [run, List.length_append, List.length_cons]
    omega
end Go.Proofs.YtjklnnklgkihlaaGreatDoor.Vt
/- The walk of a parser's Feed: the bytes that come in, and what they tell. -/
namespace Go.Proofs.YtjklnnklgkihlaaGreatDoor.Vt
open Go.RowKit
open Cel (Blk Kept Tabs low Owns At)

theorem own_raise {w : World} {B B' e size n : Nat} {v : Value} {xs : List Value} (h : w.ownsRow B e size v n xs) (hb : ∀ k, v.ownBlock = some k → B' ≤ k) : w.ownsRow B' e size v n xs := by
  obtain ⟨h1, h2⟩ := h
  refine ⟨h1, ?_⟩
  rcases h2 with h2 | ⟨g, cap, cur, rfl, _, r⟩
  · exact .inl h2
  · exact .inr ⟨g, cap, cur, rfl, hb g rfl, r⟩
/-- Does a value name a head's state? -/
def hdv : Option Value → Nat
  | some (.string s) => if s.toList == [103, 114, 111, 117, 110, 100] || s.toList == [111, 115, 99] || s.toList == [100, 97, 116, 97] || s.toList == [115, 116, 114, 105, 110, 103] then 0 else 1
  | _ => 0
theorem hdv_nm {s : Nat} (hs : s ≤ 7) : hdv (some (.string (nm s))) = if isHd s = true then 1 else 0 := by
  obtain ⟨a, b, c, d, _⟩ := nm_is s hs
  show (if _ then 0 else 1) = _
  rw [a, b, c, d]
  rcases s8 hs with rfl | rfl | rfl | rfl | rfl | rfl | rfl | rfl <;> rfl
/-- What Feed leaves. -/
def Fed (w : World) (B pb db : Nat) (pv tv : Value) (S : Ps) (l : Tx) (e : Ending) (w' : World) : Prop :=
  ∃ ov out pv' tv', e = .returned ov ∧ PAt w' B pb db pv' tv' (run S l).1 ∧ w'.ownsRow w.heap.size 65 6 ov out.length (flat out) ∧ outs out = (run S l).2 ∧
    (∀ t ∈ out, Ints w' w.heap.size t.2 t.1.ps) ∧ (∀ t ∈ out, ∀ k, t.2.ownBlock = some k → pv'.ownBlock ≠ some k) ∧ Kept w w' (mine pb db pv tv) ∧ (∀ k, mine pb db pv' tv' k → mine pb db pv tv k ∨ w.heap.size ≤ k)
theorem run_store_func {P : Program} {w : World} {a : Addr} {m : Mode} (f : Fn) (x y : Array Value) : (store a (.func f x y) m).run P w = stored P w a (.func f x y) m := run_store P w a _ m rfl
attribute [local go_sem] run_store_func
def ctx (w : World) (B pb db : Nat) (A : Option Addr) (c : Nat) (l : Tx) : Ctx := ⟨B, w.heap.size + 1, pb, db, w.heap.size, A, c, l⟩
def cfg0 (S : Ps) (pv tv : Value) : Cfg := ⟨S, pv, tv, nilV, [], 0, 0⟩
def feW (w : World) (pb : Nat) (A : Option Addr) (c : Nat) (l : Tx) : World :=
  (w.alloc (.cells #[.slice none 0 0] 61)).alloc (.cells #[.pointer (some ⟨pb, 0, none⟩), .slice A l.length c, .int .i64 0, .int .u8 0, .func (.func 40) #[] #[.pointer (some ⟨w.heap.size, 0, none⟩)]] 95)
theorem sys0 {w : World} {B pb db : Nat} {pv tv : Value} {S : Ps} (P : PAt w B pb db pv tv S) (ht : Tabs w) (hlow : low ≤ B) (A : Option Addr) (c : Nat) (l : Tx) (hin : InB w A l) (hll : l.length ≤ 1073741824) (hap : l ≠ [] → ∀ g o, A = some ⟨g, o, none⟩ → tv.ownBlock ≠ some g) :
    Sys (ctx w B pb db A c l) (feW w pb A c l) (cfg0 S pv tv) := by
  have k : Kept w (feW w pb A c l) (fun _ => False) := ((Kept.refl w _).alloc _).alloc _
  have hB := (P.lt pb (.inl rfl))
  have hv : Blk (feW w pb A c l) w.heap.size 61 #[nilV] := (Blk.new w _ _).alloc _
  have hf : Blk (feW w pb A c l) (w.heap.size + 1) 95 (feeL (ctx w B pb db A c l) (cfg0 S pv tv)).toArray := blk_new1 w _ _ _
  exact ⟨P.keep k fun _ _ h => h, hf, hv, World.ownsRow_nil _ _ _ _, fun t h => (by cases h), fun t h => (by cases h), (by
    by_cases hl : l = []
    · subst hl; exact InB.of_nil _ _
    · exact hin.keep k fun g o _ h => h), hap, ht.kept k (fun _ _ h => h) (by omega), hlow, (by show B ≤ w.heap.size + 1; omega), (by show B ≤ w.heap.size; omega), Nat.zero_le _, hll, Int.le_refl 0, (by show (0 : Int) ≤ 255; omega)⟩
theorem fed_end {w w' : World} {B pb db : Nat} {pv tv : Value} {S : Ps} {A : Option Addr} {c : Nat} {l : Tx} {C : Cfg} (_hB : B ≤ pb ∧ pb < w.heap.size) (_P : PAt w B pb db pv tv S) (s : Sys (ctx w B pb db A c l) w' C) (f : Fr (ctx w B pb db A c l) (feW w pb A c l) (cfg0 S pv tv) w' C)
    (hF : Fu (ctx w B pb db A c l) C C.S C.j = run S l) (hj : ¬ C.j < l.length) : Fed w B pb db pv tv S l (.returned C.ov) w' := by
  have sz : (feW w pb A c l).heap.size = w.heap.size + 2 := by unfold feW; simp
  have jl : C.j ≤ l.length := s.jl
  have e : run S l = (C.S, outs C.out) := by
    rw [← hF]
    show (_, _) = _
    rw [show (ctx w B pb db A c l).l.drop C.j = [] from List.drop_eq_nil_of_le (by show l.length ≤ C.j; omega)]
    simp [run]
  have own : ∀ i, whole (ctx w B pb db A c l) C i → mine pb db pv tv i ∨ w.heap.size ≤ i := fun i hi => by
    rcases f.mine i hi with (q | q | q | q) | q
    · exact .inl q
    · exact .inr (by have : i = w.heap.size + 1 := q; omega)
    · exact .inr (Nat.le_of_eq q.symm)
    · cases q
    · exact .inr (by omega)
  have hov : ∀ i, C.ov.ownBlock = some i → w.heap.size ≤ i := fun i hi => by
    rcases f.ovb i hi with q | q
    · cases q
    · omega
  refine ⟨C.ov, C.out, C.pv, C.tv, rfl, ?_, own_raise s.out hov, by rw [e], fun t ht => ?_, s.tap, ?_, fun i hi => own i (.inl hi)⟩
  · rw [e]; exact s.P
  · refine own_raise (s.told t ht) fun i hi => ?_
    rcases f.told t ht with q | q
    · cases q
    · have := q i hi; omega
  · have k : Kept w (feW w pb A c l) (fun _ => False) := ((Kept.refl w _).alloc _).alloc _
    exact (k.more fun _ h => h.elim).trans f.kept fun i hi h => by
      rcases h with h | h | h | h
      · exact h
      · have : i = w.heap.size + 1 := h
        omega
      · have : i = w.heap.size := h
        omega
      · cases h
set_option maxRecDepth 100000 in
set_option maxHeartbeats 4000000 in
theorem Feed_any {w : World} {B pb db : Nat} {pv tv : Value} {S : Ps} (P : PAt w B pb db pv tv S) (ht : Tabs w) (hlow : low ≤ B) (A : Option Addr) (c : Nat) (l : Tx) (hin : InB w A l) (hll : l.length ≤ 1073741824) (hap : l ≠ [] → ∀ g o, A = some ⟨g, o, none⟩ → tv.ownBlock ≠ some g) :
    Calls Tryz.prog 24 #[ptr pb, .slice A l.length c] w (Fed w B pb db pv tv S l) := by
  have s0 := sys0 P ht hlow A c l hin hll hap
  have hB := P.lt pb (.inl rfl)
  have hF0 : Fu (ctx w B pb db A c l) (cfg0 S pv tv) S 0 = run S l := rfl
  have hn : (run S l).2.length ≤ 4294967200 := by have := run_len S l; have := pend_le S.d; omega
  have HE := Lib.hid (fun (w' : World) (C : Cfg) => fed_end (w' := w') (A := A) (c := c) (C := C) (l := l) hB P)
  have HW : Hid (feW w pb A c l = (w.alloc (.cells #[.slice none 0 0] 61)).alloc (.cells #[.pointer (some ⟨pb, 0, none⟩), .slice A l.length c, .int .i64 0, .int .u8 0, .func (.func 40) #[] #[.pointer (some ⟨w.heap.size, 0, none⟩)]] 95)) := by show _ = _; rfl
  have HP := Lib.hid P
  clear P ht hin hap
  generalize feW w pb A c l = w3 at *
  generalize hR : run S l = R at *
  have HR := Lib.hid hR
  clear hR
  go_enter Tryz.func24, Tryz.ntmps24
  go_wp2_with fail
  rw [← HW.out]
  go_loopw [] (fun wr => ∃ C, Sys (ctx w B pb db A c l) wr C ∧ Fr (ctx w B pb db A c l) w3 (cfg0 S pv tv) wr C ∧ Fu (ctx w B pb db A c l) C C.S C.j = R) (fun wr => 2 * (l.length - (intOf ((wr.cell? ⟨w.heap.size + 1, 2, none⟩).getD (.int .i64 0))).toNat) + hdv (wr.cell? ⟨pb, 0, none⟩))
  case atStart => exact ⟨_, s0, Fr.refl _ _ _, hF0⟩
  case round =>
    obtain ⟨C, s, f, hF⟩ := hrel
    have q0 : wr.cell? ⟨w.heap.size + 1, 0, none⟩ = some (ptr pb) := s.fee.cell 0
    have q2 : wr.cell? ⟨w.heap.size + 1, 2, none⟩ = some (.int .i64 C.j) := s.fee.cell 2
    have q5 : wr.cell? ⟨pb, 0, none⟩ = some (.string (nm C.S.s)) := s.P.par.cell 0
    have qo : wr.cell? ⟨w.heap.size, 0, none⟩ = some C.ov := s.var.cell 0
    have jl : C.j ≤ l.length := s.jl
    have HF := Lib.hid hF
    by_cases hlt : C.j < l.length
    · have hd : decide ((C.j : Int) < (l.length : Int)) = true := by simpa using hlt
      have hih := isHead_any C.S.s s.P.bd.s1
      have HM : Hid (∀ (W : World) (C' : Cfg), Sys (ctx w B pb db A c l) W C' → C.j ≤ C'.j → (C'.j = l.length ∨ C.j < C'.j ∨ (isHd C.S.s = true ∧ C'.S.s = 0)) → 2 * (l.length - (intOf ((W.cell? ⟨w.heap.size + 1, 2, none⟩).getD (.int .i64 0))).toNat) + hdv (W.cell? ⟨pb, 0, none⟩) < 2 * (l.length - (intOf ((wr.cell? ⟨w.heap.size + 1, 2, none⟩).getD (.int .i64 0))).toNat) + hdv (wr.cell? ⟨pb, 0, none⟩)) := by
        intro W C' s' h1 h2
        have p2 : W.cell? ⟨w.heap.size + 1, 2, none⟩ = some (.int .i64 C'.j) := s'.fee.cell 2
        have p5 : W.cell? ⟨pb, 0, none⟩ = some (.string (nm C'.S.s)) := s'.P.par.cell 0
        have jl' : C'.j ≤ l.length := s'.jl
        rw [p2, p5, q2, q5, hdv_nm s'.P.bd.s1, hdv_nm s.P.bd.s1]
        simp only [Option.getD_some, intOf, Int.toNat_natCast]
        rcases h2 with h2 | h2 | ⟨h2, h3⟩
        · split <;> split <;> omega
        · split <;> split <;> omega
        · rw [if_pos h2, h3, if_neg (by decide)]; omega
      cases hh : isHd C.S.s with
      | true =>
        rw [hh] at hih
        have hrd := readHead_any s hh R hF hn
        clear hh hF
        go_wp2_with fail
        refine (hih _).mono ?_
        rintro e w4 ⟨rfl, rfl⟩
        go_wp2_with fail
        refine hrd.mono ?_
        rintro e w5 ⟨rfl, C5, s5, f5, F5, j5, d5⟩
        have HF5 := Lib.hid F5
        have HD5 := Lib.hid d5
        clear F5 d5
        go_wp2
        go_roundw
        case rel => exact ⟨C5, s5, f.trans f5, HF5.out⟩
        case measure => exact HM.out _ C5 s5 j5 HD5.out
      | false =>
        rw [hh] at hih
        have hrd := readText_any s hh R hF hn
        clear hh hF
        go_wp2_with fail
        refine (hih _).mono ?_
        rintro e w4 ⟨rfl, rfl⟩
        go_wp2_with fail
        refine hrd.mono ?_
        rintro e w5 ⟨rfl, C5, s5, f5, F5, j5, d5⟩
        have HF5 := Lib.hid F5
        have HD5 := Lib.hid d5
        clear F5 d5
        go_wp2
        go_roundw
        case rel => exact ⟨C5, s5, f.trans f5, HF5.out⟩
        case measure => exact HM.out _ C5 s5 j5 HD5.out
    · have hnd : decide ((C.j : Int) < (l.length : Int)) = false := by simpa using hlt
      clear hF
      go_wp2_with fail
      go_ret
      exact HE.out wr C s f HF.out hlt
end Go.Proofs.YtjklnnklgkihlaaGreatDoor.Vt
