/- The walk of a Feed's take: the next byte that a state itself has to do with. -/
import Derived.Test.YtmhmbeofcedjjaaDoorVan
namespace Go.Proofs.YtmhmbeofcedjjaaDoor.Vt
open Go.RowKit
open Cel (Blk Kept Tabs low Owns At)

/-- What all the rest comes to: the parser at the end, all that is told. -/
def Fu (K : Ctx) (C : Cfg) (S : Ps) (j : Nat) : Ps × List Ac := ((run S (K.l.drop j)).1, outs C.out ++ (run S (K.l.drop j)).2)
theorem fu_step {K : Ctx} {C C' : Cfg} {S S2 : Ps} {j : Nat} {u : UInt8} {a : List Ac} (hj : K.l[j]? = some u) (hs : step S u = (S2, a)) (ho : outs C'.out = outs C.out ++ a) : Fu K C' S2 (j + 1) = Fu K C S j := by
  obtain ⟨hl, hu⟩ := List.getElem?_eq_some_iff.1 hj
  unfold Fu
  rw [List.drop_eq_getElem_cons hl, hu, ho]
  simp only [run, hs, List.append_assoc]
theorem fu_alike {K : Ctx} {C C' : Cfg} {S S2 : Ps} {j : Nat} {u : UInt8} (hj : K.l[j]? = some u) (hs : step S2 u = step S u) (ho : outs C'.out = outs C.out) : Fu K C' S2 j = Fu K C S j := by
  obtain ⟨hl, hu⟩ := List.getElem?_eq_some_iff.1 hj
  unfold Fu
  rw [List.drop_eq_getElem_cons hl, hu, ho]
  simp only [run, hs]
theorem fu_out {K : Ctx} {C C' : Cfg} {S : Ps} {j : Nat} (ho : outs C'.out = outs C.out) : Fu K C' S j = Fu K C S j := by unfold Fu; rw [ho]
theorem fu_len {K : Ctx} {C : Cfg} {S : Ps} {j : Nat} {F : Ps × List Ac} (h : Fu K C S j = F) : C.out.length ≤ F.2.length := by
  rw [← h]; unfold Fu; rw [List.length_append, outs_len]; omega
/-- A byte that a state itself has to do with. -/
def live (st : Nat) (x : Int) : Prop := x ≠ 24 ∧ x ≠ 26 ∧ x ≠ 27 ∧ if isTx st then ¬ x < 32 ∨ (st = 1 ∧ x = 7) else ¬ x < 32 ∧ ¬ (127 < x ∧ isHd st = true) ∧ x ≠ 127
/-- What take leaves. -/
def Taken (K : Ctx) (w : World) (C : Cfg) (st : Nat) (F : Ps × List Ac) (e : Ending) (w' : World) : Prop :=
  ∃ (t : Bool) (C' : Cfg), e = .returned (.bool t) ∧ Sys K w' C' ∧ Fr K w C w' C' ∧
    ((t = true ∧ ∃ m u, C'.j = m + 1 ∧ C.j ≤ m ∧ K.l[m]? = some u ∧ C'.x = (u.toNat : Int) ∧ C'.S.s = st ∧ live st (u.toNat : Int) ∧ Fu K C' C'.S m = F) ∨
     (t = false ∧ Fu K C' C'.S C'.j = F ∧ C.j ≤ C'.j ∧ (C'.j = K.l.length ∨ C.j < C'.j ∨ (isHd st = true ∧ C'.S.s = 0))))

theorem Sys.setS {K : Ctx} {w : World} {C : Cfg} (h : Sys K w C) (st : Nat) (hst : st ≤ 7) :
    Sys K (w.setCell ⟨K.pb, 0, none⟩ (.string (nm st))) { C with S := { C.S with s := st } } ∧ Fr K w C (w.setCell ⟨K.pb, 0, none⟩ (.string (nm st))) { C with S := { C.S with s := st } } := by
  have hk : Kept w (w.setCell ⟨K.pb, 0, none⟩ (.string (nm st))) (fun i => i = K.pb) := Kept.setCell (p := fun i => i = K.pb) (Kept.refl w _) (a := ⟨K.pb, 0, none⟩) rfl _
  have hb := h.P.bd
  exact h.setP hk { C.S with s := st } C.pv C.tv (h.P.par.set_ 0 _) rfl ⟨hst, hb.k0, hb.k1, hb.b0, hb.b1, hb.pl, hb.pz, hb.il, hb.tl, hb.di⟩ (.inl ⟨rfl, rfl⟩) (.inl ⟨rfl, rfl⟩)
theorem Sys.setX {K : Ctx} {w : World} {C : Cfg} (h : Sys K w C) (u : UInt8) (j : Nat) (hj : j ≤ K.l.length) :
    Sys K ((w.setCell ⟨K.fb, 3, none⟩ (.int .u8 (u.toNat : Int))).setCell ⟨K.fb, 2, none⟩ (.int .i64 (j : Int))) { C with j := j, x := (u.toNat : Int) } ∧
    Fr K w C ((w.setCell ⟨K.fb, 3, none⟩ (.int .u8 (u.toNat : Int))).setCell ⟨K.fb, 2, none⟩ (.int .i64 (j : Int))) { C with j := j, x := (u.toNat : Int) } :=
  h.setF ((Kept.setCell (p := fun i => i = K.fb) (Kept.refl w _) (a := ⟨K.fb, 3, none⟩) rfl _).setCell (a := ⟨K.fb, 2, none⟩) rfl _) j (u.toNat : Int) ((h.fee.set_ 3 _).set_ 2 _) hj (u8_le u).1 (u8_le u).2
theorem Sys.drewN {K : Ctx} {w : World} {C : Cfg} (h : Sys K w C) (n : Nat) : Sys K (w.drewN n) C := h.same (p := fun _ => False) ((Kept.refl w _).drewN n) fun _ hf => hf.elim
theorem Sys.came {K : Ctx} {w : World} {C : Cfg} (h : Sys K w C) (n : Nat) (u : UInt8) (hj : C.j < K.l.length) :
    Sys K (((w.drewN n).setCell ⟨K.fb, 3, none⟩ (.int .u8 (u.toNat : Int))).setCell ⟨K.fb, 2, none⟩ (.int .i64 ((C.j : Int) + 1))) { C with j := C.j + 1, x := (u.toNat : Int) } ∧
    Fr K w C (((w.drewN n).setCell ⟨K.fb, 3, none⟩ (.int .u8 (u.toNat : Int))).setCell ⟨K.fb, 2, none⟩ (.int .i64 ((C.j : Int) + 1))) { C with j := C.j + 1, x := (u.toNat : Int) } := by
  obtain ⟨s, f⟩ := (h.drewN n).setX u (C.j + 1) hj
  have f0 : Fr K w C (w.drewN n) C := Fr.same (p := fun _ => False) ((Kept.refl w _).drewN n) fun _ hf => hf.elim
  exact ⟨s, f0.trans f⟩
/-- The byte is given back. -/
theorem Sys.back {K : Ctx} {w : World} {C : Cfg} (h : Sys K w C) (j : Nat) (hj : j ≤ K.l.length) :
    Sys K (w.setCell ⟨K.fb, 2, none⟩ (.int .i64 (j : Int))) { C with j := j } ∧ Fr K w C (w.setCell ⟨K.fb, 2, none⟩ (.int .i64 (j : Int))) { C with j := j } :=
  h.setF (Kept.setCell (p := fun i => i = K.fb) (Kept.refl w _) (a := ⟨K.fb, 2, none⟩) rfl _) j C.x (h.fee.set_ 2 _) hj h.x0 h.x1
theorem step_can {S : Ps} {u : UInt8} (h : (u.toNat : Int) = 24 ∨ (u.toNat : Int) = 26) : step S u = (ps0, []) := by unfold step; simp only [if_pos h]
theorem step_esc {S : Ps} {u : UInt8} (h : (u.toNat : Int) = 27) : step S u = (escP S, escA S) := by unfold step; simp only [if_neg (show ¬ ((u.toNat : Int) = 24 ∨ (u.toNat : Int) = 26) by omega), if_pos h]
theorem step_quiet {S : Ps} {u : UInt8} (h1 : (u.toNat : Int) ≠ 24) (h2 : (u.toNat : Int) ≠ 26) (h3 : (u.toNat : Int) ≠ 27) (ht : isTx S.s = true) (h4 : (u.toNat : Int) < 32) (h5 : ¬ (S.s = 1 ∧ (u.toNat : Int) = 7)) : step S u = (S, []) := by
  unfold step
  simp only [if_neg (show ¬ ((u.toNat : Int) = 24 ∨ (u.toNat : Int) = 26) by omega), if_neg h3, if_pos ht, if_neg h5, if_pos h4]
theorem step_ctl {S : Ps} {u : UInt8} (h1 : (u.toNat : Int) ≠ 24) (h2 : (u.toNat : Int) ≠ 26) (h3 : (u.toNat : Int) ≠ 27) (ht : isTx S.s = false) (h4 : (u.toNat : Int) < 32) : step S u = ({ S with d := Cel.zero }, (Cel.lost S.d).map prt ++ [ctl (u.toNat : Int)]) := by
  unfold step
  simp only [if_neg (show ¬ ((u.toNat : Int) = 24 ∨ (u.toNat : Int) = 26) by omega), if_neg h3, if_neg (show ¬ (isTx S.s = true) by rw [ht]; decide), if_pos h4]
theorem step_wide {S : Ps} {u : UInt8} (ht : isTx S.s = false) (h4 : 127 < (u.toNat : Int)) (h5 : isHd S.s = true) : step S u = ground ps0 (u.toNat : Int) := by
  unfold step
  simp only [if_neg (show ¬ ((u.toNat : Int) = 24 ∨ (u.toNat : Int) = 26) by omega), if_neg (show ¬ (u.toNat : Int) = 27 by omega), if_neg (show ¬ (isTx S.s = true) by rw [ht]; decide), if_neg (show ¬ (u.toNat : Int) < 32 by omega), if_pos (show 127 < (u.toNat : Int) ∧ isHd S.s = true from ⟨h4, h5⟩)]
theorem step_wide0 {u : UInt8} (h4 : 127 < (u.toNat : Int)) : step ps0 u = ground ps0 (u.toNat : Int) := by
  unfold step
  simp only [if_neg (show ¬ ((u.toNat : Int) = 24 ∨ (u.toNat : Int) = 26) by omega), if_neg (show ¬ (u.toNat : Int) = 27 by omega), if_neg (show ¬ (isTx ps0.s = true) by decide), if_neg (show ¬ (u.toNat : Int) < 32 by omega), if_neg (show ¬ (127 < (u.toNat : Int) ∧ isHd ps0.s = true) from fun h => absurd h.2 (by decide)), if_neg (show ¬ (u.toNat : Int) = 127 by omega), if_pos (show ps0.s = 0 from rfl)]
theorem step_del {S : Ps} {u : UInt8} (ht : isTx S.s = false) (h4 : (u.toNat : Int) = 127) : step S u = (S, []) := by
  unfold step
  simp only [if_neg (show ¬ ((u.toNat : Int) = 24 ∨ (u.toNat : Int) = 26) by omega), if_neg (show ¬ (u.toNat : Int) = 27 by omega), if_neg (show ¬ (isTx S.s = true) by rw [ht]; decide), if_neg (show ¬ (u.toNat : Int) < 32 by omega), if_neg (show ¬ (127 < (u.toNat : Int) ∧ isHd S.s = true) by omega), if_pos h4]
set_option maxRecDepth 100000 in
set_option maxHeartbeats 4000000 in
theorem take_any {K : Ctx} {w : World} {C : Cfg} (hS : Sys K w C) (st : Nat) (hst : st ≤ 7) (F : Ps × List Ac) (hF : Fu K C { C.S with s := st } C.j = F) (hn : F.2.length ≤ 4294967200) :
    Calls Tryd.prog 42 #[ptr K.fb, .string (nm st)] w (Taken K w C st F) := by
  have c0 : w.cell? ⟨K.fb, 0, none⟩ = some (ptr K.pb) := hS.fee.cell 0
  have p0 : w.cell? ⟨K.pb, 0, none⟩ = some (.string (nm C.S.s)) := hS.P.par.cell 0
  have p0f : w.frozen? ⟨K.pb, 0, none⟩ = false := hS.P.par.frozen 0
  obtain ⟨s1, f1⟩ := hS.setS st hst
  have HF := Lib.hid hF
  clear hF
  go_enter Tryd.func42, Tryd.ntmps42
  go_wp2
  go_loopw [] (fun wr => ∃ C', Sys K wr C' ∧ Fr K w C wr C' ∧ C.j ≤ C'.j ∧ C'.S.s = st ∧ Fu K C' C'.S C'.j = F) (fun wr => K.l.length - (intOf ((wr.cell? ⟨K.fb, 2, none⟩).getD (.int .i64 0))).toNat)
  case atStart => exact ⟨_, s1, f1, Nat.le_refl _, rfl, HF.out⟩
  case round =>
    obtain ⟨C', hs, hf, hj, he, hfu⟩ := hrel
    have hfn := fu_len hfu
    have q0 : wr.cell? ⟨K.fb, 0, none⟩ = some (ptr K.pb) := hs.fee.cell 0
    have q1 : wr.cell? ⟨K.fb, 1, none⟩ = some (.slice K.A K.l.length K.c) := hs.fee.cell 1
    have q2 : wr.cell? ⟨K.fb, 2, none⟩ = some (.int .i64 C'.j) := hs.fee.cell 2
    have q3 : wr.cell? ⟨K.fb, 3, none⟩ = some (.int .u8 C'.x) := hs.fee.cell 3
    have q2f : wr.frozen? ⟨K.fb, 2, none⟩ = false := hs.fee.frozen 2
    have q3f : wr.frozen? ⟨K.fb, 3, none⟩ = false := hs.fee.frozen 3
    have jl := hs.jl
    have ll := hs.ll
    by_cases hlt : C'.j < K.l.length
    · obtain ⟨g, o, cs, fr, hA, hg, hc⟩ := hs.inp C'.j hlt
      have hd : decide ((C'.j : Int) < (K.l.length : Int)) = true := by simpa using hlt
      rw [hA] at q1
      obtain ⟨u, hu⟩ : ∃ u, K.l[C'.j]? = some u := ⟨_, List.getElem?_eq_getElem hlt⟩
      have hcell : wr.cell? ⟨g, o + C'.j, none⟩ = some (.int .u8 (u.toNat : Int)) := by rw [cell_of_row wr g _ cs _ fr hg, hc, List.getD_eq_getElem?_getD, hu]; rfl
      have hu0 := u8_le u
      have hit := isText_any st hst
      have hih := isHead_any st hst
      have hic := isControl_any (u.toNat : Int)
      obtain ⟨_, n1, _⟩ := nm_is st hst
      have ms : ∀ W : World, W.cell? ⟨K.fb, 2, none⟩ = some (.int .i64 ((C'.j : Int) + 1)) → K.l.length - (intOf ((W.cell? ⟨K.fb, 2, none⟩).getD (.int .i64 0))).toNat < K.l.length - (intOf ((wr.cell? ⟨K.fb, 2, none⟩).getD (.int .i64 0))).toNat := by
        intro W hW
        rw [hW, q2]
        simp [intOf]
        omega
      have HM := Lib.hid ms
      have HU := Lib.hid hu
      have HFu := Lib.hid hfu
      clear hc hg ms hu hfu
      go_wp2_with fail
      go_quiet (fail)
      go_wp2_with fail
      go_region
      obtain ⟨s4, f4⟩ := hs.came (nq + 1) u hlt
      have fu1 := fun (C2 : Cfg) (S2 : Ps) (a : List Ac) (h1 : step C'.S u = (S2, a)) (h2 : outs C2.out = outs C'.out ++ a) => (fu_step HU.out h1 h2).trans HFu.out
      have hwide := fun (C2 : Cfg) (ht : isTx C'.S.s = false) (h4 : 127 < (u.toNat : Int)) (h5 : isHd C'.S.s = true) (h2 : outs C2.out = outs C'.out) => (fu_alike (S2 := ps0) HU.out ((step_wide0 h4).trans (step_wide ht h4 h5).symm) h2).trans HFu.out
      have hcan := @step_can C'.S u
      have hesc := @step_esc C'.S u
      have hqui := @step_quiet C'.S u
      have hctl := @step_ctl C'.S u
      have hdel := @step_del C'.S u
      have hff := hf.trans f4
      have hn4 : C'.out.length ≤ 4294967200 := by omega
      generalize hx : (u.toNat : Int) = x at *
      have HCan := Lib.hid hcan
      have HEsc := Lib.hid hesc
      have HQui := Lib.hid hqui
      have HCtl := Lib.hid hctl
      have HDel := Lib.hid hdel
      have HW := Lib.hid hwide
      have HX := Lib.hid hx
      have HF1 := Lib.hid fu1
      have HE := Lib.hid he
      have HJ := Lib.hid hj
      clear hcan hesc hqui hctl hdel hwide hx fu1 he hj
      have hdr := drop_any s4.P.par s4.P.dec s4.P.bd.di
      have hes := escape_any s4 (by show C'.out.length ≤ _; omega)
      have hco := control_left s4 (by show C'.out.length ≤ _; omega)
      generalize hW : ((wr.drewN (nq + 1)).setCell ⟨K.fb, 3, none⟩ (.int .u8 x)).setCell ⟨K.fb, 2, none⟩ (.int .i64 ((C'.j : Int) + 1)) = W at s4 f4 hff hdr hes hco
      have HWW := Lib.hid hW
      clear hW
      by_cases h24 : x = 24
      · have fu2 := HF1.out { C' with S := ps0, pv := nilV, tv := nilV, j := C'.j + 1, x := x } ps0 [] (HCan.out (.inl h24)) (List.append_nil _).symm
        have HF2 := Lib.hid fu2
        clear fu2
        have e24 : (x == 24) = true := by simp [h24]
        clear h24
        go_wp2_with fail
        rw [HWW.out]
        refine hdr.mono ?_
        rintro e w5 ⟨rfl, hb5, hd5, hk5⟩
        obtain ⟨s5, f5⟩ := s4.drop hk5 hb5 hd5
        go_wp2
        go_ret
        exact ⟨false, _, rfl, s5, hff.trans f5, .inr ⟨rfl, HF2.out, by show C.j ≤ C'.j + 1; have := HJ.out; omega, .inr (.inl (by show C.j < C'.j + 1; have := HJ.out; omega))⟩⟩
      · by_cases h26 : x = 26
        · have fu2 := HF1.out { C' with S := ps0, pv := nilV, tv := nilV, j := C'.j + 1, x := x } ps0 [] (HCan.out (.inr h26)) (List.append_nil _).symm
          have HF2 := Lib.hid fu2
          clear fu2
          have e24 : (x == 24) = false := by simp [h24]
          have e26 : (x == 26) = true := by simp [h26]
          clear h24 h26
          go_wp2_with fail
          rw [HWW.out]
          refine hdr.mono ?_
          rintro e w5 ⟨rfl, hb5, hd5, hk5⟩
          obtain ⟨s5, f5⟩ := s4.drop hk5 hb5 hd5
          go_wp2
          go_ret
          exact ⟨false, _, rfl, s5, hff.trans f5, .inr ⟨rfl, HF2.out, by show C.j ≤ C'.j + 1; have := HJ.out; omega, .inr (.inl (by show C.j < C'.j + 1; have := HJ.out; omega))⟩⟩
        · have e24 : (x == 24) = false := by simp [h24]
          have e26 : (x == 26) = false := by simp [h26]
          by_cases h27 : x = 27
          · have HS2 := Lib.hid (HEsc.out h27)
            have e27 : (x == 27) = true := by simp [h27]
            clear h24 h26 h27
            go_wp2_with fail
            rw [HWW.out]
            refine hes.mono ?_
            rintro e w5 ⟨rfl, C5, s5, f5, j5, x5, S5, o5⟩
            have HJ5 := Lib.hid j5
            have HS5 := Lib.hid S5
            have HO5 := Lib.hid o5
            clear j5 x5 S5 o5
            go_wp2
            go_ret
            refine ⟨false, C5, rfl, s5, hff.trans f5, .inr ⟨rfl, ?_, ?_, .inr (.inl ?_)⟩⟩
            · rw [HS5.out, HJ5.out]
              exact HF1.out C5 _ _ HS2.out HO5.out
            · rw [HJ5.out]; show C.j ≤ C'.j + 1; have := HJ.out; omega
            · rw [HJ5.out]; show C.j < C'.j + 1; have := HJ.out; omega
          · have e27 : (x == 27) = false := by simp [h27]
            cases ht : isTx st with
            | true =>
              simp only [ht] at hit
              by_cases h32 : x < 32
              · have d32 : decide (x < 32) = true := by simpa using h32
                by_cases hst1 : st = 1
                · have n1' : ((nm st).toList == [111, 115, 99]) = true := by rw [n1]; simpa using hst1
                  by_cases h7 : x = 7
                  · have e7 : (x == 7) = true := by simp [h7]
                    have HL : Hid (live st x) := by show live st x; unfold live; rw [ht]; exact ⟨h24, h26, h27, Or.inr ⟨hst1, h7⟩⟩
                    clear h24 h26 h27 h7 hst1 ht n1
                    go_wp2_with fail
                    refine (hit _).mono ?_
                    rintro e w5 ⟨rfl, rfl⟩
                    go_wp2_with fail
                    refine (hic _).mono ?_
                    rintro e w5 ⟨rfl, rfl⟩
                    go_wp2_with fail
                    go_ret
                    exact ⟨true, { C' with j := C'.j + 1, x := x }, rfl, HWW.out ▸ s4, HWW.out ▸ hff, .inl ⟨rfl, C'.j, u, rfl, HJ.out, HU.out, HX.out.symm, HE.out, by rw [HX.out]; exact HL.out, HFu.out⟩⟩
                  · have e7 : (x == 7) = false := by simp [h7]
                    have fu2 := HF1.out { C' with j := C'.j + 1, x := x } C'.S [] (HQui.out h24 h26 h27 (by rw [HE.out]; exact ht) h32 (by rintro ⟨_, h⟩; exact h7 h)) (List.append_nil _).symm
                    have HF2 := Lib.hid fu2
                    clear h24 h26 h27 h7 hst1 ht n1 fu2
                    go_wp2_with fail
                    refine (hit _).mono ?_
                    rintro e w5 ⟨rfl, rfl⟩
                    go_wp2_with fail
                    refine (hic _).mono ?_
                    rintro e w5 ⟨rfl, rfl⟩
                    go_wp2_with fail
                    go_roundw
                    case rel =>
                      have hh := HJ.out
                      have fu2 := HF2.out
                      rw [HWW.out]
                      exact ⟨_, s4, hff, by show C.j ≤ C'.j + 1; omega, HE.out, fu2⟩
                    case measure => exact HM.out _ (by rw [HWW.out]; exact s4.fee.cell 2)
                · have n1' : ((nm st).toList == [111, 115, 99]) = false := by rw [n1]; simpa using hst1
                  have fu2 := HF1.out { C' with j := C'.j + 1, x := x } C'.S [] (HQui.out h24 h26 h27 (by rw [HE.out]; exact ht) h32 (by rintro ⟨h, _⟩; rw [HE.out] at h; exact hst1 h)) (List.append_nil _).symm
                  have HF2 := Lib.hid fu2
                  clear h24 h26 h27 hst1 ht n1 fu2
                  go_wp2_with fail
                  refine (hit _).mono ?_
                  rintro e w5 ⟨rfl, rfl⟩
                  go_wp2_with fail
                  refine (hic _).mono ?_
                  rintro e w5 ⟨rfl, rfl⟩
                  go_wp2_with fail
                  go_roundw
                  case rel =>
                    have hh := HJ.out
                    have fu2 := HF2.out
                    rw [HWW.out]
                    exact ⟨_, s4, hff, by show C.j ≤ C'.j + 1; omega, HE.out, fu2⟩
                  case measure => exact HM.out _ (by rw [HWW.out]; exact s4.fee.cell 2)
              · have d32 : decide (x < 32) = false := by simpa using h32
                have HL : Hid (live st x) := by show live st x; unfold live; rw [ht]; exact ⟨h24, h26, h27, Or.inl h32⟩
                clear h24 h26 h27 ht n1
                go_wp2_with fail
                refine (hit _).mono ?_
                rintro e w5 ⟨rfl, rfl⟩
                go_wp2_with fail
                refine (hic _).mono ?_
                rintro e w5 ⟨rfl, rfl⟩
                go_wp2_with fail
                go_ret
                exact ⟨true, { C' with j := C'.j + 1, x := x }, rfl, HWW.out ▸ s4, HWW.out ▸ hff, .inl ⟨rfl, C'.j, u, rfl, HJ.out, HU.out, HX.out.symm, HE.out, by rw [HX.out]; exact HL.out, HFu.out⟩⟩
            | false =>
              simp only [ht] at hit
              by_cases h32 : x < 32
              · have d32 : decide (x < 32) = true := by simpa using h32
                have HS2 := Lib.hid (HCtl.out h24 h26 h27 (by rw [HE.out]; exact ht) h32)
                clear h24 h26 h27 ht n1
                go_wp2_with fail
                refine (hit _).mono ?_
                rintro e w5 ⟨rfl, rfl⟩
                go_wp2_with fail
                refine (hic _).mono ?_
                rintro e w5 ⟨rfl, rfl⟩
                go_wp2_with fail
                rw [HWW.out]
                refine hco.mono ?_
                rintro e w5 ⟨rfl, C5, s5, f5, j5, x5, S5, o5⟩
                have HJ5 := Lib.hid j5
                have HS5 := Lib.hid S5
                have HO5 := Lib.hid o5
                clear j5 x5 S5 o5
                go_wp2
                go_roundw
                case rel =>
                  refine ⟨C5, s5, hff.trans f5, ?_, ?_, ?_⟩
                  · rw [HJ5.out]; show C.j ≤ C'.j + 1; have := HJ.out; omega
                  · rw [HS5.out]; exact HE.out
                  · rw [HS5.out, HJ5.out]
                    exact HF1.out C5 _ _ HS2.out HO5.out
                case measure => exact HM.out _ (by have q := s5.fee.cell 2; have q2 : w5.cell? ⟨K.fb, 2, none⟩ = some (.int .i64 (C5.j : Int)) := q; rw [q2, HJ5.out]; rfl)
              · have d32 : decide (x < 32) = false := by simpa using h32
                by_cases h127 : 127 < x
                · have d127 : decide (127 < x) = true := by simpa using h127
                  cases hh : isHd st with
                  | true =>
                    simp only [hh] at hih
                    obtain ⟨s6, f6⟩ := s4.back C'.j jl
                    have hdr6 := drop_any s6.P.par s6.P.dec s6.P.bd.di
                    have fu2 := fun C2 h => HW.out C2 (by rw [HE.out]; exact ht) h127 (by rw [HE.out]; exact hh) h
                    have HF2 := Lib.hid fu2
                    have HH := Lib.hid hh
                    have z3 : W.cell? ⟨K.fb, 2, none⟩ = some (.int .i64 ((C'.j : Int) + 1)) := s4.fee.cell 2
                    clear h24 h26 h27 ht n1 fu2 hh
                    go_wp2_with fail
                    refine (hit _).mono ?_
                    rintro e w5 ⟨rfl, rfl⟩
                    go_wp2_with fail
                    refine (hic _).mono ?_
                    rintro e w5 ⟨rfl, rfl⟩
                    go_wp2_with fail
                    refine (hih _).mono ?_
                    rintro e w5 ⟨rfl, rfl⟩
                    go_wp2_with fail
                    rw [HWW.out]
                    refine hdr6.mono ?_
                    rintro e w5 ⟨rfl, hb5, hd5, hk5⟩
                    obtain ⟨s5, f5⟩ := s6.drop hk5 hb5 hd5
                    go_wp2
                    go_ret
                    exact ⟨false, _, rfl, s5, (hff.trans f6).trans f5, .inr ⟨rfl, HF2.out _ rfl, HJ.out, .inr (.inr ⟨HH.out, rfl⟩)⟩⟩
                  | false =>
                    simp only [hh] at hih
                    have e127 : (x != 127) = true := by simp; omega
                    have HL : Hid (live st x) := by show live st x; unfold live; rw [ht, hh]; exact ⟨h24, h26, h27, h32, (fun h => absurd h.2 (by decide)), by omega⟩
                    clear h24 h26 h27 ht n1 hh
                    go_wp2_with fail
                    refine (hit _).mono ?_
                    rintro e w5 ⟨rfl, rfl⟩
                    go_wp2_with fail
                    refine (hic _).mono ?_
                    rintro e w5 ⟨rfl, rfl⟩
                    go_wp2_with fail
                    refine (hih _).mono ?_
                    rintro e w5 ⟨rfl, rfl⟩
                    go_wp2_with fail
                    go_ret
                    exact ⟨true, { C' with j := C'.j + 1, x := x }, rfl, HWW.out ▸ s4, HWW.out ▸ hff, .inl ⟨rfl, C'.j, u, rfl, HJ.out, HU.out, HX.out.symm, HE.out, by rw [HX.out]; exact HL.out, HFu.out⟩⟩
                · have d127 : decide (127 < x) = false := by simpa using h127
                  by_cases h128 : x = 127
                  · have e127 : (x != 127) = false := by simp [h128]
                    have fu2 := HF1.out { C' with j := C'.j + 1, x := x } C'.S [] (HDel.out (by rw [HE.out]; exact ht) h128) (List.append_nil _).symm
                    have HF2 := Lib.hid fu2
                    clear h24 h26 h27 ht n1 fu2 h128
                    go_wp2_with fail
                    refine (hit _).mono ?_
                    rintro e w5 ⟨rfl, rfl⟩
                    go_wp2_with fail
                    refine (hic _).mono ?_
                    rintro e w5 ⟨rfl, rfl⟩
                    go_wp2_with fail
                    go_roundw
                    case rel =>
                      have hh := HJ.out
                      have fu2 := HF2.out
                      rw [HWW.out]
                      exact ⟨_, s4, hff, by show C.j ≤ C'.j + 1; omega, HE.out, fu2⟩
                    case measure => exact HM.out _ (by rw [HWW.out]; exact s4.fee.cell 2)
                  · have e127 : (x != 127) = true := by simp [h128]
                    have HL : Hid (live st x) := by show live st x; unfold live; rw [ht]; exact ⟨h24, h26, h27, h32, (fun h => absurd h.1 h127), h128⟩
                    clear h24 h26 h27 ht n1 h128
                    go_wp2_with fail
                    refine (hit _).mono ?_
                    rintro e w5 ⟨rfl, rfl⟩
                    go_wp2_with fail
                    refine (hic _).mono ?_
                    rintro e w5 ⟨rfl, rfl⟩
                    go_wp2_with fail
                    go_ret
                    exact ⟨true, { C' with j := C'.j + 1, x := x }, rfl, HWW.out ▸ s4, HWW.out ▸ hff, .inl ⟨rfl, C'.j, u, rfl, HJ.out, HU.out, HX.out.symm, HE.out, by rw [HX.out]; exact HL.out, HFu.out⟩⟩
    · have HFu := Lib.hid hfu
      have HJ := Lib.hid hj
      have hnd : decide ((C'.j : Int) < (K.l.length : Int)) = false := by simpa using hlt
      go_wp2_with fail
      go_quiet (fail)
      go_wp2_with fail
      go_ret
      exact ⟨false, C', rfl, hs.drewN _, hf.trans (Fr.same (p := fun _ => False) ((Kept.refl wr _).drewN _) fun _ hf => hf.elim), .inr ⟨rfl, HFu.out, HJ.out, .inl (by omega)⟩⟩
end Go.Proofs.YtmhmbeofcedjjaaDoor.Vt
