/- The walk of a Feed's collect: the bytes of a head. -/
import Derived.Test.YtmhmbeofcedjjaaDoorVtk
namespace Go.Proofs.YtmhmbeofcedjjaaDoor.Vt
open Go.RowKit
open Cel (Blk Kept Tabs low Owns At)

/-- As Fu, with what is still to be told. -/
def Fe (K : Ctx) (C : Cfg) (S2 : Ps) (a : List Ac) (j : Nat) : Ps × List Ac := ((run S2 (K.l.drop j)).1, outs C.out ++ a ++ (run S2 (K.l.drop j)).2)
theorem fe_of {K : Ctx} {C C' : Cfg} {S S2 : Ps} {m : Nat} {u : UInt8} {a : List Ac} {F : Ps × List Ac} (h : Fu K C S m = F) (hm : K.l[m]? = some u) (hs : step S u = (S2, a)) (ho : outs C'.out = outs C.out) : Fe K C' S2 a (m + 1) = F := by
  obtain ⟨hl, hu⟩ := List.getElem?_eq_some_iff.1 hm
  rw [← h]
  unfold Fu Fe
  rw [List.drop_eq_getElem_cons hl, hu, ho]
  simp only [run, hs, List.append_assoc]
theorem fe_end {K : Ctx} {C C' : Cfg} {S2 : Ps} {j : Nat} {a : List Ac} {F : Ps × List Ac} (h : Fe K C S2 a j = F) (ho : outs C'.out = outs C.out ++ a) : Fu K C' S2 j = F := by
  rw [← h]; unfold Fu Fe; rw [ho]
theorem fe_len {K : Ctx} {C : Cfg} {S2 : Ps} {j : Nat} {a : List Ac} {F : Ps × List Ac} (h : Fe K C S2 a j = F) : C.out.length + a.length ≤ F.2.length := by
  rw [← h]; unfold Fe; simp only [List.length_append, outs_len]; omega
theorem step_head {S : Ps} {u : UInt8} (hs : S.s = 4 ∨ S.s = 5 ∨ S.s = 6) (hl : live S.s (u.toNat : Int)) :
    step S u = if isFin S.k (u.toNat : Int) then ended { S with b := (u.toNat : Int) } (u.toNat : Int) else if fits S (u.toNat : Int) then (add S u, []) else ({ S with s := 7 }, []) := by
  obtain ⟨h1, h2, h3, h4⟩ := hl
  have ht : isTx S.s = false := by rcases hs with h | h | h <;> rw [h] <;> rfl
  rw [if_neg (by rw [ht]; decide)] at h4
  obtain ⟨h4, h5, h6⟩ := h4
  unfold step
  simp only [if_neg (show ¬ ((u.toNat : Int) = 24 ∨ (u.toNat : Int) = 26) by omega), if_neg h3, if_neg (show ¬ (isTx S.s = true) by rw [ht]; decide), if_neg h4, if_neg h5, if_neg h6, if_neg (show ¬ S.s = 0 by omega), if_neg (show ¬ S.s = 7 by omega)]
theorem step_ign {S : Ps} {u : UInt8} (hs : S.s = 7) (hl : live S.s (u.toNat : Int)) :
    step S u = if isFin S.k (u.toNat : Int) then (if S.k = 6 then { ps0 with s := 3 } else ps0, []) else (S, []) := by
  obtain ⟨h1, h2, h3, h4⟩ := hl
  have ht : isTx S.s = false := by rw [hs]; rfl
  rw [if_neg (by rw [ht]; decide)] at h4
  obtain ⟨h4, h5, h6⟩ := h4
  unfold step
  simp only [if_neg (show ¬ ((u.toNat : Int) = 24 ∨ (u.toNat : Int) = 26) by omega), if_neg h3, if_neg (show ¬ (isTx S.s = true) by rw [ht]; decide), if_neg h4, if_neg h5, if_neg h6, if_neg (show ¬ S.s = 0 by omega), if_pos hs]
/-- A byte that is no final one, and fits, is 48 at the least if it belongs to the numbers. -/
theorem fits_num {S : Ps} {x : Int} (hs : S.s = 4 ∨ S.s = 5 ∨ S.s = 6) (hl : live S.s x) : isBet x = true ∨ isMk x = true ∨ 48 ≤ x := by
  obtain ⟨h1, h2, h3, h4⟩ := hl
  have ht : isTx S.s = false := by rcases hs with h | h | h <;> rw [h] <;> rfl
  rw [if_neg (by rw [ht]; decide)] at h4
  by_cases h : 48 ≤ x
  · exact .inr (.inr h)
  · refine .inl ?_
    unfold isBet; simp; omega
theorem Sys.setB {K : Ctx} {w : World} {C : Cfg} (h : Sys K w C) :
    Sys K (w.drew.setCell ⟨K.pb, 4, none⟩ (.int .u8 C.x)) { C with S := { C.S with b := C.x } } ∧ Fr K w C (w.drew.setCell ⟨K.pb, 4, none⟩ (.int .u8 C.x)) { C with S := { C.S with b := C.x } } := by
  have hk : Kept w (w.drew.setCell ⟨K.pb, 4, none⟩ (.int .u8 C.x)) (fun i => i = K.pb) := Kept.setCell (p := fun i => i = K.pb) (Kept.refl w _).drew (a := ⟨K.pb, 4, none⟩) rfl _
  have hb := h.P.bd
  have hp : Blk w.drew K.pb 47 (parL C.S C.pv C.tv K.db).toArray := h.P.par
  have e : (parL C.S C.pv C.tv K.db).toArray.setIfInBounds 4 (.int .u8 C.x) = (parL { C.S with b := C.x } C.pv C.tv K.db).toArray := by
    unfold parL; generalize nm C.S.s = z; simp
  exact h.setP hk { C.S with b := C.x } C.pv C.tv (blk_of (hp.set_ 4 _) e) rfl ⟨hb.s1, hb.k0, hb.k1, h.x0, h.x1, hb.pl, hb.pz, hb.il, hb.tl, hb.di⟩ (.inl ⟨rfl, rfl⟩) (.inl ⟨rfl, rfl⟩)
/-- What collect leaves. -/
def Coll (K : Ctx) (w : World) (C : Cfg) (st : Nat) (F : Ps × List Ac) (e : Ending) (w' : World) : Prop :=
  ∃ (r : Int) (C' : Cfg), e = .returned (.int .i64 r) ∧ Sys K w' C' ∧ Fr K w C w' C' ∧
    ((r = 2 ∧ C.j < C'.j ∧ C'.S.s = st ∧ Fe K C' (ended C'.S C'.x).1 (ended C'.S C'.x).2 C'.j = F) ∨
     (r = 1 ∧ C.j < C'.j ∧ Fu K C' { C'.S with s := 7 } C'.j = F) ∨
     (r = 0 ∧ Fu K C' C'.S C'.j = F ∧ C.j ≤ C'.j ∧ (C'.j = K.l.length ∨ C.j < C'.j ∨ C'.S.s = 0)))
set_option maxRecDepth 100000 in
set_option maxHeartbeats 4000000 in
theorem collect_any {K : Ctx} {w : World} {C : Cfg} (hS : Sys K w C) (st : Nat) (hst : st = 4 ∨ st = 5 ∨ st = 6) (F : Ps × List Ac) (hF : Fu K C { C.S with s := st } C.j = F) (hn : F.2.length ≤ 4294967200) :
    Calls Tryd.prog 37 #[ptr K.fb, .string (nm st)] w (Coll K w C st F) := by
  have HF := Lib.hid hF
  clear hF
  go_enter Tryd.func37, Tryd.ntmps37
  go_wp2
  go_loopw [] (fun wr => ∃ C', Sys K wr C' ∧ Fr K w C wr C' ∧ C.j ≤ C'.j ∧ Fu K C' { C'.S with s := st } C'.j = F) (fun wr => K.l.length - (intOf ((wr.cell? ⟨K.fb, 2, none⟩).getD (.int .i64 0))).toNat)
  case atStart => exact ⟨_, hS, Fr.refl _ _ _, Nat.le_refl _, HF.out⟩
  case round =>
    obtain ⟨C', hs, hf, hj, hfu⟩ := hrel
    have q2 : wr.cell? ⟨K.fb, 2, none⟩ = some (.int .i64 C'.j) := hs.fee.cell 2
    have jl := hs.jl
    have ms : ∀ (W : World) (m : Nat), W.cell? ⟨K.fb, 2, none⟩ = some (.int .i64 (m : Int)) → C'.j < m → m ≤ K.l.length → K.l.length - (intOf ((W.cell? ⟨K.fb, 2, none⟩).getD (.int .i64 0))).toNat < K.l.length - (intOf ((wr.cell? ⟨K.fb, 2, none⟩).getD (.int .i64 0))).toNat := by
      intro W m hW h1 h2
      rw [hW, q2]
      simp [intOf]
      omega
    have HM := Lib.hid ms
    have tk := take_any hs st (by omega) F hfu hn
    have HJ := Lib.hid hj
    clear ms hfu hj
    go_wp2_with fail
    refine tk.mono ?_
    rintro e w2 ⟨t, C2, rfl, s2, f2, ⟨rfl, m, u, hm, hjm, hu, hx, hs2, hl, hfu2⟩ | ⟨rfl, hfu2, hj2, hc2⟩⟩
    · have hj3 : C.j < C2.j := by have := HJ.out; omega
      have hfin := final_any s2
      rw [← hs2] at hl
      have hst2 : C2.S.s = 4 ∨ C2.S.s = 5 ∨ C2.S.s = 6 := by rw [hs2]; exact hst
      have hstep := step_head hst2 hl
      have HM2 := Lib.hid hm
      have HX := Lib.hid hx
      have HU := Lib.hid hu
      have HL := Lib.hid hl
      have HF2 := Lib.hid hfu2
      have HS2 := Lib.hid hs2
      have HT := Lib.hid hst2
      have ff := hf.trans f2
      clear hm hx hu hl hfu2 hs2 hst2
      cases hfi : isFin C2.S.k C2.x with
      | true =>
        rw [hfi] at hfin
        have hstep2 : step C2.S u = ended { C2.S with b := (u.toNat : Int) } (u.toNat : Int) := by rw [hstep, if_pos (by rw [← HX.out]; exact hfi)]
        have HE := Lib.hid hstep2
        clear hstep hstep2 hfi
        go_wp2_with fail
        refine hfin.mono ?_
        rintro e w3 ⟨rfl, n, hw3⟩
        have s3 : Sys K w3 C2 := hw3 ▸ s2.drewN n
        have f3 : Fr K w2 C2 w3 C2 := hw3 ▸ Fr.same (p := fun _ => False) ((Kept.refl w2 _).drewN n) fun _ hf => hf.elim
        clear hw3 hfin
        have c0 : w3.cell? ⟨K.fb, 0, none⟩ = some (ptr K.pb) := s3.fee.cell 0
        have c3 : w3.cell? ⟨K.fb, 3, none⟩ = some (.int .u8 C2.x) := s3.fee.cell 3
        have c4 : w3.cell? ⟨K.pb, 4, none⟩ = some (.int .u8 C2.S.b) := s3.P.par.cell 4
        have g4 : w3.frozen? ⟨K.pb, 4, none⟩ = false := s3.P.par.frozen 4
        obtain ⟨s4, f4⟩ := s3.setB
        go_wp2_with fail
        go_region
        go_wp2
        go_ret
        refine ⟨2, _, rfl, s4, (ff.trans f3).trans f4, .inl ⟨rfl, hj3, HS2.out, ?_⟩⟩
        show Fe K _ (ended { C2.S with b := C2.x } C2.x).1 (ended { C2.S with b := C2.x } C2.x).2 C2.j = F
        rw [HX.out, HM2.out]
        exact fe_of HF2.out HU.out (by rw [HE.out]) rfl
      | false =>
        rw [hfi] at hfin
        have hft := fun (w : World) (s : Sys K w C2) => fits_any s
        cases hfs : fits C2.S C2.x with
        | false =>
          simp only [hfs] at hft
          have hstep2 : step C2.S u = ({ C2.S with s := 7 }, []) := by rw [hstep, if_neg (by rw [← HX.out, hfi]; decide), if_neg (by rw [← HX.out, hfs]; decide)]
          have HE := Lib.hid hstep2
          clear hstep hstep2 hfi hfs
          go_wp2_with fail
          refine hfin.mono ?_
          rintro e w3 ⟨rfl, n, hw3⟩
          have s3 : Sys K w3 C2 := hw3 ▸ s2.drewN n
          have f3 : Fr K w2 C2 w3 C2 := hw3 ▸ Fr.same (p := fun _ => False) ((Kept.refl w2 _).drewN n) fun _ hf => hf.elim
          clear hw3 hfin
          go_wp2_with fail
          refine (hft _ s3).mono ?_
          rintro e w4 ⟨rfl, s4, f4⟩
          go_wp2_with fail
          go_ret
          refine ⟨1, _, rfl, s4, (ff.trans f3).trans f4, .inr (.inl ⟨rfl, hj3, ?_⟩)⟩
          rw [HM2.out]
          exact (fu_step HU.out HE.out (List.append_nil _).symm).trans HF2.out
        | true =>
          have had := fun (w : World) (s : Sys K w C2) => add_any s u HX.out hfs (by have := fits_num HT.out HL.out; rw [HX.out]; exact this)
          simp only [hfs] at hft
          have hstep2 : step C2.S u = (add C2.S u, []) := by rw [hstep, if_neg (by rw [← HX.out, hfi]; decide), if_pos (by rw [← HX.out, hfs])]
          have HE := Lib.hid hstep2
          clear hstep hstep2 hfi hfs
          go_wp2_with fail
          refine hfin.mono ?_
          rintro e w3 ⟨rfl, n, hw3⟩
          have s3 : Sys K w3 C2 := hw3 ▸ s2.drewN n
          have f3 : Fr K w2 C2 w3 C2 := hw3 ▸ Fr.same (p := fun _ => False) ((Kept.refl w2 _).drewN n) fun _ hf => hf.elim
          clear hw3 hfin
          go_wp2_with fail
          refine (hft _ s3).mono ?_
          rintro e w4 ⟨rfl, s4, f4⟩
          go_wp2_with fail
          refine (had _ s4).mono ?_
          rintro e w5 ⟨rfl, C5, s5, f5, j5, x5, S5, o5⟩
          have HJ5 := Lib.hid j5
          have HS5 := Lib.hid S5
          have HO5 := Lib.hid o5
          clear j5 x5 S5 o5
          go_wp2
          go_roundw
          case rel =>
            refine ⟨C5, s5, ((ff.trans f3).trans f4).trans f5, by rw [HJ5.out]; omega, ?_⟩
            have e : { C5.S with s := st } = add C2.S u := by
              rw [HS5.out]
              have : (add C2.S u).s = st := by rw [← HS2.out]; unfold add; split <;> rfl
              rw [← this]
            rw [e, HJ5.out, HM2.out]
            exact (fu_step HU.out HE.out HO5.out).trans HF2.out
          case measure => exact HM.out _ C5.j (s5.fee.cell 2) (by rw [HJ5.out, HM2.out]; omega) s5.jl
    · have HC := Lib.hid hc2
      have HF2 := Lib.hid hfu2
      clear hc2 hfu2
      go_wp2_with fail
      go_ret
      refine ⟨0, C2, rfl, s2, hf.trans f2, .inr (.inr ⟨rfl, HF2.out, Nat.le_trans HJ.out hj2, ?_⟩)⟩
      have := HJ.out
      rcases HC.out with h | h | h
      · exact .inl h
      · exact .inr (.inl (by omega))
      · exact .inr (.inr h.2)
end Go.Proofs.YtmhmbeofcedjjaaDoor.Vt
