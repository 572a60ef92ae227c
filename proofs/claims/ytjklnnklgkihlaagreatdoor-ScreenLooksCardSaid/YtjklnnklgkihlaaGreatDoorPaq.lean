/- The walk of a Feed's reading of runes and of strings' texts. -/
import Derived.Test.YtjklnnklgkihlaaGreatDoorPap
import Derived.Deep.RegionHeld3
namespace Go.Proofs.YtjklnnklgkihlaaGreatDoor.Vt
open Go.RowKit
open Cel (Blk Kept Tabs low Owns At)
attribute [local go_sem] Jn.normal Jn.exit Jn.ret Jn.panic

/-- What a reader leaves. -/
def Read (K : Ctx) (w : World) (C : Cfg) (F : Ps × List Ac) (e : Ending) (w' : World) : Prop :=
  e = .returned (.tuple #[]) ∧ ∃ C', Sys K w' C' ∧ Fr K w C w' C' ∧ Fu K C' C'.S C'.j = F ∧ C.j ≤ C'.j ∧ (C'.j = K.l.length ∨ C.j < C'.j ∨ (isHd C.S.s = true ∧ C'.S.s = 0))
theorem step_text {S : Ps} {u : UInt8} (ht : isTx S.s = true) (hl : live S.s (u.toNat : Int)) :
    step S u = if S.s = 1 ∧ (u.toNat : Int) = 7 then (ps0, [act S]) else if S.s = 3 then (S, []) else (put S u, []) := by
  obtain ⟨h1, h2, h3, h4⟩ := hl
  rw [if_pos ht] at h4
  unfold step
  simp only [if_neg (show ¬ ((u.toNat : Int) = 24 ∨ (u.toNat : Int) = 26) by omega), if_neg h3, if_pos ht]
  by_cases h : S.s = 1 ∧ (u.toNat : Int) = 7
  · rw [if_pos h, if_pos h]
  · rw [if_neg h, if_neg h, if_neg (by rcases h4 with h4 | h4; exact h4; exact absurd h4 h)]
theorem step_ground {S : Ps} {u : UInt8} (h0 : S.s = 0) (hl : live S.s (u.toNat : Int)) : step S u = ground S (u.toNat : Int) := by
  obtain ⟨h1, h2, h3, h4⟩ := hl
  have ht : isTx S.s = false := by rw [h0]; rfl
  rw [if_neg (by rw [ht]; decide)] at h4
  obtain ⟨h4, h5, h6⟩ := h4
  unfold step
  simp only [if_neg (show ¬ ((u.toNat : Int) = 24 ∨ (u.toNat : Int) = 26) by omega), if_neg h3, if_neg (show ¬ (isTx S.s = true) by rw [ht]; decide), if_neg h4, if_neg h5, if_neg h6, if_pos h0]
theorem setS_same {S : Ps} {st : Nat} (h : S.s = st) : { S with s := st } = S := by rw [← h]
theorem meas {K : Ctx} {wr W : World} {j m : Nat} (q2 : wr.cell? ⟨K.fb, 2, none⟩ = some (.int .i64 (j : Int))) (hW : W.cell? ⟨K.fb, 2, none⟩ = some (.int .i64 (m : Int))) (h1 : j < m) (h2 : m ≤ K.l.length) :
    K.l.length - (intOf ((W.cell? ⟨K.fb, 2, none⟩).getD (.int .i64 0))).toNat < K.l.length - (intOf ((wr.cell? ⟨K.fb, 2, none⟩).getD (.int .i64 0))).toNat := by
  rw [hW, q2]
  simp [intOf]
  omega
set_option maxRecDepth 100000 in
set_option maxHeartbeats 4000000 in
theorem readText_3 {K : Ctx} {w : World} {C : Cfg} (hS : Sys K w C) (hs : C.S.s = 3) (F : Ps × List Ac) (hF : Fu K C C.S C.j = F) (hn : F.2.length ≤ 4294967200) :
    Calls Tryz.prog 43 #[ptr K.fb] w (Read K w C F) := by
  have c0 : w.cell? ⟨K.fb, 0, none⟩ = some (ptr K.pb) := hS.fee.cell 0
  have p0 : w.cell? ⟨K.pb, 0, none⟩ = some (.string (nm C.S.s)) := hS.P.par.cell 0
  rw [hs, nm3] at p0
  have HF : Hid (Fu K C { C.S with s := 3 } C.j = F) := by show _ = _; rw [setS_same hs]; exact hF
  clear hF
  go_enter Tryz.func43, Tryz.ntmps43
  refine wp_scope_unroll 2 ?_
  go_wp2
  apply wp_goto
  refine Jn.go (by rfl) ?_
  go_wp2
  go_loopw [] (fun wr => ∃ C', Sys K wr C' ∧ Fr K w C wr C' ∧ C.j ≤ C'.j ∧ Fu K C' { C'.S with s := 3 } C'.j = F) (fun wr => K.l.length - (intOf ((wr.cell? ⟨K.fb, 2, none⟩).getD (.int .i64 0))).toNat)
  case atStart => exact ⟨_, hS, Fr.refl _ _ _, Nat.le_refl _, HF.out⟩
  case round =>
    obtain ⟨C', hs', hf, hj, hfu⟩ := hrel
    have q2 : wr.cell? ⟨K.fb, 2, none⟩ = some (.int .i64 C'.j) := hs'.fee.cell 2
    have tk := take_any hs' 3 (by omega) F hfu hn
    rw [nm3] at tk
    have HJ := Lib.hid hj
    clear hfu hj
    go_wp2_with fail
    refine tk.mono ?_
    rintro e w2 ⟨t, C2, rfl, s2, f2, ⟨rfl, m, u, hm, hjm, hu, hx, hs2, hl, hfu2⟩ | ⟨rfl, hfu2, hj2, hc2⟩⟩
    · have hst : step C2.S u = (C2.S, []) := by rw [step_text (by rw [hs2]; rfl) (by rw [hs2]; exact hl), if_neg (by rw [hs2]; omega), if_pos hs2]
      have HF2 : Hid (Fu K C2 { C2.S with s := 3 } C2.j = F) := by show _ = _; rw [setS_same hs2, hm]; exact (fu_step hu hst (List.append_nil _).symm).trans hfu2
      have HJ2 : Hid (C'.j < C2.j) := by show _ < _; omega
      clear hx hu hl hfu2 hs2 hst hm
      go_wp2_with fail
      go_roundw
      case rel => exact ⟨C2, s2, hf.trans f2, Nat.le_of_lt (Nat.lt_of_le_of_lt HJ.out HJ2.out), HF2.out⟩
      case measure => exact meas q2 (s2.fee.cell 2) HJ2.out s2.jl
    · have HC := Lib.hid hc2
      have HF2 := Lib.hid hfu2
      clear hc2 hfu2
      go_wp2_with fail
      go_end0
      refine ⟨rfl, C2, s2, hf.trans f2, HF2.out, Nat.le_trans HJ.out hj2, ?_⟩
      have := HJ.out
      rcases HC.out with h | h | h
      · exact .inl h
      · exact .inr (.inl (by omega))
      · exact absurd h.1 (by decide)
set_option maxRecDepth 100000 in
set_option maxHeartbeats 4000000 in
theorem readText_2 {K : Ctx} {w : World} {C : Cfg} (hS : Sys K w C) (hs : C.S.s = 2) (F : Ps × List Ac) (hF : Fu K C C.S C.j = F) (hn : F.2.length ≤ 4294967200) :
    Calls Tryz.prog 43 #[ptr K.fb] w (Read K w C F) := by
  have c0 : w.cell? ⟨K.fb, 0, none⟩ = some (ptr K.pb) := hS.fee.cell 0
  have p0 : w.cell? ⟨K.pb, 0, none⟩ = some (.string (nm C.S.s)) := hS.P.par.cell 0
  rw [hs, nm2] at p0
  have HF : Hid (Fu K C { C.S with s := 2 } C.j = F) := by show _ = _; rw [setS_same hs]; exact hF
  clear hF
  go_enter Tryz.func43, Tryz.ntmps43
  refine wp_scope_unroll 2 ?_
  go_wp2
  apply wp_goto
  refine Jn.go (by rfl) ?_
  go_wp2
  go_loopw [] (fun wr => ∃ C', Sys K wr C' ∧ Fr K w C wr C' ∧ C.j ≤ C'.j ∧ Fu K C' { C'.S with s := 2 } C'.j = F) (fun wr => K.l.length - (intOf ((wr.cell? ⟨K.fb, 2, none⟩).getD (.int .i64 0))).toNat)
  case atStart => exact ⟨_, hS, Fr.refl _ _ _, Nat.le_refl _, HF.out⟩
  case round =>
    obtain ⟨C', hs', hf, hj, hfu⟩ := hrel
    have q2 : wr.cell? ⟨K.fb, 2, none⟩ = some (.int .i64 C'.j) := hs'.fee.cell 2
    have tk := take_any hs' 2 (by omega) F hfu hn
    rw [nm2] at tk
    have HJ := Lib.hid hj
    clear hfu hj
    go_wp2_with fail
    refine tk.mono ?_
    rintro e w2 ⟨t, C2, rfl, s2, f2, ⟨rfl, m, u, hm, hjm, hu, hx, hs2, hl, hfu2⟩ | ⟨rfl, hfu2, hj2, hc2⟩⟩
    · have hst : step C2.S u = (put C2.S u, []) := by rw [step_text (by rw [hs2]; rfl) (by rw [hs2]; exact hl), if_neg (by rw [hs2]; omega), if_neg (by rw [hs2]; decide)]
      have hps : (put C2.S u).s = 2 := by rw [← hs2]; unfold put; split <;> rfl
      have HPS := Lib.hid hps
      have HF2 := Lib.hid (fun (C3 : Cfg) (h : outs C3.out = outs C2.out ++ []) => (fu_step hu hst h).trans hfu2)
      have HM := Lib.hid hm
      have HJ2 : Hid (C'.j < C2.j) := by show _ < _; omega
      have hp := put_any s2 u hx
      clear hx hu hl hfu2 hs2 hst hm hps
      go_wp2_with fail
      refine hp.mono ?_
      rintro e w5 ⟨rfl, C5, s5, f5, j5, x5, S5, o5⟩
      have HJ5 := Lib.hid j5
      have HS5 := Lib.hid S5
      have HO5 := Lib.hid o5
      clear j5 x5 S5 o5
      go_wp2
      go_roundw
      case rel =>
        refine ⟨C5, s5, (hf.trans f2).trans f5, by rw [HJ5.out]; exact Nat.le_of_lt (Nat.lt_of_le_of_lt HJ.out HJ2.out), ?_⟩
        rw [HS5.out, setS_same HPS.out, HJ5.out, HM.out]
        exact HF2.out C5 HO5.out
      case measure => exact meas q2 (s5.fee.cell 2) (by rw [HJ5.out]; exact HJ2.out) s5.jl
    · have HC := Lib.hid hc2
      have HF2 := Lib.hid hfu2
      clear hc2 hfu2
      go_wp2_with fail
      go_end0
      refine ⟨rfl, C2, s2, hf.trans f2, HF2.out, Nat.le_trans HJ.out hj2, ?_⟩
      have := HJ.out
      rcases HC.out with h | h | h
      · exact .inl h
      · exact .inr (.inl (by omega))
      · exact absurd h.1 (by decide)
end Go.Proofs.YtjklnnklgkihlaaGreatDoor.Vt
/- The walk of a Feed's reading of runes. -/
namespace Go.Proofs.YtjklnnklgkihlaaGreatDoor.Vt
open Go.RowKit
open Cel (Blk Kept Tabs low Owns At)
attribute [local go_sem] Jn.normal Jn.exit Jn.ret Jn.panic

set_option maxRecDepth 100000 in
set_option maxHeartbeats 4000000 in
theorem readText_0 {K : Ctx} {w : World} {C : Cfg} (hS : Sys K w C) (hs : C.S.s = 0) (F : Ps × List Ac) (hF : Fu K C C.S C.j = F) (hn : F.2.length ≤ 4294967200) :
    Calls Tryz.prog 43 #[ptr K.fb] w (Read K w C F) := by
  have c0 : w.cell? ⟨K.fb, 0, none⟩ = some (ptr K.pb) := hS.fee.cell 0
  have p0 : w.cell? ⟨K.pb, 0, none⟩ = some (.string (nm C.S.s)) := hS.P.par.cell 0
  rw [hs, nm0] at p0
  have HF : Hid (Fu K C { C.S with s := 0 } C.j = F) := by show _ = _; rw [setS_same hs]; exact hF
  clear hF
  go_enter Tryz.func43, Tryz.ntmps43
  refine wp_scope_unroll 2 ?_
  go_wp2
  apply wp_label
  go_wp2
  go_loopw [] (fun wr => ∃ C', Sys K wr C' ∧ Fr K w C wr C' ∧ C.j ≤ C'.j ∧ Fu K C' { C'.S with s := 0 } C'.j = F) (fun wr => K.l.length - (intOf ((wr.cell? ⟨K.fb, 2, none⟩).getD (.int .i64 0))).toNat)
  case atStart => exact ⟨_, hS, Fr.refl _ _ _, Nat.le_refl _, HF.out⟩
  case round =>
    obtain ⟨C', hs', hf, hj, hfu⟩ := hrel
    have q2 : wr.cell? ⟨K.fb, 2, none⟩ = some (.int .i64 C'.j) := hs'.fee.cell 2
    have tk := take_any hs' 0 (by omega) F hfu hn
    rw [nm0] at tk
    have HJ := Lib.hid hj
    clear hfu hj
    go_wp2_with fail
    refine tk.mono ?_
    rintro e w2 ⟨t, C2, rfl, s2, f2, ⟨rfl, m, u, hm, hjm, hu, hx, hs2, hl, hfu2⟩ | ⟨rfl, hfu2, hj2, hc2⟩⟩
    · have hst : step C2.S u = ({ C2.S with d := (Cel.step C2.S.d C2.x).1 }, (Cel.step C2.S.d C2.x).2.map prt) := by rw [step_ground hs2 (by rw [hs2]; exact hl), hx]; rfl
      have HF2 := Lib.hid (fun (C3 : Cfg) h => (fu_step (C' := C3) hu hst h).trans hfu2)
      have HM := Lib.hid hm
      have HJ2 : Hid (C'.j < C2.j) := by show _ < _; omega
      have HS2 := Lib.hid hs2
      have hlen : C2.out.length ≤ 4294967200 := Nat.le_trans (fu_len hfu2) hn
      have hcn := Cel.step_count C2.S.d C2.x
      have hpe : Cel.pend C2.S.d ≤ 1 := by unfold Cel.pend; split <;> omega
      have hsd := s2.drew
      have c0 : w2.cell? ⟨K.fb, 0, none⟩ = some (ptr K.pb) := s2.fee.cell 0
      have c3 : w2.cell? ⟨K.fb, 3, none⟩ = some (.int .u8 C2.x) := s2.fee.cell 3
      have c1 : w2.cell? ⟨K.pb, 1, none⟩ = some (ptr K.db) := s2.P.par.cell 1
      have hfd := Cel.feed_any C2.S.d s2.P.bd.di K.db C2.x w2.drew hsd.tabs hsd.P.dec (by have := s2.low; have := hS.fB; have := (s2.lt K.fb (.inr (.inl rfl))).2; have e : w2.drew.heap.size = w2.heap.size := rfl; have := s2.fB; omega) (Nat.le_trans s2.low s2.P.dB) s2.x0 s2.x1
      have hpr := fun (w3 : World) (v : Value) (hb : At w3 K.db (Cel.step C2.S.d C2.x).1) (ho : Owns w3 w2.drew.heap.size v (Cel.step C2.S.d C2.x).2) (hk : Kept w2.drew w3 (fun k => k = K.db)) =>
        print_any ((hsd.setD hk (Cel.step C2.S.d C2.x).1 hb (Cel.step_inv s2.P.bd.di s2.x0 s2.x1).1).1) w2.drew.heap.size v _ ho (by show C2.out.length + _ ≤ _; omega)
      have HD := Lib.hid (fun (w3 : World) (v : Value) (hb : At w3 K.db (Cel.step C2.S.d C2.x).1) (hk : Kept w2.drew w3 (fun k => k = K.db)) => (hsd.setD hk (Cel.step C2.S.d C2.x).1 hb (Cel.step_inv s2.P.bd.di s2.x0 s2.x1).1).2)
      clear hx hu hl hfu2 hs2 hst hm hcn hpe hlen
      go_wp2_with fail
      have e0 : ∀ W : World, Blk W K.fb 95 (feeL K C2).toArray → W.cell? ⟨K.fb, 0, none⟩ = some (ptr K.pb) ∧ W.cell? ⟨K.fb, 3, none⟩ = some (.int .u8 C2.x) := fun W h => ⟨h.cell 0, h.cell 3⟩
      have e1 : ∀ W : World, Blk W K.pb 101 (parL C2.S C2.pv C2.tv K.db).toArray → W.cell? ⟨K.pb, 1, none⟩ = some (ptr K.db) := fun W h => h.cell 1
      have hfe : Blk w2.drew K.fb 95 (feeL K C2).toArray := s2.fee
      have hpa : Blk w2.drew K.pb 101 (parL C2.S C2.pv C2.tv K.db).toArray := s2.P.par
      have nf : ¬ K.fb = K.db := fun e => s2.sep.df e.symm
      have np : ¬ K.pb = K.db := s2.sep.pd
      have E0 := Lib.hid e0
      have E1 := Lib.hid e1
      have HFE := Lib.hid hfe
      have HPA := Lib.hid hpa
      clear e0 e1 hfe hpa
      go_region_held3 (fun W => W.cell? ⟨K.fb, 0, none⟩ = some (ptr K.pb) ∧ W.cell? ⟨K.fb, 3, none⟩ = some (.int .u8 C2.x) ∧ W.cell? ⟨K.pb, 1, none⟩ = some (ptr K.db)) (first | exact ⟨by assumption, by assumption, by assumption⟩)
        (first | (go_at_call 76; refine hfd.mono ?_; rintro e w3 ⟨v3, rfl, hb3, ho3, hk3⟩; obtain ⟨y0, y1⟩ := E0.out _ (hk3.blk HFE.out nf); have y2 := E1.out _ (hk3.blk HPA.out np)) | (go_at_call 75; refine (hpr _ _ hb3 ho3 hk3).mono ?_; rintro e w4 ⟨rfl, ov4, s4, f4⟩; obtain ⟨z0, z1⟩ := E0.out _ s4.fee; have z2 := E1.out _ s4.P.par))
      all_goals
        go_wp2
        go_roundw
        case rel =>
          refine ⟨_, s4, (((hf.trans f2).trans (Fr.same (p := fun _ => False) (Kept.refl w2 _).drew fun _ hf => hf.elim)).trans (HD.out w3 v3 hb3 hk3)).trans f4, Nat.le_of_lt (Nat.lt_of_le_of_lt HJ.out HJ2.out), ?_⟩
          have e : ({ ({ C2.S with d := (Cel.step C2.S.d C2.x).1 } : Ps) with s := 0 } : Ps) = { C2.S with d := (Cel.step C2.S.d C2.x).1 } := setS_same (S := { C2.S with d := (Cel.step C2.S.d C2.x).1 }) HS2.out
          show Fu K _ { ({ C2.S with d := (Cel.step C2.S.d C2.x).1 } : Ps) with s := 0 } C2.j = F
          rw [e, HM.out]
          exact HF2.out _ (by rw [outs_app, outs_prts])
        case measure => exact meas q2 (s4.fee.cell 2) HJ2.out s4.jl
    · have HC := Lib.hid hc2
      have HF2 := Lib.hid hfu2
      clear hc2 hfu2
      go_wp2_with fail
      go_end0
      refine ⟨rfl, C2, s2, hf.trans f2, HF2.out, Nat.le_trans HJ.out hj2, ?_⟩
      have := HJ.out
      rcases HC.out with h | h | h
      · exact .inl h
      · exact .inr (.inl (by omega))
      · exact absurd h.1 (by decide)
end Go.Proofs.YtjklnnklgkihlaaGreatDoor.Vt
/- The walk of a Feed's reading of an OSC's text. -/
namespace Go.Proofs.YtjklnnklgkihlaaGreatDoor.Vt
open Go.RowKit
open Cel (Blk Kept Tabs low Owns At)
attribute [local go_sem] Jn.normal Jn.exit Jn.ret Jn.panic

set_option maxRecDepth 100000 in
set_option maxHeartbeats 4000000 in
theorem readText_1 {K : Ctx} {w : World} {C : Cfg} (hS : Sys K w C) (hs : C.S.s = 1) (F : Ps × List Ac) (hF : Fu K C C.S C.j = F) (hn : F.2.length ≤ 4294967200) :
    Calls Tryz.prog 43 #[ptr K.fb] w (Read K w C F) := by
  have c0 : w.cell? ⟨K.fb, 0, none⟩ = some (ptr K.pb) := hS.fee.cell 0
  have p0 : w.cell? ⟨K.pb, 0, none⟩ = some (.string (nm C.S.s)) := hS.P.par.cell 0
  rw [hs, nm1] at p0
  have HF : Hid (Fu K C { C.S with s := 1 } C.j = F) := by show _ = _; rw [setS_same hs]; exact hF
  clear hF
  go_enter Tryz.func43, Tryz.ntmps43
  refine wp_scope_unroll 2 ?_
  go_wp2
  apply wp_goto
  refine Jn.go (by rfl) ?_
  go_wp2
  go_loopw [] (fun wr => ∃ C', Sys K wr C' ∧ Fr K w C wr C' ∧ C.j ≤ C'.j ∧ Fu K C' { C'.S with s := 1 } C'.j = F) (fun wr => K.l.length - (intOf ((wr.cell? ⟨K.fb, 2, none⟩).getD (.int .i64 0))).toNat)
  case atStart => exact ⟨_, hS, Fr.refl _ _ _, Nat.le_refl _, HF.out⟩
  case round =>
    obtain ⟨C', hs', hf, hj, hfu⟩ := hrel
    have q2 : wr.cell? ⟨K.fb, 2, none⟩ = some (.int .i64 C'.j) := hs'.fee.cell 2
    have tk := take_any hs' 1 (by omega) F hfu hn
    rw [nm1] at tk
    have HJ := Lib.hid hj
    clear hfu hj
    go_wp2_with fail
    refine tk.mono ?_
    rintro e w2 ⟨t, C2, rfl, s2, f2, ⟨rfl, m, u, hm, hjm, hu, hx, hs2, hl, hfu2⟩ | ⟨rfl, hfu2, hj2, hc2⟩⟩
    · have c3 : w2.cell? ⟨K.fb, 3, none⟩ = some (.int .u8 C2.x) := s2.fee.cell 3
      have hlen : C2.out.length ≤ 4294967200 := Nat.le_trans (fu_len hfu2) hn
      have hst0 := step_text (S := C2.S) (u := u) (by rw [hs2]; rfl) (by rw [hs2]; exact hl)
      have HM := Lib.hid hm
      have HJ2 : Hid (C'.j < C2.j) := by show _ < _; omega
      by_cases h7 : C2.x = 7
      · have hst : step C2.S u = (ps0, [act C2.S]) := by rw [hst0, if_pos ⟨hs2, by rw [← hx]; exact h7⟩]
        have HF2 := Lib.hid (fun (C3 : Cfg) h => (fu_step (C' := C3) hu hst h).trans hfu2)
        have e7 : (C2.x == 7) = true := by simp [h7]
        have ht := tellBegun_left s2 (by omega)
        clear hx hu hl hfu2 hs2 hst hst0 hm hlen h7 tk q2
        go_wp2_with fail
        refine ht.mono ?_
        rintro e w5 ⟨rfl, C5, s5, f5, j5, x5, S5, o5⟩
        have HG : Hid (C.j < C5.j) := by show _ < _; rw [j5]; exact Nat.lt_of_le_of_lt HJ.out HJ2.out
        have HF : Hid (Fu K C5 { C5.S with s := 0 } C5.j = F) := by show _ = _; rw [S5, setS_same (show ps0.s = 0 from rfl), j5, HM.out]; exact HF2.out C5 o5
        have ff := ((hf.trans f2).trans f5)
        clear j5 x5 S5 o5 HF2 HM HJ2 HJ c3 ht
        go_wp2_with fail
        apply wp_goto
        refine Jn.go (by rfl) ?_
        go_wp2
        go_loopw [] (fun wr => ∃ C', Sys K wr C' ∧ Fr K w C wr C' ∧ C.j ≤ C'.j ∧ Fu K C' { C'.S with s := 0 } C'.j = F) (fun wr => K.l.length - (intOf ((wr.cell? ⟨K.fb, 2, none⟩).getD (.int .i64 0))).toNat)
        case atStart => exact ⟨C5, s5, ff, Nat.le_of_lt HG.out, HF.out⟩
        case round =>
          obtain ⟨C', hs', hf, hj, hfu⟩ := hrel
          have q2 : wr.cell? ⟨K.fb, 2, none⟩ = some (.int .i64 C'.j) := hs'.fee.cell 2
          have tk := take_any hs' 0 (by omega) F hfu hn
          rw [nm0] at tk
          have HJ := Lib.hid hj
          clear hfu hj
          go_wp2_with fail
          refine tk.mono ?_
          rintro e w2 ⟨t, C2, rfl, s2, f2, ⟨rfl, m, u, hm, hjm, hu, hx, hs2, hl, hfu2⟩ | ⟨rfl, hfu2, hj2, hc2⟩⟩
          · have hst : step C2.S u = ({ C2.S with d := (Cel.step C2.S.d C2.x).1 }, (Cel.step C2.S.d C2.x).2.map prt) := by rw [step_ground hs2 (by rw [hs2]; exact hl), hx]; rfl
            have HF2 := Lib.hid (fun (C3 : Cfg) h => (fu_step (C' := C3) hu hst h).trans hfu2)
            have HM := Lib.hid hm
            have HJ2 : Hid (C'.j < C2.j) := by show _ < _; omega
            have HS2 := Lib.hid hs2
            have hlen : C2.out.length ≤ 4294967200 := Nat.le_trans (fu_len hfu2) hn
            have hcn := Cel.step_count C2.S.d C2.x
            have hpe : Cel.pend C2.S.d ≤ 1 := by unfold Cel.pend; split <;> omega
            have hsd := s2.drew
            have c0 : w2.cell? ⟨K.fb, 0, none⟩ = some (ptr K.pb) := s2.fee.cell 0
            have c3 : w2.cell? ⟨K.fb, 3, none⟩ = some (.int .u8 C2.x) := s2.fee.cell 3
            have c1 : w2.cell? ⟨K.pb, 1, none⟩ = some (ptr K.db) := s2.P.par.cell 1
            have hfd := Cel.feed_any C2.S.d s2.P.bd.di K.db C2.x w2.drew hsd.tabs hsd.P.dec (by have := s2.low; have := hS.fB; have := (s2.lt K.fb (.inr (.inl rfl))).2; have e : w2.drew.heap.size = w2.heap.size := rfl; have := s2.fB; omega) (Nat.le_trans s2.low s2.P.dB) s2.x0 s2.x1
            have hpr := fun (w3 : World) (v : Value) (hb : At w3 K.db (Cel.step C2.S.d C2.x).1) (ho : Owns w3 w2.drew.heap.size v (Cel.step C2.S.d C2.x).2) (hk : Kept w2.drew w3 (fun k => k = K.db)) =>
              print_any ((hsd.setD hk (Cel.step C2.S.d C2.x).1 hb (Cel.step_inv s2.P.bd.di s2.x0 s2.x1).1).1) w2.drew.heap.size v _ ho (by show C2.out.length + _ ≤ _; omega)
            have HD := Lib.hid (fun (w3 : World) (v : Value) (hb : At w3 K.db (Cel.step C2.S.d C2.x).1) (hk : Kept w2.drew w3 (fun k => k = K.db)) => (hsd.setD hk (Cel.step C2.S.d C2.x).1 hb (Cel.step_inv s2.P.bd.di s2.x0 s2.x1).1).2)
            clear hx hu hl hfu2 hs2 hst hm hcn hpe hlen
            go_wp2_with fail
            have e0 : ∀ W : World, Blk W K.fb 95 (feeL K C2).toArray → W.cell? ⟨K.fb, 0, none⟩ = some (ptr K.pb) ∧ W.cell? ⟨K.fb, 3, none⟩ = some (.int .u8 C2.x) := fun W h => ⟨h.cell 0, h.cell 3⟩
            have e1 : ∀ W : World, Blk W K.pb 101 (parL C2.S C2.pv C2.tv K.db).toArray → W.cell? ⟨K.pb, 1, none⟩ = some (ptr K.db) := fun W h => h.cell 1
            have hfe : Blk w2.drew K.fb 95 (feeL K C2).toArray := s2.fee
            have hpa : Blk w2.drew K.pb 101 (parL C2.S C2.pv C2.tv K.db).toArray := s2.P.par
            have nf : ¬ K.fb = K.db := fun e => s2.sep.df e.symm
            have np : ¬ K.pb = K.db := s2.sep.pd
            have E0 := Lib.hid e0
            have E1 := Lib.hid e1
            have HFE := Lib.hid hfe
            have HPA := Lib.hid hpa
            clear e0 e1 hfe hpa
            go_region_held3 (fun W => W.cell? ⟨K.fb, 0, none⟩ = some (ptr K.pb) ∧ W.cell? ⟨K.fb, 3, none⟩ = some (.int .u8 C2.x) ∧ W.cell? ⟨K.pb, 1, none⟩ = some (ptr K.db)) (first | exact ⟨by assumption, by assumption, by assumption⟩)
              (first | (go_at_call 76; refine hfd.mono ?_; rintro e w3 ⟨v3, rfl, hb3, ho3, hk3⟩; obtain ⟨y0, y1⟩ := E0.out _ (hk3.blk HFE.out nf); have y2 := E1.out _ (hk3.blk HPA.out np)) | (go_at_call 75; refine (hpr _ _ hb3 ho3 hk3).mono ?_; rintro e w4 ⟨rfl, ov4, s4, f4⟩; obtain ⟨z0, z1⟩ := E0.out _ s4.fee; have z2 := E1.out _ s4.P.par))
            all_goals
              go_wp2
              go_roundw
              case rel =>
                refine ⟨_, s4, (((hf.trans f2).trans (Fr.same (p := fun _ => False) (Kept.refl w2 _).drew fun _ hf => hf.elim)).trans (HD.out w3 v3 hb3 hk3)).trans f4, Nat.le_of_lt (Nat.lt_of_le_of_lt HJ.out HJ2.out), ?_⟩
                have e : ({ ({ C2.S with d := (Cel.step C2.S.d C2.x).1 } : Ps) with s := 0 } : Ps) = { C2.S with d := (Cel.step C2.S.d C2.x).1 } := setS_same (S := { C2.S with d := (Cel.step C2.S.d C2.x).1 }) HS2.out
                show Fu K _ { ({ C2.S with d := (Cel.step C2.S.d C2.x).1 } : Ps) with s := 0 } C2.j = F
                rw [e, HM.out]
                exact HF2.out _ (by rw [outs_app, outs_prts])
              case measure => exact meas q2 (s4.fee.cell 2) HJ2.out s4.jl
          · have HC := Lib.hid hc2
            have HF2 := Lib.hid hfu2
            clear hc2 hfu2
            go_wp2_with fail
            go_end0
            refine ⟨rfl, C2, s2, hf.trans f2, HF2.out, Nat.le_trans HJ.out hj2, ?_⟩
            have := HJ.out
            rcases HC.out with h | h | h
            · exact .inl h
            · exact .inr (.inl (by omega))
            · exact absurd h.1 (by decide)
      · have hst : step C2.S u = (put C2.S u, []) := by rw [hst0, if_neg (by rw [← hx]; exact fun h => h7 h.2), if_neg (by rw [hs2]; decide)]
        have hps : (put C2.S u).s = 1 := by rw [← hs2]; unfold put; split <;> rfl
        have HPS := Lib.hid hps
        have HF2 := Lib.hid (fun (C3 : Cfg) (h : outs C3.out = outs C2.out ++ []) => (fu_step hu hst h).trans hfu2)
        have hp := put_any s2 u hx
        have e7 : (C2.x == 7) = false := by simp [h7]
        clear hx hu hl hfu2 hs2 hst hst0 hm hps hlen h7
        go_wp2_with fail
        refine hp.mono ?_
        rintro e w5 ⟨rfl, C5, s5, f5, j5, x5, S5, o5⟩
        have HJ5 := Lib.hid j5
        have HS5 := Lib.hid S5
        have HO5 := Lib.hid o5
        clear j5 x5 S5 o5
        go_wp2
        go_roundw
        case rel =>
          refine ⟨C5, s5, (hf.trans f2).trans f5, by rw [HJ5.out]; exact Nat.le_of_lt (Nat.lt_of_le_of_lt HJ.out HJ2.out), ?_⟩
          rw [HS5.out, setS_same HPS.out, HJ5.out, HM.out]
          exact HF2.out C5 HO5.out
        case measure => exact meas q2 (s5.fee.cell 2) (by rw [HJ5.out]; exact HJ2.out) s5.jl
    · have HC := Lib.hid hc2
      have HF2 := Lib.hid hfu2
      clear hc2 hfu2
      go_wp2_with fail
      go_end0
      refine ⟨rfl, C2, s2, hf.trans f2, HF2.out, Nat.le_trans HJ.out hj2, ?_⟩
      have := HJ.out
      rcases HC.out with h | h | h
      · exact .inl h
      · exact .inr (.inl (by omega))
      · exact absurd h.1 (by decide)
theorem readText_any {K : Ctx} {w : World} {C : Cfg} (hS : Sys K w C) (hs : isHd C.S.s = false) (F : Ps × List Ac) (hF : Fu K C C.S C.j = F) (hn : F.2.length ≤ 4294967200) :
    Calls Tryz.prog 43 #[ptr K.fb] w (Read K w C F) := by
  rcases s8 hS.P.bd.s1 with h | h | h | h | h | h | h | h
  · exact readText_0 hS h F hF hn
  · exact readText_1 hS h F hF hn
  · exact readText_2 hS h F hF hn
  · exact readText_3 hS h F hF hn
  all_goals
    rw [h] at hs
    exact absurd hs (by decide)
end Go.Proofs.YtjklnnklgkihlaaGreatDoor.Vt
/- The walk of a Feed's reading of heads. -/
namespace Go.Proofs.YtjklnnklgkihlaaGreatDoor.Vt
open Go.RowKit
open Cel (Blk Kept Tabs low Owns At)
attribute [local go_sem] Jn.normal Jn.exit Jn.ret Jn.panic

set_option maxRecDepth 100000 in
set_option maxHeartbeats 4000000 in
theorem readHead_7 {K : Ctx} {w : World} {C : Cfg} (hS : Sys K w C) (hs : C.S.s = 7) (F : Ps × List Ac) (hF : Fu K C C.S C.j = F) (hn : F.2.length ≤ 4294967200) :
    Calls Tryz.prog 42 #[ptr K.fb] w (Read K w C F) := by
  have c0 : w.cell? ⟨K.fb, 0, none⟩ = some (ptr K.pb) := hS.fee.cell 0
  have p0 : w.cell? ⟨K.pb, 0, none⟩ = some (.string (nm C.S.s)) := hS.P.par.cell 0
  rw [hs, nm7] at p0
  have HF0 : Hid (Fu K C { C.S with s := 7 } C.j = F) := by show _ = _; rw [setS_same hs]; exact hF
  have HHD : Hid (isHd C.S.s = true) := by show _ = _; rw [hs]; rfl
  clear hF
  obtain ⟨C5, hC5⟩ : ∃ C5, C5 = C := ⟨_, rfl⟩
  have s5 : Sys K w C5 := hC5 ▸ hS
  have ff : Fr K w C w C5 := hC5 ▸ Fr.refl K w C
  have HG : Hid (C.j ≤ C5.j) := by show _ ≤ _; rw [hC5]; exact Nat.le_refl _
  have HF : Hid (Fu K C5 { C5.S with s := 7 } C5.j = F) := by rw [hC5]; exact HF0
  clear hC5 HF0
  go_enter Tryz.func42, Tryz.ntmps42
  refine wp_scope_unroll 3 ?_
  go_wp2
  apply wp_goto
  refine Jn.go (by rfl) ?_
  go_wp2
  go_loopw [] (fun wr => ∃ C', Sys K wr C' ∧ Fr K w C wr C' ∧ C.j ≤ C'.j ∧ Fu K C' { C'.S with s := 7 } C'.j = F) (fun wr => K.l.length - (intOf ((wr.cell? ⟨K.fb, 2, none⟩).getD (.int .i64 0))).toNat)
  case atStart => exact ⟨C5, s5, ff, HG.out, HF.out⟩
  case round =>
    obtain ⟨C', hs', hf, hj, hfu⟩ := hrel
    have q2 : wr.cell? ⟨K.fb, 2, none⟩ = some (.int .i64 C'.j) := hs'.fee.cell 2
    have tk := take_any hs' 7 (by omega) F hfu hn
    rw [nm7] at tk
    have HJ := Lib.hid hj
    clear hfu hj
    go_wp2_with fail
    refine tk.mono ?_
    rintro e w2 ⟨t, C2, rfl, s2, f2, ⟨rfl, m, u, hm, hjm, hu, hx, hs2, hl, hfu2⟩ | ⟨rfl, hfu2, hj2, hc2⟩⟩
    · have hfin := final_any s2
      have hst0 := step_ign (S := C2.S) (u := u) hs2 (by rw [hs2]; exact hl)
      rw [← hx] at hst0
      have HM := Lib.hid hm
      have HJ2 : Hid (C'.j < C2.j) := by show _ < _; omega
      have HS2 := Lib.hid hs2
      cases hfi : isFin C2.S.k C2.x with
      | true =>
        rw [hfi] at hfin
        have hst : step C2.S u = (ign C2.S, []) := by rw [hst0, if_pos hfi]; rfl
        have HF2 := Lib.hid (fun (C3 : Cfg) h => (fu_step (C' := C3) hu hst h).trans hfu2)
        clear hx hu hl hfu2 hs2 hst hst0 hm hfi tk q2
        go_wp2_with fail
        refine hfin.mono ?_
        rintro e w3 ⟨rfl, n, hw3⟩
        have s3 : Sys K w3 C2 := hw3 ▸ s2.drewN n
        have f3 : Fr K w2 C2 w3 C2 := hw3 ▸ Fr.same (p := fun _ => False) ((Kept.refl w2 _).drewN n) fun _ hf => hf.elim
        clear hw3 hfin
        have hen := endIgnored_any s3
        go_wp2_with fail
        refine hen.mono ?_
        rintro e w5 ⟨rfl, C5, s5, f5, j5, x5, S5, o5⟩
        have HJ5 := Lib.hid j5
        have HS5 := Lib.hid S5
        have HO5 := Lib.hid o5
        clear j5 x5 S5 o5
        go_wp2
        go_end0
        refine ⟨rfl, C5, s5, ((hf.trans f2).trans f3).trans f5, ?_, ?_, .inr (.inl ?_)⟩
        · rw [HS5.out, HJ5.out, HM.out]; exact HF2.out C5 HO5.out
        · rw [HJ5.out]; exact Nat.le_of_lt (Nat.lt_of_le_of_lt HJ.out HJ2.out)
        · rw [HJ5.out]; exact Nat.lt_of_le_of_lt HJ.out HJ2.out
      | false =>
        rw [hfi] at hfin
        have hst : step C2.S u = (C2.S, []) := by rw [hst0, if_neg (by rw [hfi]; decide)]
        have HF2 := Lib.hid (fun (C3 : Cfg) h => (fu_step (C' := C3) hu hst h).trans hfu2)
        clear hx hu hl hfu2 hs2 hst hst0 hm hfi tk
        go_wp2_with fail
        refine hfin.mono ?_
        rintro e w3 ⟨rfl, n, hw3⟩
        have s3 : Sys K w3 C2 := hw3 ▸ s2.drewN n
        have f3 : Fr K w2 C2 w3 C2 := hw3 ▸ Fr.same (p := fun _ => False) ((Kept.refl w2 _).drewN n) fun _ hf => hf.elim
        clear hw3 hfin
        go_wp2
        go_roundw
        case rel =>
          refine ⟨C2, s3, (hf.trans f2).trans f3, Nat.le_of_lt (Nat.lt_of_le_of_lt HJ.out HJ2.out), ?_⟩
          rw [setS_same HS2.out, HM.out]
          exact HF2.out C2 (List.append_nil _).symm
        case measure => exact meas q2 (s3.fee.cell 2) HJ2.out s3.jl
    · have HC := Lib.hid hc2
      have HF2 := Lib.hid hfu2
      clear hc2 hfu2
      go_wp2_with fail
      go_end0
      refine ⟨rfl, C2, s2, hf.trans f2, HF2.out, Nat.le_trans HJ.out hj2, ?_⟩
      have := HJ.out
      rcases HC.out with h | h | h
      · exact .inl h
      · exact .inr (.inl (by omega))
      · exact .inr (.inr ⟨HHD.out, h.2⟩)
set_option maxRecDepth 100000 in
set_option maxHeartbeats 4000000 in
theorem readHead_5 {K : Ctx} {w : World} {C : Cfg} (hS : Sys K w C) (hs : C.S.s = 5) (F : Ps × List Ac) (hF : Fu K C C.S C.j = F) (hn : F.2.length ≤ 4294967200) :
    Calls Tryz.prog 42 #[ptr K.fb] w (Read K w C F) := by
  have c0 : w.cell? ⟨K.fb, 0, none⟩ = some (ptr K.pb) := hS.fee.cell 0
  have p0 : w.cell? ⟨K.pb, 0, none⟩ = some (.string (nm C.S.s)) := hS.P.par.cell 0
  rw [hs, nm5] at p0
  have HF0 : Hid (Fu K C { C.S with s := 5 } C.j = F) := by show _ = _; rw [setS_same hs]; exact hF
  have HHD : Hid (isHd C.S.s = true) := by show _ = _; rw [hs]; rfl
  clear hF
  obtain ⟨C5, hC5⟩ : ∃ C5, C5 = C := ⟨_, rfl⟩
  have s5 : Sys K w C5 := hC5 ▸ hS
  have ff : Fr K w C w C5 := hC5 ▸ Fr.refl K w C
  have HG : Hid (C.j ≤ C5.j) := by show _ ≤ _; rw [hC5]; exact Nat.le_refl _
  have HF : Hid (Fu K C5 { C5.S with s := 5 } C5.j = F) := by rw [hC5]; exact HF0
  clear hC5 HF0
  go_enter Tryz.func42, Tryz.ntmps42
  refine wp_scope_unroll 3 ?_
  go_wp2
  apply wp_goto
  refine Jn.go (by rfl) ?_
  have ck := collect_any s5 5 (by omega) F HF.out hn
  rw [nm5] at ck
  go_wp2_with fail
  refine ck.mono ?_
  rintro e w6 ⟨r, C6, rfl, s6, f6, ⟨rfl, hj6, hs6, hf6⟩ | ⟨rfl, hj6, hf6⟩ | ⟨rfl, hf6, hj6, hc6⟩⟩
  · clear ck HF
    have he : ended C6.S C6.x = (ps0, [act C6.S]) := by unfold ended; rw [if_neg (by rw [hs6]; decide), if_pos hs6]
    rw [he] at hf6
    have hl6 := fe_len hf6
    have ht := tellBegun_left s6 (by simp at hl6; omega)
    have HF6 := Lib.hid hf6
    have HG6 : Hid (C.j < C6.j) := by show _ < _; exact Nat.lt_of_le_of_lt HG.out hj6
    clear hf6 hj6 hs6 he hl6
    go_wp2_with fail
    refine ht.mono ?_
    rintro e w7 ⟨rfl, C7, s7, f7, j7, x7, S7, o7⟩
    have HF7 : Hid (Fu K C7 C7.S C7.j = F) := by show _ = _; rw [S7, j7]; exact fe_end HF6.out o7
    have HJ7 : Hid (C.j < C7.j) := by show _ < _; rw [j7]; exact HG6.out
    clear j7 x7 S7 o7
    go_wp2
    go_end0
    exact ⟨rfl, C7, s7, (ff.trans f6).trans f7, HF7.out, Nat.le_of_lt HJ7.out, .inr (.inl HJ7.out)⟩
  · clear ck HF
    have HG : Hid (C.j ≤ C6.j) := by show _ ≤ _; exact Nat.le_of_lt (Nat.lt_of_le_of_lt HG.out hj6)
    have HF := Lib.hid hf6
    have ff := ff.trans f6
    clear hj6 hf6 f6
    generalize C6 = C5 at *
    rename Sys K w6 C5 => s5
    go_wp2
    apply wp_goto
    refine Jn.go (by rfl) ?_
    go_wp2
    go_loopw [] (fun wr => ∃ C', Sys K wr C' ∧ Fr K w C wr C' ∧ C.j ≤ C'.j ∧ Fu K C' { C'.S with s := 7 } C'.j = F) (fun wr => K.l.length - (intOf ((wr.cell? ⟨K.fb, 2, none⟩).getD (.int .i64 0))).toNat)
    case atStart => exact ⟨C5, s5, ff, HG.out, HF.out⟩
    case round =>
      obtain ⟨C', hs', hf, hj, hfu⟩ := hrel
      have q2 : wr.cell? ⟨K.fb, 2, none⟩ = some (.int .i64 C'.j) := hs'.fee.cell 2
      have tk := take_any hs' 7 (by omega) F hfu hn
      rw [nm7] at tk
      have HJ := Lib.hid hj
      clear hfu hj
      go_wp2_with fail
      refine tk.mono ?_
      rintro e w2 ⟨t, C2, rfl, s2, f2, ⟨rfl, m, u, hm, hjm, hu, hx, hs2, hl, hfu2⟩ | ⟨rfl, hfu2, hj2, hc2⟩⟩
      · have hfin := final_any s2
        have hst0 := step_ign (S := C2.S) (u := u) hs2 (by rw [hs2]; exact hl)
        rw [← hx] at hst0
        have HM := Lib.hid hm
        have HJ2 : Hid (C'.j < C2.j) := by show _ < _; omega
        have HS2 := Lib.hid hs2
        cases hfi : isFin C2.S.k C2.x with
        | true =>
          rw [hfi] at hfin
          have hst : step C2.S u = (ign C2.S, []) := by rw [hst0, if_pos hfi]; rfl
          have HF2 := Lib.hid (fun (C3 : Cfg) h => (fu_step (C' := C3) hu hst h).trans hfu2)
          clear hx hu hl hfu2 hs2 hst hst0 hm hfi tk q2
          go_wp2_with fail
          refine hfin.mono ?_
          rintro e w3 ⟨rfl, n, hw3⟩
          have s3 : Sys K w3 C2 := hw3 ▸ s2.drewN n
          have f3 : Fr K w2 C2 w3 C2 := hw3 ▸ Fr.same (p := fun _ => False) ((Kept.refl w2 _).drewN n) fun _ hf => hf.elim
          clear hw3 hfin
          have hen := endIgnored_any s3
          go_wp2_with fail
          refine hen.mono ?_
          rintro e w5 ⟨rfl, C5, s5, f5, j5, x5, S5, o5⟩
          have HJ5 := Lib.hid j5
          have HS5 := Lib.hid S5
          have HO5 := Lib.hid o5
          clear j5 x5 S5 o5
          go_wp2
          go_end0
          refine ⟨rfl, C5, s5, ((hf.trans f2).trans f3).trans f5, ?_, ?_, .inr (.inl ?_)⟩
          · rw [HS5.out, HJ5.out, HM.out]; exact HF2.out C5 HO5.out
          · rw [HJ5.out]; exact Nat.le_of_lt (Nat.lt_of_le_of_lt HJ.out HJ2.out)
          · rw [HJ5.out]; exact Nat.lt_of_le_of_lt HJ.out HJ2.out
        | false =>
          rw [hfi] at hfin
          have hst : step C2.S u = (C2.S, []) := by rw [hst0, if_neg (by rw [hfi]; decide)]
          have HF2 := Lib.hid (fun (C3 : Cfg) h => (fu_step (C' := C3) hu hst h).trans hfu2)
          clear hx hu hl hfu2 hs2 hst hst0 hm hfi tk
          go_wp2_with fail
          refine hfin.mono ?_
          rintro e w3 ⟨rfl, n, hw3⟩
          have s3 : Sys K w3 C2 := hw3 ▸ s2.drewN n
          have f3 : Fr K w2 C2 w3 C2 := hw3 ▸ Fr.same (p := fun _ => False) ((Kept.refl w2 _).drewN n) fun _ hf => hf.elim
          clear hw3 hfin
          go_wp2
          go_roundw
          case rel =>
            refine ⟨C2, s3, (hf.trans f2).trans f3, Nat.le_of_lt (Nat.lt_of_le_of_lt HJ.out HJ2.out), ?_⟩
            rw [setS_same HS2.out, HM.out]
            exact HF2.out C2 (List.append_nil _).symm
          case measure => exact meas q2 (s3.fee.cell 2) HJ2.out s3.jl
      · have HC := Lib.hid hc2
        have HF2 := Lib.hid hfu2
        clear hc2 hfu2
        go_wp2_with fail
        go_end0
        refine ⟨rfl, C2, s2, hf.trans f2, HF2.out, Nat.le_trans HJ.out hj2, ?_⟩
        have := HJ.out
        rcases HC.out with h | h | h
        · exact .inl h
        · exact .inr (.inl (by omega))
        · exact .inr (.inr ⟨HHD.out, h.2⟩)
  · clear ck HF
    have HC := Lib.hid hc6
    have HF2 := Lib.hid hf6
    have HJ6 := Lib.hid hj6
    clear hc6 hf6 hj6
    go_wp2
    go_end0
    refine ⟨rfl, C6, s6, ff.trans f6, HF2.out, Nat.le_trans HG.out HJ6.out, ?_⟩
    have := HG.out
    rcases HC.out with h | h | h
    · exact .inl h
    · exact .inr (.inl (by omega))
    · exact .inr (.inr ⟨HHD.out, h⟩)
set_option maxRecDepth 100000 in
set_option maxHeartbeats 4000000 in
theorem readHead_6 {K : Ctx} {w : World} {C : Cfg} (hS : Sys K w C) (hs : C.S.s = 6) (F : Ps × List Ac) (hF : Fu K C C.S C.j = F) (hn : F.2.length ≤ 4294967200) :
    Calls Tryz.prog 42 #[ptr K.fb] w (Read K w C F) := by
  have c0 : w.cell? ⟨K.fb, 0, none⟩ = some (ptr K.pb) := hS.fee.cell 0
  have p0 : w.cell? ⟨K.pb, 0, none⟩ = some (.string (nm C.S.s)) := hS.P.par.cell 0
  rw [hs, nm6] at p0
  have HF0 : Hid (Fu K C { C.S with s := 6 } C.j = F) := by show _ = _; rw [setS_same hs]; exact hF
  have HHD : Hid (isHd C.S.s = true) := by show _ = _; rw [hs]; rfl
  clear hF
  obtain ⟨C5, hC5⟩ : ∃ C5, C5 = C := ⟨_, rfl⟩
  have s5 : Sys K w C5 := hC5 ▸ hS
  have ff : Fr K w C w C5 := hC5 ▸ Fr.refl K w C
  have HG : Hid (C.j ≤ C5.j) := by show _ ≤ _; rw [hC5]; exact Nat.le_refl _
  have HF : Hid (Fu K C5 { C5.S with s := 6 } C5.j = F) := by rw [hC5]; exact HF0
  clear hC5 HF0
  go_enter Tryz.func42, Tryz.ntmps42
  refine wp_scope_unroll 3 ?_
  go_wp2
  apply wp_goto
  refine Jn.go (by rfl) ?_
  have ck := collect_any s5 6 (by omega) F HF.out hn
  rw [nm6] at ck
  go_wp2_with fail
  refine ck.mono ?_
  rintro e w6 ⟨r, C6, rfl, s6, f6, ⟨rfl, hj6, hs6, hf6⟩ | ⟨rfl, hj6, hf6⟩ | ⟨rfl, hf6, hj6, hc6⟩⟩
  · clear ck HF
    have he : ended C6.S C6.x = ({ C6.S with s := 2 }, []) := by unfold ended; rw [if_neg (by rw [hs6]; decide), if_neg (by rw [hs6]; decide)]
    rw [he] at hf6
    have HF6 := Lib.hid hf6
    have HG6 : Hid (C.j < C6.j) := by show _ < _; exact Nat.lt_of_le_of_lt HG.out hj6
    clear hf6 hj6 hs6 he
    have d0 : w6.cell? ⟨K.fb, 0, none⟩ = some (ptr K.pb) := s6.fee.cell 0
    have d1 : w6.cell? ⟨K.pb, 0, none⟩ = some (.string (nm C6.S.s)) := s6.P.par.cell 0
    have d2 : w6.frozen? ⟨K.pb, 0, none⟩ = false := s6.P.par.frozen 0
    obtain ⟨s7, f7⟩ := s6.setS 2 (by omega)
    rw [nm2] at s7 f7
    go_wp2
    go_end0
    exact ⟨rfl, _, s7, (ff.trans f6).trans f7, fe_end HF6.out (List.append_nil _).symm, Nat.le_of_lt HG6.out, .inr (.inl HG6.out)⟩
  · clear ck HF
    have HG : Hid (C.j ≤ C6.j) := by show _ ≤ _; exact Nat.le_of_lt (Nat.lt_of_le_of_lt HG.out hj6)
    have HF := Lib.hid hf6
    have ff := ff.trans f6
    clear hj6 hf6 f6
    generalize C6 = C5 at *
    rename Sys K w6 C5 => s5
    go_wp2
    apply wp_goto
    refine Jn.go (by rfl) ?_
    go_wp2
    go_loopw [] (fun wr => ∃ C', Sys K wr C' ∧ Fr K w C wr C' ∧ C.j ≤ C'.j ∧ Fu K C' { C'.S with s := 7 } C'.j = F) (fun wr => K.l.length - (intOf ((wr.cell? ⟨K.fb, 2, none⟩).getD (.int .i64 0))).toNat)
    case atStart => exact ⟨C5, s5, ff, HG.out, HF.out⟩
    case round =>
      obtain ⟨C', hs', hf, hj, hfu⟩ := hrel
      have q2 : wr.cell? ⟨K.fb, 2, none⟩ = some (.int .i64 C'.j) := hs'.fee.cell 2
      have tk := take_any hs' 7 (by omega) F hfu hn
      rw [nm7] at tk
      have HJ := Lib.hid hj
      clear hfu hj
      go_wp2_with fail
      refine tk.mono ?_
      rintro e w2 ⟨t, C2, rfl, s2, f2, ⟨rfl, m, u, hm, hjm, hu, hx, hs2, hl, hfu2⟩ | ⟨rfl, hfu2, hj2, hc2⟩⟩
      · have hfin := final_any s2
        have hst0 := step_ign (S := C2.S) (u := u) hs2 (by rw [hs2]; exact hl)
        rw [← hx] at hst0
        have HM := Lib.hid hm
        have HJ2 : Hid (C'.j < C2.j) := by show _ < _; omega
        have HS2 := Lib.hid hs2
        cases hfi : isFin C2.S.k C2.x with
        | true =>
          rw [hfi] at hfin
          have hst : step C2.S u = (ign C2.S, []) := by rw [hst0, if_pos hfi]; rfl
          have HF2 := Lib.hid (fun (C3 : Cfg) h => (fu_step (C' := C3) hu hst h).trans hfu2)
          clear hx hu hl hfu2 hs2 hst hst0 hm hfi tk q2
          go_wp2_with fail
          refine hfin.mono ?_
          rintro e w3 ⟨rfl, n, hw3⟩
          have s3 : Sys K w3 C2 := hw3 ▸ s2.drewN n
          have f3 : Fr K w2 C2 w3 C2 := hw3 ▸ Fr.same (p := fun _ => False) ((Kept.refl w2 _).drewN n) fun _ hf => hf.elim
          clear hw3 hfin
          have hen := endIgnored_any s3
          go_wp2_with fail
          refine hen.mono ?_
          rintro e w5 ⟨rfl, C5, s5, f5, j5, x5, S5, o5⟩
          have HJ5 := Lib.hid j5
          have HS5 := Lib.hid S5
          have HO5 := Lib.hid o5
          clear j5 x5 S5 o5
          go_wp2
          go_end0
          refine ⟨rfl, C5, s5, ((hf.trans f2).trans f3).trans f5, ?_, ?_, .inr (.inl ?_)⟩
          · rw [HS5.out, HJ5.out, HM.out]; exact HF2.out C5 HO5.out
          · rw [HJ5.out]; exact Nat.le_of_lt (Nat.lt_of_le_of_lt HJ.out HJ2.out)
          · rw [HJ5.out]; exact Nat.lt_of_le_of_lt HJ.out HJ2.out
        | false =>
          rw [hfi] at hfin
          have hst : step C2.S u = (C2.S, []) := by rw [hst0, if_neg (by rw [hfi]; decide)]
          have HF2 := Lib.hid (fun (C3 : Cfg) h => (fu_step (C' := C3) hu hst h).trans hfu2)
          clear hx hu hl hfu2 hs2 hst hst0 hm hfi tk
          go_wp2_with fail
          refine hfin.mono ?_
          rintro e w3 ⟨rfl, n, hw3⟩
          have s3 : Sys K w3 C2 := hw3 ▸ s2.drewN n
          have f3 : Fr K w2 C2 w3 C2 := hw3 ▸ Fr.same (p := fun _ => False) ((Kept.refl w2 _).drewN n) fun _ hf => hf.elim
          clear hw3 hfin
          go_wp2
          go_roundw
          case rel =>
            refine ⟨C2, s3, (hf.trans f2).trans f3, Nat.le_of_lt (Nat.lt_of_le_of_lt HJ.out HJ2.out), ?_⟩
            rw [setS_same HS2.out, HM.out]
            exact HF2.out C2 (List.append_nil _).symm
          case measure => exact meas q2 (s3.fee.cell 2) HJ2.out s3.jl
      · have HC := Lib.hid hc2
        have HF2 := Lib.hid hfu2
        clear hc2 hfu2
        go_wp2_with fail
        go_end0
        refine ⟨rfl, C2, s2, hf.trans f2, HF2.out, Nat.le_trans HJ.out hj2, ?_⟩
        have := HJ.out
        rcases HC.out with h | h | h
        · exact .inl h
        · exact .inr (.inl (by omega))
        · exact .inr (.inr ⟨HHD.out, h.2⟩)
  · clear ck HF
    have HC := Lib.hid hc6
    have HF2 := Lib.hid hf6
    have HJ6 := Lib.hid hj6
    clear hc6 hf6 hj6
    go_wp2
    go_end0
    refine ⟨rfl, C6, s6, ff.trans f6, HF2.out, Nat.le_trans HG.out HJ6.out, ?_⟩
    have := HG.out
    rcases HC.out with h | h | h
    · exact .inl h
    · exact .inr (.inl (by omega))
    · exact .inr (.inr ⟨HHD.out, h⟩)
end Go.Proofs.YtjklnnklgkihlaaGreatDoor.Vt
