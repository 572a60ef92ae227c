/- The walk of a Feed's reading of runes. -/
import Derived.Test.YtmhmbeofcedjjaaDoorVrt
import Derived.Deep.RegionHeld3
namespace Go.Proofs.YtmhmbeofcedjjaaDoor.Vt
open Go.RowKit
open Cel (Blk Kept Tabs low Owns At)
attribute [local go_sem] Jn.normal Jn.exit Jn.ret Jn.panic

set_option maxRecDepth 100000 in
set_option maxHeartbeats 4000000 in
theorem readText_0 {K : Ctx} {w : World} {C : Cfg} (hS : Sys K w C) (hs : C.S.s = 0) (F : Ps × List Ac) (hF : Fu K C C.S C.j = F) (hn : F.2.length ≤ 4294967200) :
    Calls Tryd.prog 23 #[ptr K.fb] w (Read K w C F) := by
  have c0 : w.cell? ⟨K.fb, 0, none⟩ = some (ptr K.pb) := hS.fee.cell 0
  have p0 : w.cell? ⟨K.pb, 0, none⟩ = some (.string (nm C.S.s)) := hS.P.par.cell 0
  rw [hs, nm0] at p0
  have HF : Hid (Fu K C { C.S with s := 0 } C.j = F) := by show _ = _; rw [setS_same hs]; exact hF
  clear hF
  go_enter Tryd.func23, Tryd.ntmps23
  refine wp_scope_unroll 2 ?_
  go_wp2
  apply wp_label
  go_wp2
  go_loopw [] (fun wr => ∃ C', Sys K wr C' ∧ Fr K w C wr C' ∧ C.j ≤ C'.j ∧ Fu K C' { C'.S with s := 0 } C'.j = F) (fun wr => K.l.length - (intOf ((wr.cell? ⟨K.fb, 2, none⟩).getD (.int .i64 0))).toNat)
  case atStart => exact ⟨_, hS, Fr.refl _ _ _, Nat.le_refl _, HF.out⟩
  case round =>
    obtain ⟨C', hs', hf, hj, hfu⟩ := hrel
    have q2 : wr.cell? ⟨K.fb, 2, none⟩ = some (.int .i64 C'.j) := hs'.fee.cell 2
    have tk := take_any hs' 0 (by omega) F hfu hn
    rw [nm0] at tk
    have HJ := Lib.hid hj
    clear hfu hj
    go_wp2_with fail
    refine tk.mono ?_
    rintro e w2 ⟨t, C2, rfl, s2, f2, ⟨rfl, m, u, hm, hjm, hu, hx, hs2, hl, hfu2⟩ | ⟨rfl, hfu2, hj2, hc2⟩⟩
    · have hst : step C2.S u = ({ C2.S with d := (Cel.step C2.S.d C2.x).1 }, (Cel.step C2.S.d C2.x).2.map prt) := by rw [step_ground hs2 (by rw [hs2]; exact hl), hx]; rfl
      have HF2 := Lib.hid (fun (C3 : Cfg) h => (fu_step (C' := C3) hu hst h).trans hfu2)
      have HM := Lib.hid hm
      have HJ2 : Hid (C'.j < C2.j) := by show _ < _; omega
      have HS2 := Lib.hid hs2
      have hlen : C2.out.length ≤ 4294967200 := Nat.le_trans (fu_len hfu2) hn
      have hcn := Cel.step_count C2.S.d C2.x
      have hpe : Cel.pend C2.S.d ≤ 1 := by unfold Cel.pend; split <;> omega
      have hsd := s2.drew
      have c0 : w2.cell? ⟨K.fb, 0, none⟩ = some (ptr K.pb) := s2.fee.cell 0
      have c3 : w2.cell? ⟨K.fb, 3, none⟩ = some (.int .u8 C2.x) := s2.fee.cell 3
      have c1 : w2.cell? ⟨K.pb, 1, none⟩ = some (ptr K.db) := s2.P.par.cell 1
      have hfd := Cel.feed_any C2.S.d s2.P.bd.di K.db C2.x w2.drew hsd.tabs hsd.P.dec (by have := s2.low; have := hS.fB; have := (s2.lt K.fb (.inr (.inl rfl))).2; have e : w2.drew.heap.size = w2.heap.size := rfl; have := s2.fB; omega) (Nat.le_trans s2.low s2.P.dB) s2.x0 s2.x1
      have hpr := fun (w3 : World) (v : Value) (hb : At w3 K.db (Cel.step C2.S.d C2.x).1) (ho : Owns w3 w2.drew.heap.size v (Cel.step C2.S.d C2.x).2) (hk : Kept w2.drew w3 (fun k => k = K.db)) =>
        print_any ((hsd.setD hk (Cel.step C2.S.d C2.x).1 hb (Cel.step_inv s2.P.bd.di s2.x0 s2.x1).1).1) w2.drew.heap.size v _ ho (by show C2.out.length + _ ≤ _; omega)
      have HD := Lib.hid (fun (w3 : World) (v : Value) (hb : At w3 K.db (Cel.step C2.S.d C2.x).1) (hk : Kept w2.drew w3 (fun k => k = K.db)) => (hsd.setD hk (Cel.step C2.S.d C2.x).1 hb (Cel.step_inv s2.P.bd.di s2.x0 s2.x1).1).2)
      clear hx hu hl hfu2 hs2 hst hm hcn hpe hlen
      go_wp2_with fail
      have e0 : ∀ W : World, Blk W K.fb 50 (feeL K C2).toArray → W.cell? ⟨K.fb, 0, none⟩ = some (ptr K.pb) ∧ W.cell? ⟨K.fb, 3, none⟩ = some (.int .u8 C2.x) := fun W h => ⟨h.cell 0, h.cell 3⟩
      have e1 : ∀ W : World, Blk W K.pb 47 (parL C2.S C2.pv C2.tv K.db).toArray → W.cell? ⟨K.pb, 1, none⟩ = some (ptr K.db) := fun W h => h.cell 1
      have hfe : Blk w2.drew K.fb 50 (feeL K C2).toArray := s2.fee
      have hpa : Blk w2.drew K.pb 47 (parL C2.S C2.pv C2.tv K.db).toArray := s2.P.par
      have nf : ¬ K.fb = K.db := fun e => s2.sep.df e.symm
      have np : ¬ K.pb = K.db := s2.sep.pd
      have E0 := Lib.hid e0
      have E1 := Lib.hid e1
      have HFE := Lib.hid hfe
      have HPA := Lib.hid hpa
      clear e0 e1 hfe hpa
      go_region_held3 (fun W => W.cell? ⟨K.fb, 0, none⟩ = some (ptr K.pb) ∧ W.cell? ⟨K.fb, 3, none⟩ = some (.int .u8 C2.x) ∧ W.cell? ⟨K.pb, 1, none⟩ = some (ptr K.db)) (first | exact ⟨by assumption, by assumption, by assumption⟩)
        (first | (go_at_call 46; refine hfd.mono ?_; rintro e w3 ⟨v3, rfl, hb3, ho3, hk3⟩; obtain ⟨y0, y1⟩ := E0.out _ (hk3.blk HFE.out nf); have y2 := E1.out _ (hk3.blk HPA.out np)) | (go_at_call 45; refine (hpr _ _ hb3 ho3 hk3).mono ?_; rintro e w4 ⟨rfl, ov4, s4, f4⟩; obtain ⟨z0, z1⟩ := E0.out _ s4.fee; have z2 := E1.out _ s4.P.par))
      all_goals
        go_wp2
        go_roundw
        case rel =>
          refine ⟨_, s4, (((hf.trans f2).trans (Fr.same (p := fun _ => False) (Kept.refl w2 _).drew fun _ hf => hf.elim)).trans (HD.out w3 v3 hb3 hk3)).trans f4, Nat.le_of_lt (Nat.lt_of_le_of_lt HJ.out HJ2.out), ?_⟩
          have e : ({ ({ C2.S with d := (Cel.step C2.S.d C2.x).1 } : Ps) with s := 0 } : Ps) = { C2.S with d := (Cel.step C2.S.d C2.x).1 } := setS_same (S := { C2.S with d := (Cel.step C2.S.d C2.x).1 }) HS2.out
          show Fu K _ { ({ C2.S with d := (Cel.step C2.S.d C2.x).1 } : Ps) with s := 0 } C2.j = F
          rw [e, HM.out]
          exact HF2.out _ (by rw [outs_app, outs_prts])
        case measure => exact meas q2 (s4.fee.cell 2) HJ2.out s4.jl
    · have HC := Lib.hid hc2
      have HF2 := Lib.hid hfu2
      clear hc2 hfu2
      go_wp2_with fail
      go_end0
      refine ⟨rfl, C2, s2, hf.trans f2, HF2.out, Nat.le_trans HJ.out hj2, ?_⟩
      have := HJ.out
      rcases HC.out with h | h | h
      · exact .inl h
      · exact .inr (.inl (by omega))
      · exact absurd h.1 (by decide)
end Go.Proofs.YtmhmbeofcedjjaaDoor.Vt
