/- The walk of a Feed's reading of runes and of strings' texts. -/
import Derived.Test.YtmhmbeofcedjjaaDoorVsc
namespace Go.Proofs.YtmhmbeofcedjjaaDoor.Vt
open Go.RowKit
open Cel (Blk Kept Tabs low Owns At)
attribute [local go_sem] Jn.normal Jn.exit Jn.ret Jn.panic

/-- What a reader leaves. -/
def Read (K : Ctx) (w : World) (C : Cfg) (F : Ps × List Ac) (e : Ending) (w' : World) : Prop :=
  e = .returned (.tuple #[]) ∧ ∃ C', Sys K w' C' ∧ Fr K w C w' C' ∧ Fu K C' C'.S C'.j = F ∧ C.j ≤ C'.j ∧ (C'.j = K.l.length ∨ C.j < C'.j ∨ (isHd C.S.s = true ∧ C'.S.s = 0))
theorem step_text {S : Ps} {u : UInt8} (ht : isTx S.s = true) (hl : live S.s (u.toNat : Int)) :
    step S u = if S.s = 1 ∧ (u.toNat : Int) = 7 then (ps0, [act S]) else if S.s = 3 then (S, []) else (put S u, []) := by
  obtain ⟨h1, h2, h3, h4⟩ := hl
  rw [if_pos ht] at h4
  unfold step
  simp only [if_neg (show ¬ ((u.toNat : Int) = 24 ∨ (u.toNat : Int) = 26) by omega), if_neg h3, if_pos ht]
  by_cases h : S.s = 1 ∧ (u.toNat : Int) = 7
  · rw [if_pos h, if_pos h]
  · rw [if_neg h, if_neg h, if_neg (by rcases h4 with h4 | h4; exact h4; exact absurd h4 h)]
theorem step_ground {S : Ps} {u : UInt8} (h0 : S.s = 0) (hl : live S.s (u.toNat : Int)) : step S u = ground S (u.toNat : Int) := by
  obtain ⟨h1, h2, h3, h4⟩ := hl
  have ht : isTx S.s = false := by rw [h0]; rfl
  rw [if_neg (by rw [ht]; decide)] at h4
  obtain ⟨h4, h5, h6⟩ := h4
  unfold step
  simp only [if_neg (show ¬ ((u.toNat : Int) = 24 ∨ (u.toNat : Int) = 26) by omega), if_neg h3, if_neg (show ¬ (isTx S.s = true) by rw [ht]; decide), if_neg h4, if_neg h5, if_neg h6, if_pos h0]
theorem setS_same {S : Ps} {st : Nat} (h : S.s = st) : { S with s := st } = S := by rw [← h]
theorem meas {K : Ctx} {wr W : World} {j m : Nat} (q2 : wr.cell? ⟨K.fb, 2, none⟩ = some (.int .i64 (j : Int))) (hW : W.cell? ⟨K.fb, 2, none⟩ = some (.int .i64 (m : Int))) (h1 : j < m) (h2 : m ≤ K.l.length) :
    K.l.length - (intOf ((W.cell? ⟨K.fb, 2, none⟩).getD (.int .i64 0))).toNat < K.l.length - (intOf ((wr.cell? ⟨K.fb, 2, none⟩).getD (.int .i64 0))).toNat := by
  rw [hW, q2]
  simp [intOf]
  omega
set_option maxRecDepth 100000 in
set_option maxHeartbeats 4000000 in
theorem readText_3 {K : Ctx} {w : World} {C : Cfg} (hS : Sys K w C) (hs : C.S.s = 3) (F : Ps × List Ac) (hF : Fu K C C.S C.j = F) (hn : F.2.length ≤ 4294967200) :
    Calls Tryd.prog 23 #[ptr K.fb] w (Read K w C F) := by
  have c0 : w.cell? ⟨K.fb, 0, none⟩ = some (ptr K.pb) := hS.fee.cell 0
  have p0 : w.cell? ⟨K.pb, 0, none⟩ = some (.string (nm C.S.s)) := hS.P.par.cell 0
  rw [hs, nm3] at p0
  have HF : Hid (Fu K C { C.S with s := 3 } C.j = F) := by show _ = _; rw [setS_same hs]; exact hF
  clear hF
  go_enter Tryd.func23, Tryd.ntmps23
  refine wp_scope_unroll 2 ?_
  go_wp2
  apply wp_goto
  refine Jn.go (by rfl) ?_
  go_wp2
  go_loopw [] (fun wr => ∃ C', Sys K wr C' ∧ Fr K w C wr C' ∧ C.j ≤ C'.j ∧ Fu K C' { C'.S with s := 3 } C'.j = F) (fun wr => K.l.length - (intOf ((wr.cell? ⟨K.fb, 2, none⟩).getD (.int .i64 0))).toNat)
  case atStart => exact ⟨_, hS, Fr.refl _ _ _, Nat.le_refl _, HF.out⟩
  case round =>
    obtain ⟨C', hs', hf, hj, hfu⟩ := hrel
    have q2 : wr.cell? ⟨K.fb, 2, none⟩ = some (.int .i64 C'.j) := hs'.fee.cell 2
    have tk := take_any hs' 3 (by omega) F hfu hn
    rw [nm3] at tk
    have HJ := Lib.hid hj
    clear hfu hj
    go_wp2_with fail
    refine tk.mono ?_
    rintro e w2 ⟨t, C2, rfl, s2, f2, ⟨rfl, m, u, hm, hjm, hu, hx, hs2, hl, hfu2⟩ | ⟨rfl, hfu2, hj2, hc2⟩⟩
    · have hst : step C2.S u = (C2.S, []) := by rw [step_text (by rw [hs2]; rfl) (by rw [hs2]; exact hl), if_neg (by rw [hs2]; omega), if_pos hs2]
      have HF2 : Hid (Fu K C2 { C2.S with s := 3 } C2.j = F) := by show _ = _; rw [setS_same hs2, hm]; exact (fu_step hu hst (List.append_nil _).symm).trans hfu2
      have HJ2 : Hid (C'.j < C2.j) := by show _ < _; omega
      clear hx hu hl hfu2 hs2 hst hm
      go_wp2_with fail
      go_roundw
      case rel => exact ⟨C2, s2, hf.trans f2, Nat.le_of_lt (Nat.lt_of_le_of_lt HJ.out HJ2.out), HF2.out⟩
      case measure => exact meas q2 (s2.fee.cell 2) HJ2.out s2.jl
    · have HC := Lib.hid hc2
      have HF2 := Lib.hid hfu2
      clear hc2 hfu2
      go_wp2_with fail
      go_end0
      refine ⟨rfl, C2, s2, hf.trans f2, HF2.out, Nat.le_trans HJ.out hj2, ?_⟩
      have := HJ.out
      rcases HC.out with h | h | h
      · exact .inl h
      · exact .inr (.inl (by omega))
      · exact absurd h.1 (by decide)
set_option maxRecDepth 100000 in
set_option maxHeartbeats 4000000 in
theorem readText_2 {K : Ctx} {w : World} {C : Cfg} (hS : Sys K w C) (hs : C.S.s = 2) (F : Ps × List Ac) (hF : Fu K C C.S C.j = F) (hn : F.2.length ≤ 4294967200) :
    Calls Tryd.prog 23 #[ptr K.fb] w (Read K w C F) := by
  have c0 : w.cell? ⟨K.fb, 0, none⟩ = some (ptr K.pb) := hS.fee.cell 0
  have p0 : w.cell? ⟨K.pb, 0, none⟩ = some (.string (nm C.S.s)) := hS.P.par.cell 0
  rw [hs, nm2] at p0
  have HF : Hid (Fu K C { C.S with s := 2 } C.j = F) := by show _ = _; rw [setS_same hs]; exact hF
  clear hF
  go_enter Tryd.func23, Tryd.ntmps23
  refine wp_scope_unroll 2 ?_
  go_wp2
  apply wp_goto
  refine Jn.go (by rfl) ?_
  go_wp2
  go_loopw [] (fun wr => ∃ C', Sys K wr C' ∧ Fr K w C wr C' ∧ C.j ≤ C'.j ∧ Fu K C' { C'.S with s := 2 } C'.j = F) (fun wr => K.l.length - (intOf ((wr.cell? ⟨K.fb, 2, none⟩).getD (.int .i64 0))).toNat)
  case atStart => exact ⟨_, hS, Fr.refl _ _ _, Nat.le_refl _, HF.out⟩
  case round =>
    obtain ⟨C', hs', hf, hj, hfu⟩ := hrel
    have q2 : wr.cell? ⟨K.fb, 2, none⟩ = some (.int .i64 C'.j) := hs'.fee.cell 2
    have tk := take_any hs' 2 (by omega) F hfu hn
    rw [nm2] at tk
    have HJ := Lib.hid hj
    clear hfu hj
    go_wp2_with fail
    refine tk.mono ?_
    rintro e w2 ⟨t, C2, rfl, s2, f2, ⟨rfl, m, u, hm, hjm, hu, hx, hs2, hl, hfu2⟩ | ⟨rfl, hfu2, hj2, hc2⟩⟩
    · have hst : step C2.S u = (put C2.S u, []) := by rw [step_text (by rw [hs2]; rfl) (by rw [hs2]; exact hl), if_neg (by rw [hs2]; omega), if_neg (by rw [hs2]; decide)]
      have hps : (put C2.S u).s = 2 := by rw [← hs2]; unfold put; split <;> rfl
      have HPS := Lib.hid hps
      have HF2 := Lib.hid (fun (C3 : Cfg) (h : outs C3.out = outs C2.out ++ []) => (fu_step hu hst h).trans hfu2)
      have HM := Lib.hid hm
      have HJ2 : Hid (C'.j < C2.j) := by show _ < _; omega
      have hp := put_any s2 u hx
      clear hx hu hl hfu2 hs2 hst hm hps
      go_wp2_with fail
      refine hp.mono ?_
      rintro e w5 ⟨rfl, C5, s5, f5, j5, x5, S5, o5⟩
      have HJ5 := Lib.hid j5
      have HS5 := Lib.hid S5
      have HO5 := Lib.hid o5
      clear j5 x5 S5 o5
      go_wp2
      go_roundw
      case rel =>
        refine ⟨C5, s5, (hf.trans f2).trans f5, by rw [HJ5.out]; exact Nat.le_of_lt (Nat.lt_of_le_of_lt HJ.out HJ2.out), ?_⟩
        rw [HS5.out, setS_same HPS.out, HJ5.out, HM.out]
        exact HF2.out C5 HO5.out
      case measure => exact meas q2 (s5.fee.cell 2) (by rw [HJ5.out]; exact HJ2.out) s5.jl
    · have HC := Lib.hid hc2
      have HF2 := Lib.hid hfu2
      clear hc2 hfu2
      go_wp2_with fail
      go_end0
      refine ⟨rfl, C2, s2, hf.trans f2, HF2.out, Nat.le_trans HJ.out hj2, ?_⟩
      have := HJ.out
      rcases HC.out with h | h | h
      · exact .inl h
      · exact .inr (.inl (by omega))
      · exact absurd h.1 (by decide)
end Go.Proofs.YtmhmbeofcedjjaaDoor.Vt
