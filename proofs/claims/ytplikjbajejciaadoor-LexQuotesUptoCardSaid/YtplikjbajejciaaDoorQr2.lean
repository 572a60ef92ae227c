/- lex: a block between words. -/
import Derived.Test.YtplikjbajejciaaDoorQr4
namespace Go.Proofs.YtplikjbajejciaaDoor.Lex
open Go.RowKit Go.Maps
attribute [local go_sem] Jx.normal Jx.exit Jx.ret Jx.panic Jx.goto
section
variable {B rb n f m : Nat} {w0 w : World} {K : Kp} {env : Env} {ls : List LV} {ws : List Wd} {s : Tx} {R : RR} {a : Act}
set_option maxRecDepth 100000 in
set_option maxHeartbeats 8000000 in
theorem rpass_2 (hf : Fr 62 (ptrV rb) a) (h : RH B w0.heap.size rb w K env ls ws s n) (ho : Only [rb] w0 w) (hbg : K.bg = n) (r : Tx) (hr : s = 123 :: r) (hs : s.length < f + 1) (hw : readF env (f + 1) (ls.map (·.2)) ws K.g s n = R) (hm : m = 3 * s.length) :
    ∃ rest, findLabel readC 2 = some (Code.skip.seq rest) ∧ rest.wp Tryd.prog (Jx (fun l' a' w' => ∃ m', m' < m ∧ RJ B rb w0 env R m' l' a' w') (bodyPost Tryd.prog Tryd.f24 (RP B w0.heap.size rb w0 env R))) a w := by
  refine ⟨_, rfl, ?_⟩
  obtain ⟨u1, u2, u3, u4, u5, u6, u7, u8, u9, u10, u11, u12, u13, u14, u15, u16, u17, u18, u19, u20, u21, u22, u23, u24, u25, u26, u27, u28, u29, u30, u31, u32, u33, u34, u35, u36, u37, u38, u39, u40, u41, u42, u43, u44, u45, u46, u47, u48, u49, u50, u51, u52, u53, u54, u55, u56, u57, u58, u59, u60, u61, rfl⟩ := frame62 hf
  clear hf
  subst hr
  cases hmn : many (ls.map (·.2)) ws with
  | true =>
    have HBG := Lib.hid (begin_any h true hmn)
    have HW := Lib.hid (readF_bad hw (show stepR env (ls.map (·.2)) ws K.g (123 :: r) n = .bad 3 from by rw [stepR_blk, if_pos hmn]))
    have HO := Lib.hid ho
    have HG := Lib.hid hbg
    clear h hw hs ho hm hmn hbg
    go_wp2_with fail
    refine HBG.out.mono ?_
    rintro _ w1 ⟨rfl, rfl⟩
    rw [HG.out]
    exact ⟨rfl, RP.bad_ HW.out HO.out⟩
  | false =>
    have HBG := Lib.hid (begin_any h false hmn)
    have hst : stepR env (ls.map (·.2)) ws K.g (123 :: r) n = match blockP (123 :: r) n with
        | none => .bad 4
        | some (s', n') => .go (ls.map (·.2)) (ws ++ [⟨r.take (r.length - (s'.length + 1)), n, true⟩]) K.g s' n' := by
      rw [stepR_blk, if_neg (by rw [hmn]; exact Bool.false_ne_true)]
      generalize blockP (123 :: r) n = X
      rfl
    have HB := Lib.hid (h.block)
    have H := Lib.hid h
    have HO := Lib.hid ho
    have HG := Lib.hid hbg
    cases hb : blockP (123 :: r) n with
    | none =>
      rw [hb] at HB hst
      have HW := Lib.hid (readF_bad hw hst)
      clear h hw hs ho hm hmn hst hb hbg
      go_wp2_with fail
      refine HBG.out.mono ?_
      rintro _ w1 ⟨rfl, rfl⟩
      go_wp2_with fail
      refine HB.out.mono ?_
      rintro _ w2 ⟨rfl, o2⟩
      rw [HG.out]
      exact ⟨rfl, RP.bad_ HW.out (HO.out.trans o2)⟩
    | some p =>
      obtain ⟨s', n'⟩ := p
      rw [hb] at HB hst
      have HB2 : Hid (Calls Tryd.prog 44 #[ptrV rb] w fun e w' => e = .returned (.string (bs (r.take (r.length - (s'.length + 1))))) ∧ RH B w0.heap.size rb w' K env ls ws s' n' ∧ Only [rb] w w') := HB
      clear HB
      have HW := Lib.hid (readF_go hw hst)
      have hl := blockP_len hb
      have hf2 := h.few
      have HM := Lib.hid (show 3 * s'.length + 1 < m by omega)
      have HL := Lib.hid (show s'.length < f by omega)
      have HK := Lib.hid (fun V (hV : RH B w0.heap.size rb V K env ls ws s' n') => keep_any hV (r.take (r.length - (s'.length + 1))) true (by omega))
      clear h hw hs ho hm hmn hst hb hbg hl hf2
      generalize r.take (r.length - (s'.length + 1)) = tx at *
      go_wp2_with fail
      refine HBG.out.mono ?_
      rintro _ w1 ⟨rfl, rfl⟩
      go_wp2_with fail
      refine HB2.out.mono ?_
      rintro _ w2 ⟨rfl, k2, o2⟩
      have H2 := Lib.hid k2
      have O2 := Lib.hid (HO.out.trans o2)
      clear k2 o2
      go_wp2_with fail
      refine (HK.out _ H2.out).mono ?_
      rintro _ w3 ⟨rfl, wv, k3, o3⟩
      have O3 := Lib.hid (frame_own rfl O2.out H2.out.wown o3)
      have H3 := Lib.hid k3
      clear k3 o3
      rw [HG.out] at H3
      go_wp2_with fail
      apply wp_goto
      exact ⟨_, HM.out, K.wds wv, ls, _, s', n', ⟨rfl, rfl, rfl⟩, H3.out, O3.out, .btw f HL.out HW.out⟩
end
end Go.Proofs.YtplikjbajejciaaDoor.Lex
