/- lex: a remark passed over. -/
import Derived.Test.YtplikjbajejciaaDoorQrh
namespace Go.Proofs.YtplikjbajejciaaDoor.Lex
open Go.RowKit Go.Maps
attribute [local go_sem] Jx.normal Jx.exit Jx.ret Jx.panic Jx.goto
section
variable {B rb n f m : Nat} {w0 w : World} {K : Kp} {env : Env} {ls : List LV} {ws : List Wd} {s : Tx} {R : RR} {a : Act}
set_option maxRecDepth 100000 in
set_option maxHeartbeats 8000000 in
theorem rpass_1 (hf : Fr 62 (ptrV rb) a) (h : RH B w0.heap.size rb w K env ls ws s n) (ho : Only [rb] w0 w) (hs : (skipR s).length < f) (hw : readF env f (ls.map (·.2)) ws K.g (skipR s) n = R) (hm : (m = 3 * s.length ∧ ∃ r, s = 35 :: r) ∨ m = 3 * s.length + 2) :
    ∃ rest, findLabel readC 1 = some (Code.skip.seq rest) ∧ rest.wp Tryd.prog (Jx (fun l' a' w' => ∃ m', m' < m ∧ RJ B rb w0 env R m' l' a' w') (bodyPost Tryd.prog Tryd.f24 (RP B w0.heap.size rb w0 env R))) a w := by
  refine ⟨_, rfl, ?_⟩
  obtain ⟨u1, u2, u3, u4, u5, u6, u7, u8, u9, u10, u11, u12, u13, u14, u15, u16, u17, u18, u19, u20, u21, u22, u23, u24, u25, u26, u27, u28, u29, u30, u31, u32, u33, u34, u35, u36, u37, u38, u39, u40, u41, u42, u43, u44, u45, u46, u47, u48, u49, u50, u51, u52, u53, u54, u55, u56, u57, u58, u59, u60, u61, rfl⟩ := frame62 hf
  clear hf
  have HX := Lib.hid h.next
  rcases s with _ | ⟨c, r⟩
  · have hm2 : m = 2 := by
      rcases hm with ⟨_, r, hr⟩ | hm
      · cases hr
      · exact hm
    have HW := Lib.hid hw
    have HO := Lib.hid ho
    have HM := Lib.hid (And.intro hm2 hs)
    have e0 : bs (List.take 1 ([] : Tx)) = { data := #[] } := rfl
    rw [e0] at HX
    clear h hw hs hm hm2 ho e0
    go_wp2_with fail
    refine HX.out.mono ?_
    rintro _ w1 ⟨rfl, h1, o1⟩
    have H1 := Lib.hid h1
    have O1 := Lib.hid (HO.out.trans o1)
    clear h1 o1
    go_wp2_with fail
    apply wp_goto
    exact ⟨1, by rw [HM.out.1]; omega, K, ls, ws, [], n, ⟨rfl, rfl, rfl⟩, H1.out, O1.out, .btw f HM.out.2 HW.out⟩
  · by_cases hc : c = 10
    · subst hc
      have hsk : skipR (10 :: r) = 10 :: r := rfl
      rw [hsk] at hs hw
      have hm2 : 3 * (10 :: r : Tx).length + 1 < m := by
        rcases hm with ⟨_, r', hr⟩ | hm
        · cases hr
        · omega
      have HW := Lib.hid hw
      have HO := Lib.hid ho
      have HM := Lib.hid (And.intro hm2 hs)
      have e0 : bs (List.take 1 (10 :: r)) = { data := #[10] } := rfl
      rw [e0] at HX
      clear h hw hs hm hm2 ho e0 hsk
      go_wp2_with fail
      refine HX.out.mono ?_
      rintro _ w1 ⟨rfl, h1, o1⟩
      have H1 := Lib.hid h1
      have O1 := Lib.hid (HO.out.trans o1)
      clear h1 o1
      go_wp2_with fail
      apply wp_goto
      exact ⟨_, HM.out.1, K, ls, ws, 10 :: r, n, ⟨rfl, rfl, rfl⟩, H1.out, O1.out, .btw f HM.out.2 HW.out⟩
    · have hsk : skipR (c :: r) = skipR r := by show (if c = 10 then c :: r else skipR r) = _; rw [if_neg hc]
      rw [hsk] at hs hw
      have hn10 : nl c n = n := by unfold nl; rw [if_neg hc]
      have hm2 : 3 * r.length + 2 < m := by
        rcases hm with ⟨hm, _⟩ | hm <;> (rw [List.length_cons] at hm; omega)
      have HT := Lib.hid (fun V (hV : RH B w0.heap.size rb V K env ls ws (c :: r) n) => hV.take)
      rw [hn10] at HT
      have n0 := ne0 c
      have n10 := ne1 hc
      have HW := Lib.hid hw
      have HO := Lib.hid ho
      have HM := Lib.hid (And.intro hm2 hs)
      have e0 : bs (List.take 1 (c :: r)) = bs [c] := rfl
      rw [e0] at HX
      clear h hw hs hm hm2 ho e0 hsk hn10 hc
      generalize bs [c] = S at *
      go_wp2_with fail
      refine HX.out.mono ?_
      rintro _ w1 ⟨rfl, h1, o1⟩
      have H1 := Lib.hid h1
      have O1 := Lib.hid (HO.out.trans o1)
      clear h1 o1
      go_wp2_with fail
      refine (HT.out _ H1.out).mono ?_
      rintro _ w2 ⟨rfl, h2, o2⟩
      have H2 := Lib.hid h2
      have O2 := Lib.hid (O1.out.trans o2)
      clear h2 o2
      go_wp2_with fail
      apply wp_goto
      exact ⟨_, HM.out.1, K, ls, ws, r, n, ⟨rfl, rfl, rfl⟩, H2.out, O2.out, .rem1 f HM.out.2 HW.out⟩
end
end Go.Proofs.YtplikjbajejciaaDoor.Lex
