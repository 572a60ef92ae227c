/- lex: a word within single quotes. -/
import Derived.Test.YtplikjbajejciaaDoorQwd
namespace Go.Proofs.YtplikjbajejciaaDoor.Lex
open Go.RowKit Go.Maps
attribute [local go_sem] Jx.normal Jx.exit Jx.ret Jx.panic Jx.goto
section
variable {B rb n f : Nat} {w0 w : World} {K : Kp} {env : Env} {kv : Value} {m s : Tx} {W : WR} {a : Act}
set_option maxRecDepth 100000 in
set_option maxHeartbeats 8000000 in
theorem pass_sg (hf : Fr 86 (ptrV rb) a) (h : WH B rb w0 w K env kv m s n) (hs : s.length < f + 1) (hw : wordF env (f + 1) .sg m s n = W) :
    ∃ rest, findLabel wordC 1 = some (Code.skip.seq rest) ∧ rest.wp Tryd.prog (Jx (fun l' a' w' => ∃ f', f' < f + 1 ∧ WJ B rb w0 K env W f' l' a' w') (bodyPost Tryd.prog Tryd.f45 (WP B rb w0 K env W))) a w := by
  refine ⟨_, rfl, ?_⟩
  obtain ⟨u1, u2, u3, u4, u5, u6, u7, u8, u9, u10, u11, u12, u13, u14, u15, u16, u17, u18, u19, u20, u21, u22, u23, u24, u25, u26, u27, u28, u29, u30, u31, u32, u33, u34, u35, u36, u37, u38, u39, u40, u41, u42, u43, u44, u45, u46, u47, u48, u49, u50, u51, u52, u53, u54, u55, u56, u57, u58, u59, u60, u61, u62, u63, u64, u65, u66, u67, u68, u69, u70, u71, u72, u73, u74, u75, u76, u77, u78, u79, u80, u81, u82, u83, u84, u85, rfl⟩ := frame86 hf
  clear hf
  rcases s with _ | ⟨c, r⟩
  · have hW := wordF_bad hw rfl
    have H := Lib.hid h
    have HW := Lib.hid hW
    clear h hW hw hs
    go_wp2_with fail
    refine H.out.take_end.mono ?_
    rintro _ w1 ⟨rfl, h1⟩
    have H1 := Lib.hid h1
    clear h1
    go_wp2_with fail
    refine (H1.out.refuse 4).mono ?_
    rintro _ w2 ⟨rfl, h2⟩
    exact ⟨rfl, WP.bad_ HW.out h2⟩
  · have hl : r.length < f := by simp at hs; omega
    by_cases hc : c = 39
    · subst hc
      have hW := (wordF_go hw (show stepW env .sg (39 :: r) n = .go .pl [] r n from rfl)).2 (by have := h.len; simp; omega)
      rw [List.append_nil] at hW
      have HT : Hid (Calls Tryd.prog 41 #[ptrV rb] w fun e w' => e = .returned (.string { data := #[39] }) ∧ WH B rb w0 w' K env kv m r n) := h.take
      have HW := Lib.hid hW
      have HL := Lib.hid hl
      clear h hW hw hs hl
      go_wp2_with fail
      refine HT.out.mono ?_
      rintro _ w1 ⟨rfl, h1⟩
      have H1 := Lib.hid h1
      clear h1
      go_wp2_with fail
      apply wp_goto
      exact ⟨f, Nat.lt_succ_self f, .pl, _, _, _, _, rfl, ⟨rfl, rfl, rfl⟩, H1.out, HL.out, HW.out⟩
    · have HT := Lib.hid h.take
      have n0 := ne0 c
      have n39 := ne1 hc
      obtain ⟨g1, g2⟩ := wordF_go hw (show stepW env .sg (c :: r) n = .go .sg [c] r (nl c n) from by unfold stepW; simp only [if_neg hc])
      have HL := Lib.hid hl
      by_cases hlong : m.length + [c].length > 8192
      · have HW := Lib.hid (g1 hlong)
        have HA := Lib.hid (fun V (hV : WH B rb w0 V K env kv m r (nl c n)) => hV.long [c] hlong (by simp))
        clear h hw hs hl g1 g2 hlong
        generalize bs [c] = S at *
        go_wp2_with fail
        refine HT.out.mono ?_
        rintro _ w1 ⟨rfl, h1⟩
        have H1 := Lib.hid h1
        clear h1
        go_wp2_with fail
        refine (HA.out _ H1.out).mono ?_
        rintro _ w2 ⟨rfl, h2⟩
        exact ⟨rfl, WP.bad_ HW.out h2⟩
      · have HW := Lib.hid (g2 hlong)
        have HA := Lib.hid (fun V (hV : WH B rb w0 V K env kv m r (nl c n)) => hV.add [c] hlong)
        clear h hw hs hl g1 g2 hlong
        generalize hS : bs [c] = S at *
        clear hS
        go_wp2_with fail
        refine HT.out.mono ?_
        rintro _ w1 ⟨rfl, h1⟩
        have H1 := Lib.hid h1
        clear h1
        go_wp2_with fail
        refine (HA.out _ H1.out).mono ?_
        rintro _ w2 ⟨rfl, kv2, h2⟩
        have H2 := Lib.hid h2
        clear h2
        go_wp2_with fail
        apply wp_goto
        exact ⟨f, Nat.lt_succ_self f, .sg, _, _, _, _, rfl, ⟨rfl, rfl, rfl⟩, H2.out, HL.out, HW.out⟩
end
end Go.Proofs.YtplikjbajejciaaDoor.Lex
