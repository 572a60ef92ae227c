/- lex: a block within single quotes. -/
import Derived.Test.YtplikjbajejciaaDoorQbk
namespace Go.Proofs.YtplikjbajejciaaDoor.Lex
open Go.RowKit Go.Maps
attribute [local go_sem] Jx.normal Jx.exit Jx.ret Jx.panic Jx.goto
section
variable {B rb n f : Nat} {w0 w : World} {K : Kp} {env : Env} {r s : Tx} {d : Int} {O : Option (Tx × Nat)} {a : Act}
set_option maxRecDepth 100000 in
set_option maxHeartbeats 8000000 in
theorem bpass_sg (hf : Fb (ptrV rb) (.int .i64 d) (.int .i64 ((K.T.length - r.length : Nat) : Int)) a) (h : BH B rb w0 w K env d s n) (hst : s.length ≤ r.length) (hs : s.length < f + 1) (hw : blockF (f + 1) .sg d s n = O) :
    ∃ rest, findLabel blockC 0 = some (Code.skip.seq rest) ∧ rest.wp Tryd.prog (Jx (fun l' a' w' => ∃ f', f' < f + 1 ∧ BJ B rb w0 K env r O f' l' a' w') (bodyPost Tryd.prog Tryd.f44 (BP B rb w0 K env r O))) a w := by
  refine ⟨_, rfl, ?_⟩
  obtain ⟨u1, u2, u5, u6, u7, u8, u9, u10, u11, u12, u13, u14, u15, u16, u17, u18, u19, u20, u21, u22, u23, u24, u25, u26, u27, u28, u29, u30, u31, u32, u33, u34, u35, u36, u37, u38, u39, u40, u41, u42, u43, u44, u45, u46, u47, u48, u49, u50, u51, u52, u53, u54, u55, u56, u57, u58, u59, u60, u61, u62, u63, u64, u65, u66, u67, u68, u69, u70, rfl⟩ := frameb hf
  clear hf
  rcases s with _ | ⟨c, t⟩
  · have hW := blockF_bad hw rfl
    have H := Lib.hid h
    have HW := Lib.hid hW
    clear h hW hw hs
    go_wp2_with fail
    refine H.out.take_end.mono ?_
    rintro _ w1 ⟨rfl, h1⟩
    have H1 := Lib.hid h1
    clear h1
    go_wp2_with fail
    refine (H1.out.refuse 4).mono ?_
    rintro _ w2 ⟨rfl, h2⟩
    exact ⟨rfl, BP.bad_ HW.out h2⟩
  · have hl : t.length < f := by simp at hs; omega
    by_cases hc39 : c = 39
    · subst hc39
      have HT := Lib.hid (show Calls Tryd.prog 41 #[ptrV rb] w fun e w' => e = .returned (.string { data := #[39] }) ∧ BH B rb w0 w' K env d t n from h.take)
      have hW := blockF_go hw (show stepB .sg d (39 :: t) n = .go .pl d t n from by first | rfl | decide)
      have HW := Lib.hid hW
      have HL := Lib.hid hl
      have hst2 : t.length ≤ r.length := by simp at hst; omega
      clear h hW hw hs hl hst
      go_wp2_with fail
      refine HT.out.mono ?_
      rintro _ w1 ⟨rfl, h1⟩
      have H1 := Lib.hid h1
      clear h1
      go_wp2_with fail
      apply wp_goto
      exact ⟨f, Nat.lt_succ_self f, .pl, d, t, _, rfl, ⟨rfl, rfl, rfl, rfl, rfl⟩, H1.out, .inl hst2, HL.out, HW.out⟩
    · skip
      have HT := Lib.hid h.take
      have n0 := ne0 c
      have n39 := ne1 hc39
      have hW := blockF_go hw (show stepB .sg d (c :: t) n = .go .sg d t (nl c n) from by unfold stepB; simp only [if_neg hc39])
      have HW := Lib.hid hW
      have HL := Lib.hid hl
      have hst2 : t.length ≤ r.length := by simp at hst; omega
      clear h hW hw hs hl hst
      generalize bs [c] = S at *
      go_wp2_with fail
      refine HT.out.mono ?_
      rintro _ w1 ⟨rfl, h1⟩
      have H1 := Lib.hid h1
      clear h1
      go_wp2_with fail
      apply wp_goto
      exact ⟨f, Nat.lt_succ_self f, .sg, d, t, _, rfl, ⟨rfl, rfl, rfl, rfl, rfl⟩, H1.out, .inl hst2, HL.out, HW.out⟩
end
end Go.Proofs.YtplikjbajejciaaDoor.Lex
