/- lex: a word. -/
import Derived.Test.YtplikjbajejciaaDoorQwd
namespace Go.Proofs.YtplikjbajejciaaDoor.Lex
open Go.RowKit Go.Maps
attribute [local go_sem] Jx.normal Jx.exit Jx.ret Jx.panic Jx.goto
section
variable {B rb n f : Nat} {w0 w : World} {K : Kp} {env : Env} {kv : Value} {m s : Tx} {W : WR} {a : Act}
set_option maxRecDepth 100000 in
set_option maxHeartbeats 8000000 in
theorem pass_pl (hf : Fr 86 (ptrV rb) a) (h : WH B rb w0 w K env kv m s n) (hs : s.length < f + 1) (hw : wordF env (f + 1) .pl m s n = W) :
    ∃ rest, findLabel wordC 0 = some (Code.skip.seq rest) ∧ rest.wp Tryd.prog (Jx (fun l' a' w' => ∃ f', f' < f + 1 ∧ WJ B rb w0 K env W f' l' a' w') (bodyPost Tryd.prog Tryd.f45 (WP B rb w0 K env W))) a w := by
  refine ⟨_, rfl, ?_⟩
  obtain ⟨u1, u2, u3, u4, u5, u6, u7, u8, u9, u10, u11, u12, u13, u14, u15, u16, u17, u18, u19, u20, u21, u22, u23, u24, u25, u26, u27, u28, u29, u30, u31, u32, u33, u34, u35, u36, u37, u38, u39, u40, u41, u42, u43, u44, u45, u46, u47, u48, u49, u50, u51, u52, u53, u54, u55, u56, u57, u58, u59, u60, u61, u62, u63, u64, u65, u66, u67, u68, u69, u70, u71, u72, u73, u74, u75, u76, u77, u78, u79, u80, u81, u82, u83, u84, u85, rfl⟩ := frame86 hf
  clear hf
  by_cases hb : brk s = true
  · have hW := wordF_fin hw (by
      unfold stepW
      cases s with
      | nil => rfl
      | cons c r => simp only [hb, if_true])
    have HX := Lib.hid (show Calls Tryd.prog 36 #[ptrV rb] w fun e w' => e = .returned (.string (bs (s.take 1))) ∧ WH B rb w0 w' K env kv m s n from (next_cx h.cx).mono fun _ _ hx => ⟨hx.1, h.go hx.2.1 (hx.2.2.mono (by simp))⟩)
    have HB := Lib.hid (fun V => behind_any s V)
    rw [hb] at HB
    have HW := Lib.hid hW
    clear h hW hw hs hb
    generalize hS : bs (s.take 1) = S at *
    clear hS
    go_wp2_with fail
    refine HX.out.mono ?_
    rintro _ w1 ⟨rfl, h1⟩
    have H1 := Lib.hid h1
    clear h1
    go_wp2_with fail
    refine (HB.out _).mono ?_
    rintro _ w2 ⟨rfl, rfl⟩
    have hst := H1.out.str
    have e9 : w1.cell? ⟨rb, 9, none⟩ = some kv := by obtain ⟨mv, hR, _⟩ := H1.out.cx.place; exact BL.cell hR 9
    obtain ⟨A0, c0, hkv⟩ := own_slice H1.out.own
    rw [hkv] at hst e9
    clear hkv
    go_wp2_with fail
    go_ret
    exact WP.got_ HW.out H1.out.cx H1.out.only
  · have hb : brk s = false := by cases hq : brk s with | true => exact absurd hq hb | false => rfl
    rcases s with _ | ⟨c, r⟩
    · cases hb
    have hl : r.length < f := by simp at hs; omega
    by_cases hc39 : c = 39
    · subst hc39
      have hW := (wordF_go hw (show stepW env .pl (39 :: r) n = .go .sg [] r n from by first | rfl | decide)).2 (by have := h.len; simp; omega)
      rw [List.append_nil] at hW
      have HT := Lib.hid (fun V (hV : WH B rb w0 V K env kv m (39 :: r) n) => (show Calls Tryd.prog 41 #[ptrV rb] V fun e w' => e = .returned (.string { data := #[39] }) ∧ WH B rb w0 w' K env kv m r n from hV.take))
      have HW := Lib.hid hW
      have HL := Lib.hid hl
      have H0 := Lib.hid h
      have HX := Lib.hid (show Calls Tryd.prog 36 #[ptrV rb] w fun e w' => e = .returned (.string ({ data := #[39] })) ∧ WH B rb w0 w' K env kv m (39 :: r) n from (next_cx h.cx).mono fun _ _ hx => ⟨hx.1, h.go hx.2.1 (hx.2.2.mono (by simp))⟩)
      have HB := Lib.hid (fun V => (show Calls Tryd.prog 55 #[.string ({ data := #[39] })] V fun e w' => e = .returned (.bool false) ∧ V = w' from by have := behind_any (39 :: r) V; rw [show brk (39 :: r) = false from by first | rfl | decide] at this; exact this))
      clear H0
      clear h hW hw hs hl
      go_wp2_with fail
      refine HX.out.mono ?_
      rintro _ v1 ⟨rfl, k1⟩
      have H0 := Lib.hid k1
      clear k1
      go_wp2_with fail
      refine (HB.out _).mono ?_
      rintro _ v2 ⟨rfl, rfl⟩
      go_wp2_with fail
      refine (HT.out _ H0.out).mono ?_
      rintro _ w1 ⟨rfl, h1⟩
      have H1 := Lib.hid h1
      clear h1
      go_wp2_with fail
      apply wp_goto
      exact ⟨f, Nat.lt_succ_self f, .sg, _, _, _, _, rfl, ⟨rfl, rfl, rfl⟩, H1.out, HL.out, HW.out⟩
    · skip
      by_cases hc34 : c = 34
      · subst hc34
        have hW := (wordF_go hw (show stepW env .pl (34 :: r) n = .go .db [] r n from by first | rfl | decide)).2 (by have := h.len; simp; omega)
        rw [List.append_nil] at hW
        have HT := Lib.hid (fun V (hV : WH B rb w0 V K env kv m (34 :: r) n) => (show Calls Tryd.prog 41 #[ptrV rb] V fun e w' => e = .returned (.string { data := #[34] }) ∧ WH B rb w0 w' K env kv m r n from hV.take))
        have HW := Lib.hid hW
        have HL := Lib.hid hl
        have H0 := Lib.hid h
        have HX := Lib.hid (show Calls Tryd.prog 36 #[ptrV rb] w fun e w' => e = .returned (.string ({ data := #[34] })) ∧ WH B rb w0 w' K env kv m (34 :: r) n from (next_cx h.cx).mono fun _ _ hx => ⟨hx.1, h.go hx.2.1 (hx.2.2.mono (by simp))⟩)
        have HB := Lib.hid (fun V => (show Calls Tryd.prog 55 #[.string ({ data := #[34] })] V fun e w' => e = .returned (.bool false) ∧ V = w' from by have := behind_any (34 :: r) V; rw [show brk (34 :: r) = false from by first | rfl | decide] at this; exact this))
        clear H0
        clear h hW hw hs hl
        go_wp2_with fail
        refine HX.out.mono ?_
        rintro _ v1 ⟨rfl, k1⟩
        have H0 := Lib.hid k1
        clear k1
        go_wp2_with fail
        refine (HB.out _).mono ?_
        rintro _ v2 ⟨rfl, rfl⟩
        go_wp2_with fail
        refine (HT.out _ H0.out).mono ?_
        rintro _ w1 ⟨rfl, h1⟩
        have H1 := Lib.hid h1
        clear h1
        go_wp2_with fail
        apply wp_goto
        exact ⟨f, Nat.lt_succ_self f, .db, _, _, _, _, rfl, ⟨rfl, rfl, rfl⟩, H1.out, HL.out, HW.out⟩
      · skip
        by_cases hc92 : c = 92
        · subst hc92
          have H0 := Lib.hid h
          have HT := Lib.hid (fun V (hV : WH B rb w0 V K env kv m (92 :: r) n) => (show Calls Tryd.prog 41 #[ptrV rb] V fun e w' => e = .returned (.string { data := #[92] }) ∧ WH B rb w0 w' K env kv m r n from hV.take))
          have HX := Lib.hid (show Calls Tryd.prog 36 #[ptrV rb] w fun e w' => e = .returned (.string ({ data := #[92] })) ∧ WH B rb w0 w' K env kv m (92 :: r) n from (next_cx h.cx).mono fun _ _ hx => ⟨hx.1, h.go hx.2.1 (hx.2.2.mono (by simp))⟩)
          have HB := Lib.hid (fun V => (show Calls Tryd.prog 55 #[.string ({ data := #[92] })] V fun e w' => e = .returned (.bool false) ∧ V = w' from by have := behind_any (92 :: r) V; rw [show brk (92 :: r) = false from by first | rfl | decide] at this; exact this))
          clear H0
          cases he : esc r n with
          | none =>
            have hr := esc_nil he
            subst hr
            have hW := wordF_bad hw (show stepW env .pl [92] n = .bad 4 from rfl)
            have HE := Lib.hid (fun V (hV : WH B rb w0 V K env kv m [] n) => hV.esc_none)
            have HW := Lib.hid hW
            clear h hW hw hs hl he
            go_wp2_with fail
            refine HX.out.mono ?_
            rintro _ v1 ⟨rfl, k1⟩
            have H0 := Lib.hid k1
            clear k1
            go_wp2_with fail
            refine (HB.out _).mono ?_
            rintro _ v2 ⟨rfl, rfl⟩
            go_wp2_with fail
            refine (HT.out _ H0.out).mono ?_
            rintro _ w1 ⟨rfl, h1⟩
            have H1 := Lib.hid h1
            clear h1
            go_wp2_with fail
            refine (HE.out _ H1.out).mono ?_
            rintro _ w2 ⟨rfl, h2⟩
            exact ⟨rfl, WP.bad_ HW.out h2⟩
          | some p =>
            obtain ⟨t, r2, n2⟩ := p
            obtain ⟨hl2, ht1⟩ := esc_len he
            have HE := Lib.hid (fun V (hV : WH B rb w0 V K env kv m r n) => hV.esc_some he)
            have ht2 : t.length ≤ 140737488355328 := by omega
            obtain ⟨g1, g2⟩ := wordF_go hw (show stepW env .pl (92 :: r) n = .go .pl (t) r2 n2 from by show escS .pl id r n = _; unfold escS; rw [he]; rfl)
            have HL := Lib.hid (show r2.length < f by omega)
            by_cases hlong : m.length + t.length > 8192
            · have HW := Lib.hid (g1 hlong)
              have HA := Lib.hid (fun V (hV : WH B rb w0 V K env kv m r2 n2) => hV.long (t) hlong ht2)
              clear h hw hs hl g1 g2 hlong he hl2 ht1 ht2
              generalize hS1 : bs t = S1 at *
              clear hS1
              go_wp2_with fail
              refine HX.out.mono ?_
              rintro _ v1 ⟨rfl, k1⟩
              have H0 := Lib.hid k1
              clear k1
              go_wp2_with fail
              refine (HB.out _).mono ?_
              rintro _ v2 ⟨rfl, rfl⟩
              go_wp2_with fail
              refine (HT.out _ H0.out).mono ?_
              rintro _ w1 ⟨rfl, h1⟩
              have H1 := Lib.hid h1
              clear h1
              go_wp2_with fail
              refine (HE.out _ H1.out).mono ?_
              rintro _ w2 ⟨rfl, h2⟩
              have H2 := Lib.hid h2
              clear h2
              go_wp2_with fail
              refine (HA.out _ H2.out).mono ?_
              rintro _ w4 ⟨rfl, h4⟩
              exact ⟨rfl, WP.bad_ HW.out h4⟩
            · have HW := Lib.hid (g2 hlong)
              have HA := Lib.hid (fun V (hV : WH B rb w0 V K env kv m r2 n2) => hV.add (t) hlong)
              clear h hw hs hl g1 g2 hlong he hl2 ht1 ht2
              generalize hS1 : bs t = S1 at *
              clear hS1
              go_wp2_with fail
              refine HX.out.mono ?_
              rintro _ v1 ⟨rfl, k1⟩
              have H0 := Lib.hid k1
              clear k1
              go_wp2_with fail
              refine (HB.out _).mono ?_
              rintro _ v2 ⟨rfl, rfl⟩
              go_wp2_with fail
              refine (HT.out _ H0.out).mono ?_
              rintro _ w1 ⟨rfl, h1⟩
              have H1 := Lib.hid h1
              clear h1
              go_wp2_with fail
              refine (HE.out _ H1.out).mono ?_
              rintro _ w2 ⟨rfl, h2⟩
              have H2 := Lib.hid h2
              clear h2
              go_wp2_with fail
              refine (HA.out _ H2.out).mono ?_
              rintro _ w4 ⟨rfl, kv4, h4⟩
              have H4 := Lib.hid h4
              clear h4
              go_wp2_with fail
              apply wp_goto
              exact ⟨f, Nat.lt_succ_self f, .pl, _, _, _, _, rfl, ⟨rfl, rfl, rfl⟩, H4.out, HL.out, HW.out⟩
        · skip
          by_cases hc36 : c = 36
          · subst hc36
            have H0 := Lib.hid h
            have hek := h.cx.eok
            have HT := Lib.hid (fun V (hV : WH B rb w0 V K env kv m (36 :: r) n) => (show Calls Tryd.prog 41 #[ptrV rb] V fun e w' => e = .returned (.string { data := #[36] }) ∧ WH B rb w0 w' K env kv m r n from hV.take))
            have HX := Lib.hid (show Calls Tryd.prog 36 #[ptrV rb] w fun e w' => e = .returned (.string ({ data := #[36] })) ∧ WH B rb w0 w' K env kv m (36 :: r) n from (next_cx h.cx).mono fun _ _ hx => ⟨hx.1, h.go hx.2.1 (hx.2.2.mono (by simp))⟩)
            have HB := Lib.hid (fun V => (show Calls Tryd.prog 55 #[.string ({ data := #[36] })] V fun e w' => e = .returned (.bool false) ∧ V = w' from by have := behind_any (36 :: r) V; rw [show brk (36 :: r) = false from by first | rfl | decide] at this; exact this))
            clear H0
            cases he : nam env r with
            | none =>
              have hW := wordF_bad hw (show stepW env .pl (36 :: r) n = .bad 4 from by show namS env .pl r n = _; unfold namS; rw [he])
              have HE := Lib.hid (fun V (hV : WH B rb w0 V K env kv m r n) => hV.nam_none he)
              have HW := Lib.hid hW
              clear h hW hw hs hl he
              go_wp2_with fail
              refine HX.out.mono ?_
              rintro _ v1 ⟨rfl, k1⟩
              have H0 := Lib.hid k1
              clear k1
              go_wp2_with fail
              refine (HB.out _).mono ?_
              rintro _ v2 ⟨rfl, rfl⟩
              go_wp2_with fail
              refine (HT.out _ H0.out).mono ?_
              rintro _ w1 ⟨rfl, h1⟩
              have H1 := Lib.hid h1
              clear h1
              go_wp2_with fail
              refine (HE.out _ H1.out).mono ?_
              rintro _ w2 ⟨rfl, h2⟩
              exact ⟨rfl, WP.bad_ HW.out h2⟩
            | some p =>
              obtain ⟨t, r2⟩ := p
              obtain ⟨hl2, ht2⟩ := nam_len hek he
              have HE := Lib.hid (fun V (hV : WH B rb w0 V K env kv m r n) => hV.nam_some he)
              obtain ⟨g1, g2⟩ := wordF_go hw (show stepW env .pl (36 :: r) n = .go .pl t r2 n from by show namS env .pl r n = _; unfold namS; rw [he])
              have HL := Lib.hid (show r2.length < f by omega)
              by_cases hlong : m.length + t.length > 8192
              · have HW := Lib.hid (g1 hlong)
                have HA := Lib.hid (fun V (hV : WH B rb w0 V K env kv m r2 n) => hV.long t hlong ht2)
                clear h hw hs hl g1 g2 hlong he hl2 ht2 hek
                generalize hS1 : bs t = S1 at *
                clear hS1
                go_wp2_with fail
                refine HX.out.mono ?_
                rintro _ v1 ⟨rfl, k1⟩
                have H0 := Lib.hid k1
                clear k1
                go_wp2_with fail
                refine (HB.out _).mono ?_
                rintro _ v2 ⟨rfl, rfl⟩
                go_wp2_with fail
                refine (HT.out _ H0.out).mono ?_
                rintro _ w1 ⟨rfl, h1⟩
                have H1 := Lib.hid h1
                clear h1
                go_wp2_with fail
                refine (HE.out _ H1.out).mono ?_
                rintro _ w2 ⟨rfl, h2⟩
                have H2 := Lib.hid h2
                clear h2
                go_wp2_with fail
                refine (HA.out _ H2.out).mono ?_
                rintro _ w4 ⟨rfl, h4⟩
                exact ⟨rfl, WP.bad_ HW.out h4⟩
              · have HW := Lib.hid (g2 hlong)
                have HA := Lib.hid (fun V (hV : WH B rb w0 V K env kv m r2 n) => hV.add t hlong)
                clear h hw hs hl g1 g2 hlong he hl2 ht2 hek
                generalize hS1 : bs t = S1 at *
                clear hS1
                go_wp2_with fail
                refine HX.out.mono ?_
                rintro _ v1 ⟨rfl, k1⟩
                have H0 := Lib.hid k1
                clear k1
                go_wp2_with fail
                refine (HB.out _).mono ?_
                rintro _ v2 ⟨rfl, rfl⟩
                go_wp2_with fail
                refine (HT.out _ H0.out).mono ?_
                rintro _ w1 ⟨rfl, h1⟩
                have H1 := Lib.hid h1
                clear h1
                go_wp2_with fail
                refine (HE.out _ H1.out).mono ?_
                rintro _ w2 ⟨rfl, h2⟩
                have H2 := Lib.hid h2
                clear h2
                go_wp2_with fail
                refine (HA.out _ H2.out).mono ?_
                rintro _ w4 ⟨rfl, kv4, h4⟩
                have H4 := Lib.hid h4
                clear h4
                go_wp2_with fail
                apply wp_goto
                exact ⟨f, Nat.lt_succ_self f, .pl, _, _, _, _, rfl, ⟨rfl, rfl, rfl⟩, H4.out, HL.out, HW.out⟩
          · skip
            have H0 := Lib.hid h
            have HT := Lib.hid (fun V (hV : WH B rb w0 V K env kv m (c :: r) n) => hV.take)
            have hn10 : nl c n = n := by unfold nl; rw [if_neg (brk_10 hb)]
            rw [hn10] at HT
            clear hn10
            have n0 := ne0 c
            have n39 := ne1 hc39
            have n34 := ne1 hc34
            have n92 := ne1 hc92
            have n36 := ne1 hc36
            obtain ⟨g1, g2⟩ := wordF_go hw (show stepW env .pl (c :: r) n = .go .pl [c] r (n) from by unfold stepW; simp only [if_neg hc39, if_neg hc34, if_neg hc92, if_neg hc36, hb, Bool.false_eq_true, if_false])
            have HL := Lib.hid hl
            have HX := Lib.hid (show Calls Tryd.prog 36 #[ptrV rb] w fun e w' => e = .returned (.string (bs [c])) ∧ WH B rb w0 w' K env kv m (c :: r) n from (next_cx h.cx).mono fun _ _ hx => ⟨hx.1, h.go hx.2.1 (hx.2.2.mono (by simp))⟩)
            have HB := Lib.hid (fun V => (show Calls Tryd.prog 55 #[.string (bs [c])] V fun e w' => e = .returned (.bool false) ∧ V = w' from by have := behind_any (c :: r) V; rw [hb] at this; exact this))
            clear H0
            by_cases hlong : m.length + [c].length > 8192
            · have HW := Lib.hid (g1 hlong)
              have HA := Lib.hid (fun V (hV : WH B rb w0 V K env kv m r (n)) => hV.long [c] hlong (by simp))
              clear h hw hs hl g1 g2 hlong
              generalize hS : bs [c] = S at *
              clear hS
              go_wp2_with fail
              refine HX.out.mono ?_
              rintro _ v1 ⟨rfl, k1⟩
              have H0 := Lib.hid k1
              clear k1
              go_wp2_with fail
              refine (HB.out _).mono ?_
              rintro _ v2 ⟨rfl, rfl⟩
              go_wp2_with fail
              refine (HT.out _ H0.out).mono ?_
              rintro _ w1 ⟨rfl, h1⟩
              have H1 := Lib.hid h1
              clear h1
              go_wp2_with fail
              refine (HA.out _ H1.out).mono ?_
              rintro _ w2 ⟨rfl, h2⟩
              exact ⟨rfl, WP.bad_ HW.out h2⟩
            · have HW := Lib.hid (g2 hlong)
              have HA := Lib.hid (fun V (hV : WH B rb w0 V K env kv m r (n)) => hV.add [c] hlong)
              clear h hw hs hl g1 g2 hlong
              generalize hS : bs [c] = S at *
              clear hS
              go_wp2_with fail
              refine HX.out.mono ?_
              rintro _ v1 ⟨rfl, k1⟩
              have H0 := Lib.hid k1
              clear k1
              go_wp2_with fail
              refine (HB.out _).mono ?_
              rintro _ v2 ⟨rfl, rfl⟩
              go_wp2_with fail
              refine (HT.out _ H0.out).mono ?_
              rintro _ w1 ⟨rfl, h1⟩
              have H1 := Lib.hid h1
              clear h1
              go_wp2_with fail
              refine (HA.out _ H1.out).mono ?_
              rintro _ w2 ⟨rfl, kv2, h2⟩
              have H2 := Lib.hid h2
              clear h2
              go_wp2_with fail
              apply wp_goto
              exact ⟨f, Nat.lt_succ_self f, .pl, _, _, _, _, rfl, ⟨rfl, rfl, rfl⟩, H2.out, HL.out, HW.out⟩
end
end Go.Proofs.YtplikjbajejciaaDoor.Lex
