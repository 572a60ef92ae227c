/- lex: what stands between words. -/
import Derived.Test.YtplikjbajejciaaDoorQrh
namespace Go.Proofs.YtplikjbajejciaaDoor.Lex
open Go.RowKit Go.Maps
attribute [local go_sem] Jx.normal Jx.exit Jx.ret Jx.panic Jx.goto
section
variable {B rb n f m : Nat} {w0 w : World} {K : Kp} {env : Env} {ls : List LV} {ws : List Wd} {s : Tx} {R : RR} {a : Act}
set_option maxRecDepth 100000 in
set_option maxHeartbeats 8000000 in
theorem rpass_0 (hf : Fr 62 (ptrV rb) a) (h : RH B w0.heap.size rb w K env ls ws s n) (ho : Only [rb] w0 w) (hs : s.length < f + 1) (hw : readF env (f + 1) (ls.map (·.2)) ws K.g s n = R) (hm : m = 3 * s.length + 1) :
    ∃ rest, findLabel readC 0 = some (Code.skip.seq rest) ∧ rest.wp Tryd.prog (Jx (fun l' a' w' => ∃ m', m' < m ∧ RJ B rb w0 env R m' l' a' w') (bodyPost Tryd.prog Tryd.f24 (RP B w0.heap.size rb w0 env R))) a w := by
  refine ⟨_, rfl, ?_⟩
  obtain ⟨u1, u2, u3, u4, u5, u6, u7, u8, u9, u10, u11, u12, u13, u14, u15, u16, u17, u18, u19, u20, u21, u22, u23, u24, u25, u26, u27, u28, u29, u30, u31, u32, u33, u34, u35, u36, u37, u38, u39, u40, u41, u42, u43, u44, u45, u46, u47, u48, u49, u50, u51, u52, u53, u54, u55, u56, u57, u58, u59, u60, u61, rfl⟩ := frame62 hf
  clear hf
  have H1 := Lib.hid h.bgn
  have c2 : w.cell? ⟨rb, 2, none⟩ = some (.int .i64 (n : Int)) := by obtain ⟨mv, hR, _⟩ := h.cx.place; exact BL.cell hR 2
  have c8 : w.cell? ⟨rb, 8, none⟩ = some (.int .i64 (K.bg : Int)) := by obtain ⟨mv, hR, _⟩ := h.cx.place; exact BL.cell hR 8
  have f8 : w.frozen? ⟨rb, 8, none⟩ = false := by obtain ⟨mv, hR, _⟩ := h.cx.place; exact BL.frozen hR 8
  have O0 := Lib.hid (ho.setCell (p := ⟨rb, 8, none⟩) (.inl (by simp)) (.int .i64 (n : Int)))

  have HM := Lib.hid hm
  clear hm
  rcases s with _ | ⟨c, r⟩
  · have HX := Lib.hid (show Calls Tryd.prog 36 #[ptrV rb] (w.setCell ⟨rb, 8, none⟩ (.int .i64 (n : Int))) fun e w' => e = .returned (.string { data := #[] }) ∧ RH B w0.heap.size rb w' (K.bgn n) env ls ws [] n ∧ Only [rb] (w.setCell ⟨rb, 8, none⟩ (.int .i64 (n : Int))) w' from H1.out.next)
    have HE := Lib.hid (fun V (hV : RH B w0.heap.size rb V (K.bgn n) env ls ws [] n) => endCommand_any hV)
    have HW := Lib.hid (readF_fin hw rfl)
    clear h hw hs ho
    go_wp2_with fail
    refine HX.out.mono ?_
    rintro _ w1 ⟨rfl, k1, o1⟩
    have H2 := Lib.hid k1
    have O2 := Lib.hid (O0.out.trans o1)
    clear k1 o1
    go_wp2_with fail
    refine (HE.out _ H2.out).mono ?_
    rintro _ w2 ⟨rfl, K2, ls2, k2, hm2, hg2, o2⟩
    have H3 := Lib.hid k2
    have O3 := Lib.hid (frame_own rfl O2.out H2.out.lown o2)
    have HM2 := Lib.hid hm2
    clear k2 o2 hm2 hg2
    go_wp2_with fail
    exact body_ret rfl rfl (RP.done_ HW.out HM2.out H3.out O3.out)
  · have hl : r.length < f := by rw [List.length_cons] at hs; omega
    by_cases hc10 : c = 10
    · subst hc10
      have HX := Lib.hid (show Calls Tryd.prog 36 #[ptrV rb] (w.setCell ⟨rb, 8, none⟩ (.int .i64 (n : Int))) fun e w' => e = .returned (.string ({ data := #[10] })) ∧ RH B w0.heap.size rb w' (K.bgn n) env ls ws (10 :: r) n ∧ Only [rb] (w.setCell ⟨rb, 8, none⟩ (.int .i64 (n : Int))) w' from H1.out.next)
      have HT := Lib.hid (fun V KK LL WW (hV : RH B w0.heap.size rb V KK env LL WW (10 :: r) n) => (show Calls Tryd.prog 41 #[ptrV rb] V fun e w' => e = .returned (.string ({ data := #[10] })) ∧ RH B w0.heap.size rb w' KK env LL WW r (n + 1) ∧ Only [rb] V w' from hV.take))
      have HE := Lib.hid (fun V (hV : RH B w0.heap.size rb V (K.bgn n) env ls ws (10 :: r) n) => endGroup_any hV)
      have HW := Lib.hid (readF_go hw (show stepR env (ls.map (·.2)) ws K.g (10 :: r) n = .go (endC (ls.map (·.2)) ws K.g) [] (grp (endC (ls.map (·.2)) ws K.g) K.g) r (n + 1) from by first | rfl | decide))
      have HL := Lib.hid hl
      clear h hw hs hl ho
      go_wp2_with fail
      refine HX.out.mono ?_
      rintro _ w1 ⟨rfl, k1, o1⟩
      have H2 := Lib.hid k1
      have O2 := Lib.hid (O0.out.trans o1)
      clear k1 o1
      go_wp2_with fail
      refine (HE.out _ H2.out).mono ?_
      rintro _ w2 ⟨rfl, K2, ls2, k2, hm2, hg2, o2⟩
      have H3 := Lib.hid k2
      have O3 := Lib.hid (frame_own rfl O2.out H2.out.lown o2)
      have HW3 := Lib.hid (show readF env f (ls2.map (·.2)) [] K2.g r (n + 1) = R by rw [hm2, hg2]; exact HW.out)
      clear k2 o2 hm2 hg2
      go_wp2_with fail
      refine (HT.out _ _ _ _ H3.out).mono ?_
      rintro _ w3 ⟨rfl, k3, o3⟩
      have H4 := Lib.hid k3
      have O4 := Lib.hid (O3.out.trans o3)
      clear k3 o3
      go_wp2_with fail
      apply wp_goto
      exact ⟨3 * r.length + 1, by rw [HM.out, List.length_cons]; omega, K2, ls2, [], r, _, ⟨rfl, rfl, rfl⟩, H4.out, O4.out, .btw f HL.out HW3.out⟩
    · skip
      by_cases hc59 : c = 59
      · subst hc59
        have HX := Lib.hid (show Calls Tryd.prog 36 #[ptrV rb] (w.setCell ⟨rb, 8, none⟩ (.int .i64 (n : Int))) fun e w' => e = .returned (.string ({ data := #[59] })) ∧ RH B w0.heap.size rb w' (K.bgn n) env ls ws (59 :: r) n ∧ Only [rb] (w.setCell ⟨rb, 8, none⟩ (.int .i64 (n : Int))) w' from H1.out.next)
        have HT := Lib.hid (fun V KK LL WW (hV : RH B w0.heap.size rb V KK env LL WW (59 :: r) n) => (show Calls Tryd.prog 41 #[ptrV rb] V fun e w' => e = .returned (.string ({ data := #[59] })) ∧ RH B w0.heap.size rb w' KK env LL WW r (n) ∧ Only [rb] V w' from hV.take))
        have HE := Lib.hid (fun V (hV : RH B w0.heap.size rb V (K.bgn n) env ls ws (59 :: r) n) => endCommand_any hV)
        have HW := Lib.hid (readF_go hw (show stepR env (ls.map (·.2)) ws K.g (59 :: r) n = .go (endC (ls.map (·.2)) ws K.g) [] (K.g) r (n) from by first | rfl | decide))
        have HL := Lib.hid hl
        clear h hw hs hl ho
        go_wp2_with fail
        refine HX.out.mono ?_
        rintro _ w1 ⟨rfl, k1, o1⟩
        have H2 := Lib.hid k1
        have O2 := Lib.hid (O0.out.trans o1)
        clear k1 o1
        go_wp2_with fail
        refine (HE.out _ H2.out).mono ?_
        rintro _ w2 ⟨rfl, K2, ls2, k2, hm2, hg2, o2⟩
        have H3 := Lib.hid k2
        have O3 := Lib.hid (frame_own rfl O2.out H2.out.lown o2)
        have HW3 := Lib.hid (show readF env f (ls2.map (·.2)) [] K2.g r (n) = R by rw [hm2, hg2]; exact HW.out)
        clear k2 o2 hm2 hg2
        go_wp2_with fail
        refine (HT.out _ _ _ _ H3.out).mono ?_
        rintro _ w3 ⟨rfl, k3, o3⟩
        have H4 := Lib.hid k3
        have O4 := Lib.hid (O3.out.trans o3)
        clear k3 o3
        go_wp2_with fail
        apply wp_goto
        exact ⟨3 * r.length + 1, by rw [HM.out, List.length_cons]; omega, K2, ls2, [], r, _, ⟨rfl, rfl, rfl⟩, H4.out, O4.out, .btw f HL.out HW3.out⟩
      · skip
        by_cases hc32 : c = 32
        · subst hc32
          have HX := Lib.hid (show Calls Tryd.prog 36 #[ptrV rb] (w.setCell ⟨rb, 8, none⟩ (.int .i64 (n : Int))) fun e w' => e = .returned (.string ({ data := #[32] })) ∧ RH B w0.heap.size rb w' (K.bgn n) env ls ws (32 :: r) n ∧ Only [rb] (w.setCell ⟨rb, 8, none⟩ (.int .i64 (n : Int))) w' from H1.out.next)
          have HT := Lib.hid (fun V KK LL WW (hV : RH B w0.heap.size rb V KK env LL WW (32 :: r) n) => (show Calls Tryd.prog 41 #[ptrV rb] V fun e w' => e = .returned (.string ({ data := #[32] })) ∧ RH B w0.heap.size rb w' KK env LL WW r (n) ∧ Only [rb] V w' from hV.take))
          have HW := Lib.hid (readF_go hw (show stepR env (ls.map (·.2)) ws K.g (32 :: r) n = .go (ls.map (·.2)) ws K.g r n from by first | rfl | decide))
          have HL := Lib.hid hl
          clear h hw hs hl ho
          go_wp2_with fail
          refine HX.out.mono ?_
          rintro _ w1 ⟨rfl, k1, o1⟩
          have H2 := Lib.hid k1
          have O2 := Lib.hid (O0.out.trans o1)
          clear k1 o1
          go_wp2_with fail
          refine (HT.out _ _ _ _ H2.out).mono ?_
          rintro _ w2 ⟨rfl, k2, o2⟩
          have H3 := Lib.hid k2
          have O3 := Lib.hid (O2.out.trans o2)
          clear k2 o2
          go_wp2_with fail
          apply wp_goto
          exact ⟨3 * r.length + 1, by rw [HM.out, List.length_cons]; omega, _, ls, ws, r, n, ⟨rfl, rfl, rfl⟩, H3.out, O3.out, .btw f HL.out HW.out⟩
        · skip
          by_cases hc9 : c = 9
          · subst hc9
            have HX := Lib.hid (show Calls Tryd.prog 36 #[ptrV rb] (w.setCell ⟨rb, 8, none⟩ (.int .i64 (n : Int))) fun e w' => e = .returned (.string ({ data := #[9] })) ∧ RH B w0.heap.size rb w' (K.bgn n) env ls ws (9 :: r) n ∧ Only [rb] (w.setCell ⟨rb, 8, none⟩ (.int .i64 (n : Int))) w' from H1.out.next)
            have HT := Lib.hid (fun V KK LL WW (hV : RH B w0.heap.size rb V KK env LL WW (9 :: r) n) => (show Calls Tryd.prog 41 #[ptrV rb] V fun e w' => e = .returned (.string ({ data := #[9] })) ∧ RH B w0.heap.size rb w' KK env LL WW r (n) ∧ Only [rb] V w' from hV.take))
            have HW := Lib.hid (readF_go hw (show stepR env (ls.map (·.2)) ws K.g (9 :: r) n = .go (ls.map (·.2)) ws K.g r n from by first | rfl | decide))
            have HL := Lib.hid hl
            clear h hw hs hl ho
            go_wp2_with fail
            refine HX.out.mono ?_
            rintro _ w1 ⟨rfl, k1, o1⟩
            have H2 := Lib.hid k1
            have O2 := Lib.hid (O0.out.trans o1)
            clear k1 o1
            go_wp2_with fail
            refine (HT.out _ _ _ _ H2.out).mono ?_
            rintro _ w2 ⟨rfl, k2, o2⟩
            have H3 := Lib.hid k2
            have O3 := Lib.hid (O2.out.trans o2)
            clear k2 o2
            go_wp2_with fail
            apply wp_goto
            exact ⟨3 * r.length + 1, by rw [HM.out, List.length_cons]; omega, _, ls, ws, r, n, ⟨rfl, rfl, rfl⟩, H3.out, O3.out, .btw f HL.out HW.out⟩
          · skip
            by_cases hc35 : c = 35
            · subst hc35
              have HX := Lib.hid (show Calls Tryd.prog 36 #[ptrV rb] (w.setCell ⟨rb, 8, none⟩ (.int .i64 (n : Int))) fun e w' => e = .returned (.string ({ data := #[35] })) ∧ RH B w0.heap.size rb w' (K.bgn n) env ls ws (35 :: r) n ∧ Only [rb] (w.setCell ⟨rb, 8, none⟩ (.int .i64 (n : Int))) w' from H1.out.next)
              have HW := Lib.hid (readF_go hw (show stepR env (ls.map (·.2)) ws K.g (35 :: r) n = .go (ls.map (·.2)) ws K.g (skipR (35 :: r)) n from by first | rfl | decide))
              have HL := Lib.hid (show (skipR (35 :: r)).length < f from Nat.lt_of_le_of_lt (show (skipR r).length ≤ r.length from skipR_le r) hl)
              clear hw hs hl
              clear h ho
              go_wp2_with fail
              refine HX.out.mono ?_
              rintro _ w1 ⟨rfl, k1, o1⟩
              have H2 := Lib.hid k1
              have O2 := Lib.hid (O0.out.trans o1)
              clear k1 o1
              go_wp2_with fail
              apply wp_goto
              exact ⟨3 * (35 :: r : Tx).length, by rw [HM.out]; omega, _, ls, ws, 35 :: r, n, ⟨rfl, rfl, rfl⟩, H2.out, O2.out, .rem0 f r rfl HL.out HW.out⟩
            · skip
              by_cases hc123 : c = 123
              · subst hc123
                have HX := Lib.hid (show Calls Tryd.prog 36 #[ptrV rb] (w.setCell ⟨rb, 8, none⟩ (.int .i64 (n : Int))) fun e w' => e = .returned (.string ({ data := #[123] })) ∧ RH B w0.heap.size rb w' (K.bgn n) env ls ws (123 :: r) n ∧ Only [rb] (w.setCell ⟨rb, 8, none⟩ (.int .i64 (n : Int))) w' from H1.out.next)
                have HW := Lib.hid hw
                have HL := Lib.hid hs
                clear hw hs hl
                clear h ho
                go_wp2_with fail
                refine HX.out.mono ?_
                rintro _ w1 ⟨rfl, k1, o1⟩
                have H2 := Lib.hid k1
                have O2 := Lib.hid (O0.out.trans o1)
                clear k1 o1
                go_wp2_with fail
                apply wp_goto
                exact ⟨3 * (123 :: r : Tx).length, by rw [HM.out]; omega, _, ls, ws, 123 :: r, n, ⟨rfl, rfl, rfl⟩, H2.out, O2.out, .blk (f + 1) r rfl rfl HL.out HW.out⟩
              · skip
                by_cases hc125 : c = 125
                · subst hc125
                  have HX := Lib.hid (show Calls Tryd.prog 36 #[ptrV rb] (w.setCell ⟨rb, 8, none⟩ (.int .i64 (n : Int))) fun e w' => e = .returned (.string ({ data := #[125] })) ∧ RH B w0.heap.size rb w' (K.bgn n) env ls ws (125 :: r) n ∧ Only [rb] (w.setCell ⟨rb, 8, none⟩ (.int .i64 (n : Int))) w' from H1.out.next)
                  have HR := Lib.hid (fun V (hV : RH B w0.heap.size rb V (K.bgn n) env ls ws (125 :: r) n) => hV.refuse 4)
                  have HW := Lib.hid (readF_bad hw (show stepR env (ls.map (·.2)) ws K.g (125 :: r) n = .bad 4 from by first | rfl | decide))
                  clear h hw hs hl ho
                  go_wp2_with fail
                  refine HX.out.mono ?_
                  rintro _ w1 ⟨rfl, k1, o1⟩
                  have H2 := Lib.hid k1
                  have O2 := Lib.hid (O0.out.trans o1)
                  clear k1 o1
                  go_wp2_with fail
                  refine (HR.out _ H2.out).mono ?_
                  rintro _ w2 ⟨rfl, rfl⟩
                  exact ⟨rfl, RP.bad_ HW.out O2.out⟩
                · skip
                  by_cases hc92 : c = 92
                  · subst hc92
                    have HX := Lib.hid (show Calls Tryd.prog 36 #[ptrV rb] (w.setCell ⟨rb, 8, none⟩ (.int .i64 (n : Int))) fun e w' => e = .returned (.string ({ data := #[92] })) ∧ RH B w0.heap.size rb w' (K.bgn n) env ls ws (92 :: r) n ∧ Only [rb] (w.setCell ⟨rb, 8, none⟩ (.int .i64 (n : Int))) w' from H1.out.next)
                    by_cases hq : r.head? = some 10
                    · obtain ⟨q, rfl⟩ : ∃ q, r = 10 :: q := by
                        cases r with
                        | nil => cases hq
                        | cons d q => injection hq with hq; exact ⟨q, by rw [hq]⟩
                      have HA := Lib.hid (fun V (hV : RH B w0.heap.size rb V (K.bgn n) env ls ws (92 :: 10 :: q) n) => (show Calls Tryd.prog 40 #[ptrV rb] V fun e w' => e = .returned (.string { data := #[10] }) ∧ RH B w0.heap.size rb w' (K.bgn n) env ls ws (92 :: 10 :: q) n ∧ Only [rb] V w' from hV.after))
                      have HT := Lib.hid (fun V (hV : RH B w0.heap.size rb V (K.bgn n) env ls ws (92 :: 10 :: q) n) => (show Calls Tryd.prog 41 #[ptrV rb] V fun e w' => e = .returned (.string { data := #[92] }) ∧ RH B w0.heap.size rb w' (K.bgn n) env ls ws (10 :: q) n ∧ Only [rb] V w' from hV.take))
                      have HU := Lib.hid (fun V (hV : RH B w0.heap.size rb V (K.bgn n) env ls ws (10 :: q) n) => (show Calls Tryd.prog 41 #[ptrV rb] V fun e w' => e = .returned (.string { data := #[10] }) ∧ RH B w0.heap.size rb w' (K.bgn n) env ls ws q (n + 1) ∧ Only [rb] V w' from hV.take))
                      have HW := Lib.hid (readF_go hw (show stepR env (ls.map (·.2)) ws K.g (92 :: 10 :: q) n = .go (ls.map (·.2)) ws K.g q (n + 1) from by first | rfl | decide))
                      have HL := Lib.hid (show q.length < f by rw [List.length_cons] at hl; omega)
                      clear h hw hs hl ho hq
                      go_wp2_with fail
                      refine HX.out.mono ?_
                      rintro _ w1 ⟨rfl, k1, o1⟩
                      have H2 := Lib.hid k1
                      have O2 := Lib.hid (O0.out.trans o1)
                      clear k1 o1
                      go_wp2_with fail
                      refine (HA.out _ H2.out).mono ?_
                      rintro _ w2 ⟨rfl, k2, o2⟩
                      have H3 := Lib.hid k2
                      have O3 := Lib.hid (O2.out.trans o2)
                      clear k2 o2
                      go_wp2_with fail
                      refine (HT.out _ H3.out).mono ?_
                      rintro _ w3 ⟨rfl, k3, o3⟩
                      have H4 := Lib.hid k3
                      have O4 := Lib.hid (O3.out.trans o3)
                      clear k3 o3
                      go_wp2_with fail
                      refine (HU.out _ H4.out).mono ?_
                      rintro _ w4 ⟨rfl, k4, o4⟩
                      have H5 := Lib.hid k4
                      have O5 := Lib.hid (O4.out.trans o4)
                      clear k4 o4
                      go_wp2_with fail
                      apply wp_goto
                      exact ⟨3 * q.length + 1, by rw [HM.out, List.length_cons, List.length_cons]; omega, _, ls, ws, q, _, ⟨rfl, rfl, rfl⟩, H5.out, O5.out, .btw f HL.out HW.out⟩
                    · have HA := Lib.hid (fun V (hV : RH B w0.heap.size rb V (K.bgn n) env ls ws (92 :: r) n) => hV.after)
                      have g1 : ((bs (r.take 1)).toList != [10]) = true := by
                        rw [bs_tl]
                        cases r with
                        | nil => rfl
                        | cons d q =>
                          have hd : ¬ d = 10 := fun e => hq (by rw [e]; rfl)
                          simp [bne, hd]
                      have g2 : ((bs (r.take 1)).toList == [10]) = false := by
                        cases hx : ((bs (r.take 1)).toList == [10]) with
                        | false => rfl
                        | true => rw [bne, hx] at g1; cases g1
                      have HS := Lib.hid (show stepR env (ls.map (·.2)) ws K.g (92 :: r) n = wordS env (ls.map (·.2)) ws K.g (92 :: r) n from by unfold stepR wordS; simp only [hq, and_false, if_false]; rfl)
                      have HW := Lib.hid hw
                      have HL := Lib.hid hs
                      clear h hw hs hl ho hq
                      generalize bs (r.take 1) = S at *
                      go_wp2_with fail
                      refine HX.out.mono ?_
                      rintro _ w1 ⟨rfl, k1, o1⟩
                      have H2 := Lib.hid k1
                      have O2 := Lib.hid (O0.out.trans o1)
                      clear k1 o1
                      go_wp2_with fail
                      refine (HA.out _ H2.out).mono ?_
                      rintro _ w2 ⟨rfl, k2, o2⟩
                      have H3 := Lib.hid k2
                      have O3 := Lib.hid (O2.out.trans o2)
                      clear k2 o2
                      go_wp2_with fail
                      apply wp_goto
                      exact ⟨3 * (92 :: r : Tx).length, by rw [HM.out]; omega, _, ls, ws, 92 :: r, n, ⟨rfl, rfl, rfl⟩, H3.out, O3.out, .wrd (f + 1) 92 r rfl rfl HS.out rfl HL.out HW.out⟩
                  · skip
                    have HX := Lib.hid (show Calls Tryd.prog 36 #[ptrV rb] (w.setCell ⟨rb, 8, none⟩ (.int .i64 (n : Int))) fun e w' => e = .returned (.string (bs [c])) ∧ RH B w0.heap.size rb w' (K.bgn n) env ls ws (c :: r) n ∧ Only [rb] (w.setCell ⟨rb, 8, none⟩ (.int .i64 (n : Int))) w' from H1.out.next)
                    have n0 := ne0 c
                    have n10 := ne1 hc10
                    have n59 := ne1 hc59
                    have n32 := ne1 hc32
                    have n9 := ne1 hc9
                    have n35 := ne1 hc35
                    have n123 := ne1 hc123
                    have n125 := ne1 hc125
                    have n92 := ne1 hc92
                    have HB := Lib.hid (show brk (c :: r) = false from by unfold brk; simp [hc10, hc59, hc32, hc9])
                    have HS := Lib.hid (show stepR env (ls.map (·.2)) ws K.g (c :: r) n = wordS env (ls.map (·.2)) ws K.g (c :: r) n from by unfold stepR wordS; simp only [hc10, hc59, hc32, hc9, hc35, hc123, hc125, hc92, or_self, false_and, if_false]; rfl)
                    have HW := Lib.hid hw
                    have HL := Lib.hid hs
                    clear h hw hs hl ho
                    generalize bs [c] = S at *
                    go_wp2_with fail
                    refine HX.out.mono ?_
                    rintro _ w1 ⟨rfl, k1, o1⟩
                    have H2 := Lib.hid k1
                    have O2 := Lib.hid (O0.out.trans o1)
                    clear k1 o1
                    go_wp2_with fail
                    apply wp_goto
                    exact ⟨3 * (c :: r : Tx).length, by rw [HM.out]; omega, _, ls, ws, c :: r, n, ⟨rfl, rfl, rfl⟩, H2.out, O2.out, .wrd (f + 1) c r rfl HB.out HS.out rfl HL.out HW.out⟩
end
end Go.Proofs.YtplikjbajejciaaDoor.Lex
