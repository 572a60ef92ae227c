/- lex: a block. -/
import Derived.Test.YtplikjbajejciaaDoorQbk
namespace Go.Proofs.YtplikjbajejciaaDoor.Lex
open Go.RowKit Go.Maps
attribute [local go_sem] Jx.normal Jx.exit Jx.ret Jx.panic Jx.goto
section
variable {B rb n f : Nat} {w0 w : World} {K : Kp} {env : Env} {r s : Tx} {d : Int} {O : Option (Tx × Nat)} {a : Act}
theorem onB_cases {d : Int} {s : Tx} {n : Nat} {c : UInt8} {t : Tx} {m : Nat} (hw : blockF (f + 1) .pl d (c :: t) m = O) {d' : Int} (hst : stepB .pl d (c :: t) m = onB d' s n) :
    (0 < d' → blockF f .pl d' s n = O) ∧ (¬ 0 < d' → brk s = true → O = some (s, n)) ∧ (¬ 0 < d' → brk s = false → O = none) := by
  refine ⟨fun h => blockF_go hw (hst.trans (by unfold onB; rw [if_pos h])), fun h hb => blockF_fin hw (hst.trans (by unfold onB; rw [if_neg h, if_pos hb])), fun h hb => blockF_bad hw (hst.trans (by unfold onB; rw [if_neg h, hb]; rfl))⟩
set_option maxRecDepth 100000 in
set_option maxHeartbeats 8000000 in
theorem bpass_pl (hf : Fb (ptrV rb) (.int .i64 d) (.int .i64 ((K.T.length - r.length : Nat) : Int)) a) (h : BH B rb w0 w K env d s n) (hst : s.length ≤ r.length ∨ (s = 123 :: r ∧ d = 0)) (hr : r <:+ K.T) (hs : s.length < f + 1) (hw : blockF (f + 1) .pl d s n = O) :
    ∃ rest, findLabel blockC 2 = some (Code.skip.seq rest) ∧ rest.wp Tryd.prog (Jx (fun l' a' w' => ∃ f', f' < f + 1 ∧ BJ B rb w0 K env r O f' l' a' w') (bodyPost Tryd.prog Tryd.f44 (BP B rb w0 K env r O))) a w := by
  refine ⟨_, rfl, ?_⟩
  obtain ⟨u1, u2, u5, u6, u7, u8, u9, u10, u11, u12, u13, u14, u15, u16, u17, u18, u19, u20, u21, u22, u23, u24, u25, u26, u27, u28, u29, u30, u31, u32, u33, u34, u35, u36, u37, u38, u39, u40, u41, u42, u43, u44, u45, u46, u47, u48, u49, u50, u51, u52, u53, u54, u55, u56, u57, u58, u59, u60, u61, u62, u63, u64, u65, u66, u67, u68, u69, u70, rfl⟩ := frameb hf
  clear hf
  rcases s with _ | ⟨c, t⟩
  · have hW := blockF_bad hw rfl
    have H := Lib.hid h
    have HW := Lib.hid hW
    clear h hW hw hs
    go_wp2_with fail
    refine H.out.take_end.mono ?_
    rintro _ w1 ⟨rfl, h1⟩
    have H1 := Lib.hid h1
    clear h1
    go_wp2_with fail
    refine (H1.out.refuse 4).mono ?_
    rintro _ w2 ⟨rfl, h2⟩
    exact ⟨rfl, BP.bad_ HW.out h2⟩
  · have hl : t.length < f := by simp at hs; omega
    by_cases hc123 : c = 123
    · subst hc123
      have HT := Lib.hid (show Calls Tryd.prog 41 #[ptrV rb] w fun e w' => e = .returned (.string { data := #[123] }) ∧ BH B rb w0 w' K env (d + 1) t n from h.take2 (d + 1) (by omega) (by omega))
      have HC := Lib.hid (onB_cases hw (show stepB .pl d (123 :: t) n = onB (d + 1) t n from by first | rfl | decide))
      have HL := Lib.hid hl
      have hst2 : t.length ≤ r.length := by
        rcases hst with h | ⟨h, _⟩
        · simp at h; omega
        · injection h with _ h; rw [h]; exact Nat.le_refl _
      have hsr2 : ¬ 0 < d + 1 → t.length + 1 ≤ r.length := fun hd => by
        rcases hst with h | ⟨h, h0⟩
        · simpa using h
        · omega
      have z1 : d + 1 ≤ 65538 := by have := h.hi; simp at this; omega
      have z2 : -65538 ≤ d := by have := h.lo; simp at this; omega
      have hml := h.cx.most
      clear hw hs hl hst
      clear h
      by_cases hd : 0 < d + 1
      · have HW := Lib.hid (HC.out.1 hd)
        clear hr hml HC hsr2
        generalize hS0 : bs (t.take 1) = S0 at *
        clear hS0
        go_wp2_with fail
        refine HT.out.mono ?_
        rintro _ w1 ⟨rfl, h1⟩
        have H1 := Lib.hid h1
        clear h1
        go_wp2_with fail
        apply wp_goto
        exact ⟨f, Nat.lt_succ_self f, .pl, d + 1, t, _, rfl, ⟨rfl, rfl, rfl, rfl, rfl⟩, H1.out, .inl hst2, HL.out, HW.out⟩
      · have hd0 : ¬ 0 < d + 1 := by omega
        have hd2 : d + 1 ≤ 0 := by omega
        have HB := Lib.hid (fun V => behind_any t V)
        have hsr := hsr2 hd0
        have HX := Lib.hid (fun V N (hV : BH B rb w0 V K env (d + 1) t N) => hV.next)
        cases hb : brk t with
        | false =>
          have HW := Lib.hid (HC.out.2.2 hd0 hb)
          rw [hb] at HB
          clear hr hml HC hsr2 hb hd0 hd
          generalize hS0 : bs (t.take 1) = S0 at *
          clear hS0
          go_wp2_with fail
          refine HT.out.mono ?_
          rintro _ w1 ⟨rfl, h1⟩
          have H1 := Lib.hid h1
          clear h1
          go_wp2_with fail
          refine (HX.out _ _ H1.out).mono ?_
          rintro _ w5 ⟨rfl, k1⟩
          have H5 := Lib.hid k1
          clear k1
          go_wp2_with fail
          refine (HB.out _).mono ?_
          rintro _ w6 ⟨rfl, rfl⟩
          go_wp2_with fail
          refine (H5.out.refuse 4).mono ?_
          rintro _ w7 ⟨rfl, k3⟩
          exact ⟨rfl, BP.bad_ HW.out k3⟩
        | true =>
          have HW := Lib.hid (HC.out.2.1 hd0 hb)
          rw [hb] at HB
          have hrl := hr.length_le
          have EX := Lib.hid (show (bs K.T).extract (K.T.length - r.length) (K.T.length - (t.length + 1)) = bs (r.take (r.length - (t.length + 1))) by
            rw [cut_ext, List.drop_take]
            rw [← List.suffix_iff_eq_drop.1 hr]
            congr 2
            omega)
          obtain ⟨i0, hi0⟩ : ∃ i0, i0 = K.T.length - r.length := ⟨_, rfl⟩
          obtain ⟨i1, hi1⟩ : ∃ i1, i1 = K.T.length - (t.length + 1) := ⟨_, rfl⟩
          rw [← hi0, ← hi1] at EX
          rw [← hi0]
          have z3 : (i0 : Int) ≤ (i1 : Int) := by omega
          have z4 : (i1 : Int) ≤ ((bs K.T).size : Int) := by rw [bs_size]; omega
          have hii : K.T.length - t.length = i1 + 1 := by omega
          have z5 : (i1 : Int) ≤ 65536 := by omega
          have HI := Lib.hid hii
          clear hr hml HC hsr2 hb hd0 hd hi0 hi1 hii hrl hsr
          generalize hS0 : bs (t.take 1) = S0 at *
          clear hS0
          go_wp2_with fail
          refine HT.out.mono ?_
          rintro _ w1 ⟨rfl, h1⟩
          have H1 := Lib.hid h1
          clear h1
          go_wp2_with fail
          refine (HX.out _ _ H1.out).mono ?_
          rintro _ w5 ⟨rfl, k1⟩
          have H5 := Lib.hid k1
          clear k1
          go_wp2_with fail
          refine (HB.out _).mono ?_
          rintro _ w6 ⟨rfl, rfl⟩
          have d0 : w5.cell? ⟨rb, 0, none⟩ = some (.string (bs K.T)) := by obtain ⟨mv, hR, _⟩ := H5.out.cx.place; exact BL.cell hR 0
          have d1 : w5.cell? ⟨rb, 1, none⟩ = some (.int .i64 ((i1 : Int) + 1)) := by
            obtain ⟨mv, hR, _⟩ := H5.out.cx.place
            have := BL.cell hR 1
            rw [this]
            show some (Value.int .i64 ((K.T.length - t.length : Nat) : Int)) = _
            rw [HI.out]; rfl
          have zw : IntKind.i64.wrap ((i1 : Int) + 1 - 1) = (i1 : Int) := by rw [IntWalk.i64_in _ (by omega)]; omega
          generalize bs K.T = TT at *
          go_wp2_with fail
          go_quiet (fail)
          have OO := Lib.hid (only_drewN H5.out.only nq)
          have CC := Lib.hid (H5.out.cx.same (only_drewN (Only.refl [] _) nq))
          generalize World.drewN w5 nq = VV at *
          go_wp2_with fail
          go_ret
          have := BP.got_ (r := r) HW.out CC.out OO.out
          rw [← EX.out] at this
          exact this
    · skip
      by_cases hc125 : c = 125
      · subst hc125
        have HT := Lib.hid (show Calls Tryd.prog 41 #[ptrV rb] w fun e w' => e = .returned (.string { data := #[125] }) ∧ BH B rb w0 w' K env (d - 1) t n from h.take2 (d - 1) (by omega) (by omega))
        have HC := Lib.hid (onB_cases hw (show stepB .pl d (125 :: t) n = onB (d - 1) t n from by first | rfl | decide))
        have HL := Lib.hid hl
        have hst2 : t.length ≤ r.length := by
          rcases hst with h | ⟨h, _⟩
          · simp at h; omega
          · simp at h
        have hsr2 : ¬ 0 < d - 1 → t.length + 1 ≤ r.length := fun hd => by
          rcases hst with h | ⟨h, h0⟩
          · simpa using h
          · simp at h
        have z1 : d + 1 ≤ 65538 := by have := h.hi; simp at this; omega
        have z2 : -65538 ≤ d := by have := h.lo; simp at this; omega
        have hml := h.cx.most
        clear hw hs hl hst
        clear h
        by_cases hd : 1 < d
        · have HW := Lib.hid (HC.out.1 (by omega))
          clear hr hml HC hsr2
          generalize hS0 : bs (t.take 1) = S0 at *
          clear hS0
          go_wp2_with fail
          refine HT.out.mono ?_
          rintro _ w1 ⟨rfl, h1⟩
          have H1 := Lib.hid h1
          clear h1
          go_wp2_with fail
          apply wp_goto
          exact ⟨f, Nat.lt_succ_self f, .pl, d - 1, t, _, rfl, ⟨rfl, rfl, rfl, rfl, rfl⟩, H1.out, .inl hst2, HL.out, HW.out⟩
        · have hd0 : ¬ 0 < d - 1 := by omega
          have hd2 : d ≤ 1 := by omega
          have HB := Lib.hid (fun V => behind_any t V)
          have hsr := hsr2 hd0
          have HX := Lib.hid (fun V N (hV : BH B rb w0 V K env (d - 1) t N) => hV.next)
          cases hb : brk t with
          | false =>
            have HW := Lib.hid (HC.out.2.2 hd0 hb)
            rw [hb] at HB
            clear hr hml HC hsr2 hb hd0 hd
            generalize hS0 : bs (t.take 1) = S0 at *
            clear hS0
            go_wp2_with fail
            refine HT.out.mono ?_
            rintro _ w1 ⟨rfl, h1⟩
            have H1 := Lib.hid h1
            clear h1
            go_wp2_with fail
            refine (HX.out _ _ H1.out).mono ?_
            rintro _ w5 ⟨rfl, k1⟩
            have H5 := Lib.hid k1
            clear k1
            go_wp2_with fail
            refine (HB.out _).mono ?_
            rintro _ w6 ⟨rfl, rfl⟩
            go_wp2_with fail
            refine (H5.out.refuse 4).mono ?_
            rintro _ w7 ⟨rfl, k3⟩
            exact ⟨rfl, BP.bad_ HW.out k3⟩
          | true =>
            have HW := Lib.hid (HC.out.2.1 hd0 hb)
            rw [hb] at HB
            have hrl := hr.length_le
            have EX := Lib.hid (show (bs K.T).extract (K.T.length - r.length) (K.T.length - (t.length + 1)) = bs (r.take (r.length - (t.length + 1))) by
              rw [cut_ext, List.drop_take]
              rw [← List.suffix_iff_eq_drop.1 hr]
              congr 2
              omega)
            obtain ⟨i0, hi0⟩ : ∃ i0, i0 = K.T.length - r.length := ⟨_, rfl⟩
            obtain ⟨i1, hi1⟩ : ∃ i1, i1 = K.T.length - (t.length + 1) := ⟨_, rfl⟩
            rw [← hi0, ← hi1] at EX
            rw [← hi0]
            have z3 : (i0 : Int) ≤ (i1 : Int) := by omega
            have z4 : (i1 : Int) ≤ ((bs K.T).size : Int) := by rw [bs_size]; omega
            have hii : K.T.length - t.length = i1 + 1 := by omega
            have z5 : (i1 : Int) ≤ 65536 := by omega
            have HI := Lib.hid hii
            clear hr hml HC hsr2 hb hd0 hd hi0 hi1 hii hrl hsr
            generalize hS0 : bs (t.take 1) = S0 at *
            clear hS0
            go_wp2_with fail
            refine HT.out.mono ?_
            rintro _ w1 ⟨rfl, h1⟩
            have H1 := Lib.hid h1
            clear h1
            go_wp2_with fail
            refine (HX.out _ _ H1.out).mono ?_
            rintro _ w5 ⟨rfl, k1⟩
            have H5 := Lib.hid k1
            clear k1
            go_wp2_with fail
            refine (HB.out _).mono ?_
            rintro _ w6 ⟨rfl, rfl⟩
            have d0 : w5.cell? ⟨rb, 0, none⟩ = some (.string (bs K.T)) := by obtain ⟨mv, hR, _⟩ := H5.out.cx.place; exact BL.cell hR 0
            have d1 : w5.cell? ⟨rb, 1, none⟩ = some (.int .i64 ((i1 : Int) + 1)) := by
              obtain ⟨mv, hR, _⟩ := H5.out.cx.place
              have := BL.cell hR 1
              rw [this]
              show some (Value.int .i64 ((K.T.length - t.length : Nat) : Int)) = _
              rw [HI.out]; rfl
            have zw : IntKind.i64.wrap ((i1 : Int) + 1 - 1) = (i1 : Int) := by rw [IntWalk.i64_in _ (by omega)]; omega
            generalize bs K.T = TT at *
            go_wp2_with fail
            go_quiet (fail)
            have OO := Lib.hid (only_drewN H5.out.only nq)
            have CC := Lib.hid (H5.out.cx.same (only_drewN (Only.refl [] _) nq))
            generalize World.drewN w5 nq = VV at *
            go_wp2_with fail
            go_ret
            have := BP.got_ (r := r) HW.out CC.out OO.out
            rw [← EX.out] at this
            exact this
      · skip
        by_cases hc92 : c = 92
        · subst hc92
          have HT := Lib.hid (show Calls Tryd.prog 41 #[ptrV rb] w fun e w' => e = .returned (.string { data := #[92] }) ∧ BH B rb w0 w' K env d t n from h.take)
          have HE := Lib.hid (fun V (hV : BH B rb w0 V K env d t n) => hV.tk)
          have htl : (tk t n).1.length ≤ t.length := by cases t <;> simp [tk]
          have HC := Lib.hid (onB_cases hw (show stepB .pl d (92 :: t) n = onB d (tk t n).1 (tk t n).2 from by first | rfl | decide))
          have HL := Lib.hid (show (tk t n).1.length < f by omega)
          have hst2 : (tk t n).1.length ≤ r.length := by
            rcases hst with h | ⟨h, _⟩
            · simp at h; omega
            · simp at h
          have hsr2 : ¬ 0 < d → (tk t n).1.length + 1 ≤ r.length := fun hd => by
            rcases hst with h | ⟨h, h0⟩
            · simp at h; omega
            · simp at h
          have hml := h.cx.most
          clear h hw hs hl hst htl
          generalize (tk t n).1 = t1 at *
          generalize (tk t n).2 = n1 at *
          generalize bs (t.take 1) = S at *
          by_cases hd : 0 < d
          · have HW := Lib.hid (HC.out.1 hd)
            clear hr hml HC hsr2
            generalize hS0 : bs (t1.take 1) = S0 at *
            clear hS0
            go_wp2_with fail
            refine HT.out.mono ?_
            rintro _ w1 ⟨rfl, h1⟩
            have H1 := Lib.hid h1
            clear h1
            go_wp2_with fail
            refine (HE.out _ H1.out).mono ?_
            rintro _ w2 ⟨rfl, h2⟩
            have H2 := Lib.hid h2
            clear h2
            go_wp2_with fail
            apply wp_goto
            exact ⟨f, Nat.lt_succ_self f, .pl, d, t1, _, rfl, ⟨rfl, rfl, rfl, rfl, rfl⟩, H2.out, .inl hst2, HL.out, HW.out⟩
          · have hd0 : ¬ 0 < d := by omega
            have hd2 : d ≤ 0 := by omega
            have HB := Lib.hid (fun V => behind_any t1 V)
            have hsr := hsr2 hd0
            have HX := Lib.hid (fun V N (hV : BH B rb w0 V K env (d) t1 N) => hV.next)
            cases hb : brk t1 with
            | false =>
              have HW := Lib.hid (HC.out.2.2 hd0 hb)
              rw [hb] at HB
              clear hr hml HC hsr2 hb hd0 hd
              generalize hS0 : bs (t1.take 1) = S0 at *
              clear hS0
              go_wp2_with fail
              refine HT.out.mono ?_
              rintro _ w1 ⟨rfl, h1⟩
              have H1 := Lib.hid h1
              clear h1
              go_wp2_with fail
              refine (HE.out _ H1.out).mono ?_
              rintro _ w2 ⟨rfl, h2⟩
              have H2 := Lib.hid h2
              clear h2
              go_wp2_with fail
              refine (HX.out _ _ H2.out).mono ?_
              rintro _ w5 ⟨rfl, k1⟩
              have H5 := Lib.hid k1
              clear k1
              go_wp2_with fail
              refine (HB.out _).mono ?_
              rintro _ w6 ⟨rfl, rfl⟩
              go_wp2_with fail
              refine (H5.out.refuse 4).mono ?_
              rintro _ w7 ⟨rfl, k3⟩
              exact ⟨rfl, BP.bad_ HW.out k3⟩
            | true =>
              have HW := Lib.hid (HC.out.2.1 hd0 hb)
              rw [hb] at HB
              have hrl := hr.length_le
              have EX := Lib.hid (show (bs K.T).extract (K.T.length - r.length) (K.T.length - (t1.length + 1)) = bs (r.take (r.length - (t1.length + 1))) by
                rw [cut_ext, List.drop_take]
                rw [← List.suffix_iff_eq_drop.1 hr]
                congr 2
                omega)
              obtain ⟨i0, hi0⟩ : ∃ i0, i0 = K.T.length - r.length := ⟨_, rfl⟩
              obtain ⟨i1, hi1⟩ : ∃ i1, i1 = K.T.length - (t1.length + 1) := ⟨_, rfl⟩
              rw [← hi0, ← hi1] at EX
              rw [← hi0]
              have z3 : (i0 : Int) ≤ (i1 : Int) := by omega
              have z4 : (i1 : Int) ≤ ((bs K.T).size : Int) := by rw [bs_size]; omega
              have hii : K.T.length - t1.length = i1 + 1 := by omega
              have z5 : (i1 : Int) ≤ 65536 := by omega
              have HI := Lib.hid hii
              clear hr hml HC hsr2 hb hd0 hd hi0 hi1 hii hrl hsr
              generalize hS0 : bs (t1.take 1) = S0 at *
              clear hS0
              go_wp2_with fail
              refine HT.out.mono ?_
              rintro _ w1 ⟨rfl, h1⟩
              have H1 := Lib.hid h1
              clear h1
              go_wp2_with fail
              refine (HE.out _ H1.out).mono ?_
              rintro _ w2 ⟨rfl, h2⟩
              have H2 := Lib.hid h2
              clear h2
              go_wp2_with fail
              refine (HX.out _ _ H2.out).mono ?_
              rintro _ w5 ⟨rfl, k1⟩
              have H5 := Lib.hid k1
              clear k1
              go_wp2_with fail
              refine (HB.out _).mono ?_
              rintro _ w6 ⟨rfl, rfl⟩
              have d0 : w5.cell? ⟨rb, 0, none⟩ = some (.string (bs K.T)) := by obtain ⟨mv, hR, _⟩ := H5.out.cx.place; exact BL.cell hR 0
              have d1 : w5.cell? ⟨rb, 1, none⟩ = some (.int .i64 ((i1 : Int) + 1)) := by
                obtain ⟨mv, hR, _⟩ := H5.out.cx.place
                have := BL.cell hR 1
                rw [this]
                show some (Value.int .i64 ((K.T.length - t1.length : Nat) : Int)) = _
                rw [HI.out]; rfl
              have zw : IntKind.i64.wrap ((i1 : Int) + 1 - 1) = (i1 : Int) := by rw [IntWalk.i64_in _ (by omega)]; omega
              generalize bs K.T = TT at *
              go_wp2_with fail
              go_quiet (fail)
              have OO := Lib.hid (only_drewN H5.out.only nq)
              have CC := Lib.hid (H5.out.cx.same (only_drewN (Only.refl [] _) nq))
              generalize World.drewN w5 nq = VV at *
              go_wp2_with fail
              go_ret
              have := BP.got_ (r := r) HW.out CC.out OO.out
              rw [← EX.out] at this
              exact this
        · skip
          by_cases hc39 : c = 39
          · subst hc39
            have HT := Lib.hid (show Calls Tryd.prog 41 #[ptrV rb] w fun e w' => e = .returned (.string { data := #[39] }) ∧ BH B rb w0 w' K env d t n from h.take)
            have hW := blockF_go hw (show stepB .pl d (39 :: t) n = .go .sg d t n from by first | rfl | decide)
            have HW := Lib.hid hW
            have HL := Lib.hid hl
            have hst2 : t.length ≤ r.length := by
              rcases hst with h | ⟨h, _⟩
              · simp at h; omega
              · simp at h
            clear h hW hw hs hl hst
            go_wp2_with fail
            refine HT.out.mono ?_
            rintro _ w1 ⟨rfl, h1⟩
            have H1 := Lib.hid h1
            clear h1
            go_wp2_with fail
            apply wp_goto
            exact ⟨f, Nat.lt_succ_self f, .sg, d, t, _, rfl, ⟨rfl, rfl, rfl, rfl, rfl⟩, H1.out, .inl hst2, HL.out, HW.out⟩
          · skip
            by_cases hc34 : c = 34
            · subst hc34
              have HT := Lib.hid (show Calls Tryd.prog 41 #[ptrV rb] w fun e w' => e = .returned (.string { data := #[34] }) ∧ BH B rb w0 w' K env d t n from h.take)
              have hW := blockF_go hw (show stepB .pl d (34 :: t) n = .go .db d t n from by first | rfl | decide)
              have HW := Lib.hid hW
              have HL := Lib.hid hl
              have hst2 : t.length ≤ r.length := by
                rcases hst with h | ⟨h, _⟩
                · simp at h; omega
                · simp at h
              clear h hW hw hs hl hst
              go_wp2_with fail
              refine HT.out.mono ?_
              rintro _ w1 ⟨rfl, h1⟩
              have H1 := Lib.hid h1
              clear h1
              go_wp2_with fail
              apply wp_goto
              exact ⟨f, Nat.lt_succ_self f, .db, d, t, _, rfl, ⟨rfl, rfl, rfl, rfl, rfl⟩, H1.out, .inl hst2, HL.out, HW.out⟩
            · skip
              have HT := Lib.hid h.take
              have n0 := ne0 c
              have n123 := ne1 hc123
              have n125 := ne1 hc125
              have n92 := ne1 hc92
              have n39 := ne1 hc39
              have n34 := ne1 hc34
              have HC := Lib.hid (onB_cases hw (show stepB .pl d (c :: t) n = onB d t (nl c n) from by unfold stepB; simp only [if_neg hc123, if_neg hc125, if_neg hc92, if_neg hc39, if_neg hc34]))
              have HL := Lib.hid hl
              have hst2 : t.length ≤ r.length := by
                rcases hst with h | ⟨h, _⟩
                · simp at h; omega
                · injection h with h1 h2; exact absurd h1 hc123
              have hsr2 : ¬ 0 < d → t.length + 1 ≤ r.length := fun hd => by
                rcases hst with h | ⟨h, h0⟩
                · simpa using h
                · injection h with h1 h2; exact absurd h1 hc123
              have hml := h.cx.most
              clear h hw hs hl hst
              generalize bs [c] = S at *
              by_cases hd : 0 < d
              · have HW := Lib.hid (HC.out.1 hd)
                clear hr hml HC hsr2
                generalize hS0 : bs (t.take 1) = S0 at *
                clear hS0
                go_wp2_with fail
                refine HT.out.mono ?_
                rintro _ w1 ⟨rfl, h1⟩
                have H1 := Lib.hid h1
                clear h1
                go_wp2_with fail
                apply wp_goto
                exact ⟨f, Nat.lt_succ_self f, .pl, d, t, _, rfl, ⟨rfl, rfl, rfl, rfl, rfl⟩, H1.out, .inl hst2, HL.out, HW.out⟩
              · have hd0 : ¬ 0 < d := by omega
                have hd2 : d ≤ 0 := by omega
                have HB := Lib.hid (fun V => behind_any t V)
                have hsr := hsr2 hd0
                have HX := Lib.hid (fun V N (hV : BH B rb w0 V K env (d) t N) => hV.next)
                cases hb : brk t with
                | false =>
                  have HW := Lib.hid (HC.out.2.2 hd0 hb)
                  rw [hb] at HB
                  clear hr hml HC hsr2 hb hd0 hd
                  generalize hS0 : bs (t.take 1) = S0 at *
                  clear hS0
                  go_wp2_with fail
                  refine HT.out.mono ?_
                  rintro _ w1 ⟨rfl, h1⟩
                  have H1 := Lib.hid h1
                  clear h1
                  go_wp2_with fail
                  refine (HX.out _ _ H1.out).mono ?_
                  rintro _ w5 ⟨rfl, k1⟩
                  have H5 := Lib.hid k1
                  clear k1
                  go_wp2_with fail
                  refine (HB.out _).mono ?_
                  rintro _ w6 ⟨rfl, rfl⟩
                  go_wp2_with fail
                  refine (H5.out.refuse 4).mono ?_
                  rintro _ w7 ⟨rfl, k3⟩
                  exact ⟨rfl, BP.bad_ HW.out k3⟩
                | true =>
                  have HW := Lib.hid (HC.out.2.1 hd0 hb)
                  rw [hb] at HB
                  have hrl := hr.length_le
                  have EX := Lib.hid (show (bs K.T).extract (K.T.length - r.length) (K.T.length - (t.length + 1)) = bs (r.take (r.length - (t.length + 1))) by
                    rw [cut_ext, List.drop_take]
                    rw [← List.suffix_iff_eq_drop.1 hr]
                    congr 2
                    omega)
                  obtain ⟨i0, hi0⟩ : ∃ i0, i0 = K.T.length - r.length := ⟨_, rfl⟩
                  obtain ⟨i1, hi1⟩ : ∃ i1, i1 = K.T.length - (t.length + 1) := ⟨_, rfl⟩
                  rw [← hi0, ← hi1] at EX
                  rw [← hi0]
                  have z3 : (i0 : Int) ≤ (i1 : Int) := by omega
                  have z4 : (i1 : Int) ≤ ((bs K.T).size : Int) := by rw [bs_size]; omega
                  have hii : K.T.length - t.length = i1 + 1 := by omega
                  have z5 : (i1 : Int) ≤ 65536 := by omega
                  have HI := Lib.hid hii
                  clear hr hml HC hsr2 hb hd0 hd hi0 hi1 hii hrl hsr
                  generalize hS0 : bs (t.take 1) = S0 at *
                  clear hS0
                  go_wp2_with fail
                  refine HT.out.mono ?_
                  rintro _ w1 ⟨rfl, h1⟩
                  have H1 := Lib.hid h1
                  clear h1
                  go_wp2_with fail
                  refine (HX.out _ _ H1.out).mono ?_
                  rintro _ w5 ⟨rfl, k1⟩
                  have H5 := Lib.hid k1
                  clear k1
                  go_wp2_with fail
                  refine (HB.out _).mono ?_
                  rintro _ w6 ⟨rfl, rfl⟩
                  have d0 : w5.cell? ⟨rb, 0, none⟩ = some (.string (bs K.T)) := by obtain ⟨mv, hR, _⟩ := H5.out.cx.place; exact BL.cell hR 0
                  have d1 : w5.cell? ⟨rb, 1, none⟩ = some (.int .i64 ((i1 : Int) + 1)) := by
                    obtain ⟨mv, hR, _⟩ := H5.out.cx.place
                    have := BL.cell hR 1
                    rw [this]
                    show some (Value.int .i64 ((K.T.length - t.length : Nat) : Int)) = _
                    rw [HI.out]; rfl
                  have zw : IntKind.i64.wrap ((i1 : Int) + 1 - 1) = (i1 : Int) := by rw [IntWalk.i64_in _ (by omega)]; omega
                  generalize bs K.T = TT at *
                  go_wp2_with fail
                  go_quiet (fail)
                  have OO := Lib.hid (only_drewN H5.out.only nq)
                  have CC := Lib.hid (H5.out.cx.same (only_drewN (Only.refl [] _) nq))
                  generalize World.drewN w5 nq = VV at *
                  go_wp2_with fail
                  go_ret
                  have := BP.got_ (r := r) HW.out CC.out OO.out
                  rw [← EX.out] at this
                  exact this
end
end Go.Proofs.YtplikjbajejciaaDoor.Lex
