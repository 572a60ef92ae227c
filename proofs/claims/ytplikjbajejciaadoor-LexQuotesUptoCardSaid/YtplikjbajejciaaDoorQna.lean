/- lex: a name read. -/
import Derived.Test.YtplikjbajejciaaDoorQnm
namespace Go.Proofs.YtplikjbajejciaaDoor.Lex
open Go.RowKit Go.Maps
theorem nameN_cons (c : UInt8) (r : Tx) : nameN (c :: r) = if isL c = true then nameR r + 1 else 0 := rfl
theorem nameR_cons (c : UInt8) (r : Tx) : nameR (c :: r) = if (isL c || isD c) = true then nameR r + 1 else 0 := rfl
theorem nameR_le : ∀ s : Tx, nameR s ≤ s.length
  | [] => Nat.le_refl _
  | c :: r => by
    rw [nameR_cons, List.length_cons]
    have := nameR_le r
    split <;> omega
theorem nameN_le (s : Tx) : nameN s ≤ s.length := by
  cases s with
  | nil => exact Nat.le_refl _
  | cons c r =>
    rw [nameN_cons, List.length_cons]
    have := nameR_le r
    split <;> omega
theorem isL_10 {c : UInt8} (h : isL c = true) : ¬ c = 10 := fun e => by subst e; revert h; decide
theorem isD_10 {c : UInt8} (h : isD c = true) : ¬ c = 10 := fun e => by subst e; revert h; decide
/-- How far a name has been read: j bytes of it. -/
def Nm (s s' : Tx) (j : Nat) : Prop := s' = s.drop j ∧ j ≤ s.length ∧ (j = 0 ∨ nameN s = j + nameR s')
theorem Nm.len {s s' : Tx} {j : Nat} (h : Nm s s' j) : s'.length + j = s.length := by rw [h.1, List.length_drop]; have := h.2.1; omega
theorem Nm.more {s r : Tx} {j : Nat} {c : UInt8} (h : Nm s (c :: r) j) (hc : isL c = true ∨ 0 < j ∧ isD c = true) : Nm s r (j + 1) := by
  have hl := h.len
  rw [List.length_cons] at hl
  obtain ⟨h1, h2, h3⟩ := h
  refine ⟨by rw [← List.drop_drop, ← h1]; rfl, by omega, .inr ?_⟩
  rcases h3 with rfl | h3
  · rw [List.drop_zero] at h1
    subst h1
    have hL : isL c = true := by rcases hc with h | h; exact h; omega
    rw [nameN_cons, if_pos hL]
    omega
  · have : (isL c || isD c) = true := by
      rcases hc with h | h
      · rw [h]; rfl
      · rw [h.2]; simp
    rw [h3, nameR_cons, if_pos this]
    omega
theorem Nm.over {s s' : Tx} {j : Nat} (h : Nm s s' j) (hc : s' = [] ∨ ∃ c r, s' = c :: r ∧ isL c = false ∧ (j = 0 ∨ isD c = false)) : nameN s = j := by
  obtain ⟨h1, h2, h3⟩ := h
  rcases h3 with rfl | h3
  · rw [List.drop_zero] at h1
    subst h1
    rcases hc with rfl | ⟨c, r, rfl, hL, _⟩
    · rfl
    · rw [nameN_cons, hL]; rfl
  · rcases hc with rfl | ⟨c, r, rfl, hL, hD⟩
    · rw [h3]; rfl
    · rcases hD with rfl | hD
      · rw [List.drop_zero] at h1
        subst h1
        rw [nameN_cons, hL]; rfl
      · rw [h3, nameR_cons, hL, hD]; rfl
section
variable {B rb n : Nat} {w : World} {K : Kp} {env : Env}
set_option maxRecDepth 100000 in
set_option maxHeartbeats 4000000 in
theorem name_cx {s : Tx} (h : Cx B w rb K env s n) :
    Calls Tryd.prog 68 #[ptrV rb] w fun e w' => e = .returned (.string (bs (s.take (nameN s)))) ∧ Cx B w' rb K env (s.drop (nameN s)) n ∧ Only [rb] w w' := by
  obtain ⟨mv0, hR0, _⟩ := h.place
  have hsl := h.suf.length_le
  have hml := h.most
  obtain ⟨i0, hi0⟩ : ∃ i0, i0 = K.T.length - s.length := ⟨_, rfl⟩
  have c1 : w.cell? ⟨rb, 1, none⟩ = some (.int .i64 (i0 : Int)) := by rw [hi0]; exact BL.cell hR0 1
  have hdrop : K.T.drop i0 = s := by rw [hi0]; exact (List.suffix_iff_eq_drop.1 h.suf).symm
  have H0 := Lib.hid h
  have hsum : i0 + s.length = K.T.length := by omega
  clear h hR0 hi0
  unfold ptrV
  go_enter Tryd.func68, Tryd.ntmps68
  go_wp2_with fail
  go_loopw [] (fun wr => ∃ (s' : Tx) (j : Nat), Nm s s' j ∧ Cx B wr rb K env s' n ∧ Only [rb] w wr) (fun wr => 100000 - (intOf ((wr.cell? ⟨rb, 1, none⟩).getD undef)).toNat)
  case atStart => exact ⟨s, 0, ⟨rfl, by omega, .inl rfl⟩, H0.out, Only.refl _ _⟩
  case round =>
    obtain ⟨s', j, hN, hC, hO⟩ := hrel
    obtain ⟨i1, hi1⟩ : ∃ i1, i1 = K.T.length - s'.length := ⟨_, rfl⟩
    have hlen := hN.len
    have hij : i1 = i0 + j := by omega
    obtain ⟨bL, hbL⟩ : ∃ b, b = (match s' with | [] => false | c :: _ => isL c) := ⟨_, rfl⟩
    obtain ⟨bD, hbD⟩ : ∃ b, b = (match s' with | [] => false | c :: _ => isD c) := ⟨_, rfl⟩
    have HNX := Lib.hid (fun V (hV : Cx B V rb K env s' n) => next_cx hV)
    have HL : Hid (∀ V, Calls Tryd.prog 71 #[.string (bs (s'.take 1)), .string { data := #[97, 98, 99, 100, 101, 102, 103, 104, 105, 106, 107, 108, 109, 110, 111, 112, 113, 114, 115, 116, 117, 118, 119, 120, 121, 122, 65, 66, 67, 68, 69, 70, 71, 72, 73, 74, 75, 76, 77, 78, 79, 80, 81, 82, 83, 84, 85, 86, 87, 88, 89, 90, 95] }] V fun e w' => e = .returned (.bool bL) ∧ V = w') := fun V => by
      rw [hbL]
      cases s' with
      | nil => exact one_nil _ V
      | cons c r => have := one_byte lettersL c V; rw [lett_at] at this; exact this
    have HD : Hid (∀ V, Calls Tryd.prog 71 #[.string (bs (s'.take 1)), .string { data := #[48, 49, 50, 51, 52, 53, 54, 55, 56, 57] }] V fun e w' => e = .returned (.bool bD) ∧ V = w') := fun V => by
      rw [hbD]
      cases s' with
      | nil => exact one_nil _ V
      | cons c r => have := one_byte digitsL c V; rw [digit_at] at this; exact this
    have HC := Lib.hid hC
    have HO := Lib.hid hO
    generalize bs (s'.take 1) = S at *
    cases bL with
    | true =>
      cases s' with
      | nil => cases hbL
      | cons c r =>
        have hmore := hN.more (.inl hbL.symm)
        have h10 := isL_10 hbL.symm
        clear hbL hbD HD
        go_wp2_with fail
        refine (HNX.out _ HC.out).mono ?_
        rintro _ w1 ⟨rfl, h1, o1⟩
        have H1 := Lib.hid h1
        have O1 := Lib.hid (HO.out.trans (o1.mono (G := [rb]) (by simp)))
        clear h1 o1
        go_wp2_with fail
        refine (HL.out _).mono ?_
        rintro _ w2 ⟨rfl, rfl⟩
        have HT := Lib.hid (fun V (hV : Cx B V rb K env (c :: r) n) => take_cx hV)
        have hn10 : nl c n = n := by unfold nl; rw [if_neg h10]
        have HM := Lib.hid hmore
        rw [hn10] at HT
        clear hmore h10 hn10 hN hC hO hi1 hij hlen
        go_wp2_with fail
        refine (HT.out _ H1.out).mono ?_
        rintro _ w8 ⟨rfl, h8, o8⟩
        have e8 : w8.cell? ⟨rb, 1, none⟩ = some (.int .i64 ((K.T.length - r.length : Nat) : Int)) := by obtain ⟨mv, hR, _⟩ := h8.place; exact BL.cell hR 1
        have e7 : wr.cell? ⟨rb, 1, none⟩ = some (.int .i64 ((K.T.length - (r.length + 1) : Nat) : Int)) := by obtain ⟨mv, hR, _⟩ := HC.out.place; exact BL.cell hR 1
        have hr1 := HC.out.suf.length_le
        rw [List.length_cons] at hr1
        have HE := Lib.hid (And.intro e8 e7)
        have H8 := Lib.hid h8
        have O8 := Lib.hid (O1.out.trans o8)
        clear e8 e7 h8 o8
        go_wp2_with fail
        go_roundw
        case measure => rw [HE.out.1, HE.out.2]; simp [intOf]; omega
        case rel => exact ⟨r, j + 1, HM.out, H8.out, O8.out⟩
    | false =>
      by_cases hj : j = 0
      · have hov : nameN s = j := hN.over (by
          cases s' with
          | nil => exact .inl rfl
          | cons c r => exact .inr ⟨c, r, rfl, hbL.symm, .inl hj⟩)
        have hi10 : i1 = i0 := by omega
        have c1' : ∀ V, Cx B V rb K env s' n → V.cell? ⟨rb, 1, none⟩ = some (.int .i64 (i0 : Int)) := fun V hV => by obtain ⟨mv, hR, _⟩ := hV.place; rw [← hi10, hi1]; exact BL.cell hR 1
        have C1 := Lib.hid c1'
        clear hbL hbD HD c1' hi10 hj hC hO
        go_wp2_with fail
        refine (HNX.out _ HC.out).mono ?_
        rintro _ w1 ⟨rfl, h1, o1⟩
        have H1 := Lib.hid h1
        have O1 := Lib.hid (HO.out.trans (o1.mono (G := [rb]) (by simp)))
        clear h1 o1
        go_wp2_with fail
        refine (HL.out _).mono ?_
        rintro _ w2 ⟨rfl, rfl⟩
        have d9 := C1.out _ H1.out
        go_wp2_with fail
        clear d9
        have d0 : w1.cell? ⟨rb, 0, none⟩ = some (.string (bs K.T)) := by obtain ⟨mv, hR, _⟩ := H1.out.place; exact BL.cell hR 0
        have d1 : w1.cell? ⟨rb, 1, none⟩ = some (.int .i64 (i1 : Int)) := by obtain ⟨mv, hR, _⟩ := H1.out.place; rw [hi1]; exact BL.cell hR 1
        have FIN := Lib.hid (show Cx B w1 rb K env (s.drop (nameN s)) n by rw [hov, ← hN.1]; exact H1.out)
        have EX := Lib.hid (show (bs K.T).extract i0 i1 = bs (s.take (nameN s)) by
          rw [cut_ext, hov, ← hdrop, List.drop_take, hij]
          congr 2
          omega)
        have z1 : (i0 : Int) ≤ (i1 : Int) := by omega
        have z2 : (i1 : Int) ≤ ((bs K.T).size : Int) := by rw [bs_size]; omega
        clear hov hN hi1 hdrop hsum hml hsl hij hlen
        generalize bs K.T = TT at *
        go_wp2_with fail
        go_quiet (fail)
        have OO := Lib.hid (only_drewN O1.out nq)
        have CC := Lib.hid (FIN.out.same (only_drewN (Only.refl [] _) nq))
        generalize World.drewN w1 nq = VV at *
        go_wp2_with fail
        go_ret
        exact ⟨by rw [← EX.out]; rfl, CC.out, OO.out⟩
      · have hji : i0 < i1 := by omega
        have C1 : Hid (∀ V, Cx B V rb K env s' n → V.cell? ⟨rb, 1, none⟩ = some (.int .i64 (i1 : Int))) := fun V hV => by obtain ⟨mv, hR, _⟩ := hV.place; rw [hi1]; exact BL.cell hR 1
        cases bD with
        | true =>
          cases s' with
          | nil => cases hbD
          | cons c r =>
            have hmore := hN.more (.inr ⟨by omega, hbD.symm⟩)
            have h10 := isD_10 hbD.symm
            clear hbL hbD hj
            go_wp2_with fail
            refine (HNX.out _ HC.out).mono ?_
            rintro _ w1 ⟨rfl, h1, o1⟩
            have H1 := Lib.hid h1
            have O1 := Lib.hid (HO.out.trans (o1.mono (G := [rb]) (by simp)))
            clear h1 o1
            go_wp2_with fail
            refine (HL.out _).mono ?_
            rintro _ w2 ⟨rfl, rfl⟩
            have d9 := C1.out _ H1.out
            go_wp2_with fail
            clear d9
            refine (HNX.out _ H1.out).mono ?_
            rintro _ w3 ⟨rfl, h1, o1⟩
            have H3 := Lib.hid h1
            have O3 := Lib.hid (O1.out.trans (o1.mono (G := [rb]) (by simp)))
            clear h1 o1
            go_wp2_with fail
            refine (HD.out _).mono ?_
            rintro _ w4 ⟨rfl, rfl⟩
            have HT := Lib.hid (fun V (hV : Cx B V rb K env (c :: r) n) => take_cx hV)
            have hn10 : nl c n = n := by unfold nl; rw [if_neg h10]
            have HM := Lib.hid hmore
            rw [hn10] at HT
            clear hmore h10 hn10 hN hC hO hi1 hij hlen
            go_wp2_with fail
            refine (HT.out _ H3.out).mono ?_
            rintro _ w8 ⟨rfl, h8, o8⟩
            have e8 : w8.cell? ⟨rb, 1, none⟩ = some (.int .i64 ((K.T.length - r.length : Nat) : Int)) := by obtain ⟨mv, hR, _⟩ := h8.place; exact BL.cell hR 1
            have e7 : wr.cell? ⟨rb, 1, none⟩ = some (.int .i64 ((K.T.length - (r.length + 1) : Nat) : Int)) := by obtain ⟨mv, hR, _⟩ := HC.out.place; exact BL.cell hR 1
            have hr1 := HC.out.suf.length_le
            rw [List.length_cons] at hr1
            have HE := Lib.hid (And.intro e8 e7)
            have H8 := Lib.hid h8
            have O8 := Lib.hid (O3.out.trans o8)
            clear e8 e7 h8 o8
            go_wp2_with fail
            go_roundw
            case measure => rw [HE.out.1, HE.out.2]; simp [intOf]; omega
            case rel => exact ⟨r, j + 1, HM.out, H8.out, O8.out⟩
        | false =>
          have hov : nameN s = j := hN.over (by
            cases s' with
            | nil => exact .inl rfl
            | cons c r => exact .inr ⟨c, r, rfl, hbL.symm, .inr hbD.symm⟩)
          clear hbL hbD hj hC hO
          go_wp2_with fail
          refine (HNX.out _ HC.out).mono ?_
          rintro _ w1 ⟨rfl, h1, o1⟩
          have H1 := Lib.hid h1
          have O1 := Lib.hid (HO.out.trans (o1.mono (G := [rb]) (by simp)))
          clear h1 o1
          go_wp2_with fail
          refine (HL.out _).mono ?_
          rintro _ w2 ⟨rfl, rfl⟩
          have d9 := C1.out _ H1.out
          go_wp2_with fail
          clear d9
          refine (HNX.out _ H1.out).mono ?_
          rintro _ w3 ⟨rfl, h1, o1⟩
          have H3 := Lib.hid h1
          have O3 := Lib.hid (O1.out.trans (o1.mono (G := [rb]) (by simp)))
          clear h1 o1
          go_wp2_with fail
          refine (HD.out _).mono ?_
          rintro _ w4 ⟨rfl, rfl⟩
          go_wp2_with fail
          have d0 : w3.cell? ⟨rb, 0, none⟩ = some (.string (bs K.T)) := by obtain ⟨mv, hR, _⟩ := H3.out.place; exact BL.cell hR 0
          have d1 : w3.cell? ⟨rb, 1, none⟩ = some (.int .i64 (i1 : Int)) := by obtain ⟨mv, hR, _⟩ := H3.out.place; rw [hi1]; exact BL.cell hR 1
          have FIN := Lib.hid (show Cx B w3 rb K env (s.drop (nameN s)) n by rw [hov, ← hN.1]; exact H3.out)
          have EX := Lib.hid (show (bs K.T).extract i0 i1 = bs (s.take (nameN s)) by
            rw [cut_ext, hov, ← hdrop, List.drop_take, hij]
            congr 2
            omega)
          have z1 : (i0 : Int) ≤ (i1 : Int) := by omega
          have z2 : (i1 : Int) ≤ ((bs K.T).size : Int) := by rw [bs_size]; omega
          clear hov hN hi1 hdrop hsum hml hsl hij hlen
          generalize bs K.T = TT at *
          go_wp2_with fail
          go_quiet (fail)
          have OO := Lib.hid (only_drewN O3.out nq)
          have CC := Lib.hid (FIN.out.same (only_drewN (Only.refl [] _) nq))
          generalize World.drewN w3 nq = VV at *
          go_wp2_with fail
          go_ret
          exact ⟨by rw [← EX.out]; rfl, CC.out, OO.out⟩
end
end Go.Proofs.YtplikjbajejciaaDoor.Lex
