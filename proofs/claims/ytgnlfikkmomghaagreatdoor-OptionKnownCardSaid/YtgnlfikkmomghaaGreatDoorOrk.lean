/- The chapter's Item walked. -/
import Derived.Test.YtgnlfikkmomghaaGreatDoorOrj
namespace Go.Proofs.YtgnlfikkmomghaaGreatDoor.Opt
open Go.RowKit

theorem retv {S : ByteArray} {a : Tx} {i : Int} (h : S = bs a) : Ending.returned (.tuple #[.string S, .int .i64 i]) = .returned (.tuple #[.string (bs a), .int .i64 i]) := by rw [h]
theorem elem_of {E : ByteArray} {D : Tx} (he : E = bs D) : ∀ k (h : k < D.length) (h2 : k < E.size), E[k]'h2 = D[k] := by
  subst he
  intro k h h2
  rfl
theorem dig91 {b : UInt8} (h : b = 91) : digU b = false := by rw [h]; decide
set_option maxRecDepth 100000 in
set_option maxHeartbeats 2000000 in
theorem itemRef_any (l : Tx) (hs : l.length ≤ 140737488355328) (w : World) :
    Calls Tryz.prog 51 #[.string (bs l)] w fun e w' => ∃ (a : Tx) (i : Int), e = .returned (.tuple #[.string (bs a), .int .i64 i]) ∧ ItemOk l (a, i) ∧ w' = w := by
  obtain ⟨S, hS⟩ : ∃ S, S = bs l := ⟨_, rfl⟩
  have HX := Lib.hid (show ∀ a b, S.extract a b = bs ((l.take b).drop a) by intro a b; rw [hS]; exact cut_ext l a b)
  have HF := Lib.hid (show S = bs l from hS)
  rw [← hS]
  have hsz : S.size = l.length := by rw [hS, bs_size]
  have HL := Lib.hid (show ∀ k (h : k < l.length) (h2 : k < S.size), S[k]'h2 = l[k] by intro k h h2; subst hS; rfl)
  clear hS
  have HN1 := Lib.hid (fun h => no_short (l := l) h)
  by_cases h3 : l.length < 3
  · have HI := Lib.hid (HN1.out h3)
    go_enter Tryz.func51, Tryz.ntmps51
    go_wp2
    go_ret2
    exact ⟨l, -1, retv HF.out, HI.out, rfl⟩
  · obtain ⟨n, hn⟩ : ∃ n, l.length = n + 3 := ⟨l.length - 3, by omega⟩
    clear HN1
    have hS2 : n + 2 < S.size := by omega
    have hl2 : n + 2 < l.length := by omega
    have hch := HL.out (n + 2) hl2 hS2
    by_cases h93 : l[n + 2] = 93
    · have h93b : l[l.length - 1]'(by omega) = 93 := by
        have : l.length - 1 = n + 2 := by omega
        simpa only [this] using h93
      have hb : (((S[n + 2]'hS2).toNat : Int) != 93) = false := by rw [hch, h93]; rfl
      have HA := Lib.hid (fun h => no_all (l := l) h)
      have HNO := Lib.hid (fun k hk hD hn' hno => no_num (l := l) (k := k) hk hD hn' hno)
      have HYE := Lib.hid (fun k hk h91 hd => yes_num (l := l) (k := k) hk h91 h93b hd)
      have e9 : l.length - 1 = n + 2 := by omega
      have HD0 := Lib.hid (show Digs l (n + 2) from fun j h h1 h2 => by omega)
      have HDA := Lib.hid (fun k hD => digs_all (l := l) (k := k) hD)
      rw [e9] at HNO HYE HDA
      clear hch h93 h93b e9
      go_enter Tryz.func51, Tryz.ntmps51
      go_wp2
      go_loop [5] (fun i => Hid ((i = .int .i64 (-1) ∧ Digs l 0) ∨ ∃ m : Nat, m + 1 < n + 3 ∧ i = .int .i64 (m : Int) ∧ Digs l (m + 1))) (fun i => (intOf i + 1).toNat)
      case atStart => exact .inr ⟨n + 1, by omega, by go_num, HD0.out⟩
      case round =>
        rcases hrel.out with ⟨rfl, hD⟩ | ⟨m, hm, rfl, hD⟩
        · have HI := Lib.hid (HA.out hD)
          clear hD hrel HA HNO HYE HDA HD0
          go_wp2
          go_ret2
          exact ⟨l, -1, retv HF.out, HI.out, rfl⟩
        · have hml : m < l.length := by omega
          have hmS : m < S.size := by omega
          have hch := HL.out m hml hmS
          have HD := Lib.hid hD
          clear hD hrel
          cases hdg : digB ((S[m]'hmS).toNat : Int) with
          | true =>
            have HDm := Lib.hid (show Digs l m from fun j h h1 h2 => by
              by_cases hj : m + 1 ≤ j
              · exact HD.out j h hj h2
              · obtain rfl : j = m := by omega
                rw [hch] at hdg
                exact hdg)
            clear hch
            go_wp2_with fail
            refine (digit_any _ _).mono ?_
            rintro e w1 ⟨rfl, rfl⟩
            rw [hdg]
            clear hdg
            go_wp2_with fail
            go_round
            case rel =>
              cases m with
              | zero => exact .inl ⟨rfl, HDm.out⟩
              | succ m => exact .inr ⟨m, by omega, by go_num, HDm.out⟩
            case measure => simp [intOf] <;> omega
          | false =>
            rw [hch] at hdg
            have hnd : digU l[m] = false := hdg
            have hsl := HX.out (m + 1) (n + 2)
            have HX0 := Lib.hid (HX.out 0 m)
            have hall := HDA.out m HD.out
            have hln : ((l.take (n + 2)).drop (m + 1)).length = n + 1 - m := by rw [List.length_drop, List.length_take]; omega
            have HNO1 := Lib.hid (HNO.out m (by omega) HD.out hnd)
            have HYE1 := Lib.hid (HYE.out m (by omega))
            obtain ⟨D, hD⟩ : ∃ D, D = (l.take (n + 2)).drop (m + 1) := ⟨_, rfl⟩
            rw [← hD] at hsl hall hln HNO1 HYE1
            have hdl : (bs D).size = n + 1 - m := by rw [bs_size, hln]
            have HSL := Lib.hid hsl
            clear hD HNO HYE HDA HX HA HD0 HD hsl
            go_wp2_with fail
            refine (digit_any _ _).mono ?_
            rintro e w1 ⟨rfl, rfl⟩
            rw [hdg]
            clear hdg
            have HE := Lib.hid (show ∀ k (h : k < D.length) (h2 : k < (S.extract (m + 1) (n + 2)).size), (S.extract (m + 1) (n + 2))[k]'h2 = D[k] from elem_of HSL.out)
            have hEs : (S.extract (m + 1) (n + 2)).size = n + 1 - m := by rw [HSL.out, hdl]
            clear hdl
            by_cases h91 : l[m] = 91
            · have h91b : ((l[m].toNat : Int) != 91) = false := by rw [h91]; rfl
              have HNO2 := Lib.hid (fun h => HNO1.out (.inr h))
              have HYE2 := Lib.hid (HYE1.out h91)
              clear HNO1 HYE1 h91 hnd
              by_cases hlen : 1 ≤ n + 1 - m ∧ n + 1 - m ≤ 3
              · obtain ⟨hlen1, hlen3⟩ := hlen
                have hcase : (n + 1 - m = 1 ∧ numD D = true) ∨ (1 < n + 1 - m ∧ ((((S.extract (m + 1) (n + 2))[0]'(by omega)).toNat : Int) == 48) = false ∧ numD D = true) ∨ (1 < n + 1 - m ∧ ((((S.extract (m + 1) (n + 2))[0]'(by omega)).toNat : Int) == 48) = true ∧ numD D = false) := by
                  have h0 : (S.extract (m + 1) (n + 2))[0]'(by omega) = D.headD 0 := by
                    rw [HE.out 0 (by omega) (by omega)]
                    cases D with
                    | nil => simp at hln; omega
                    | cons a r => rfl
                  rw [h0]
                  by_cases h1 : n + 1 - m = 1
                  · exact .inl ⟨h1, by unfold numD; rw [hall, hln, h1]; rfl⟩
                  · cases hz : (((D.headD 0).toNat : Int) == 48) with
                    | false => exact .inr (.inl ⟨by omega, rfl, by unfold numD; rw [hall, hln, hz, decide_eq_true hlen1, decide_eq_true hlen3]; simp⟩)
                    | true => exact .inr (.inr ⟨by omega, rfl, by unfold numD; rw [hz, hln, decide_eq_true (show 1 < n + 1 - m by omega)]; simp⟩)
                have hlen1i : 1 ≤ ((n + 1 - m : Nat) : Int) := by omega
                have hlen3i : ((n + 1 - m : Nat) : Int) ≤ 3 := by omega
                rcases hcase with ⟨h1, hnum⟩ | ⟨h1, h48, hnum⟩ | ⟨h1, h48, hnum⟩
                case inr.inr =>
                  have HI := Lib.hid (HNO2.out hnum)
                  clear HNO2 HYE2 hnum HE hall hln
                  have h1i : 1 < ((n + 1 - m : Nat) : Int) := by omega
                  go_wp2_with fail
                  go_ret2
                  exact ⟨l, -1, retv HF.out, HI.out, rfl⟩
                case inl =>
                  have HI := Lib.hid (HYE2.out hnum)
                  clear HNO2 HYE2 hnum
                  have h1i : ((n + 1 - m : Nat) : Int) = 1 := by rw [h1]; rfl
                  have HV := Lib.hid (valD_next D)
                  have HVS := Lib.hid (fun k => valD_small (D.take k) (all_take hall k) (by rw [List.length_take]; omega))
                  have HVE := Lib.hid (show valD (D.take D.length) = valD D by rw [List.take_length])
                  have HDG := Lib.hid (show ∀ k (h : k < D.length), 48 ≤ (D[k].toNat : Int) ∧ (D[k].toNat : Int) ≤ 57 from fun k h => digU_val (List.all_eq_true.1 hall _ (List.getElem_mem h)))
                  have HX1 := Lib.hid (show bs (l.take m) = S.extract 0 m by rw [HX0.out, List.drop_zero])
                  clear hall HX0
                  go_wp2_with fail
                  go_loop [7, 8] (fun v i => ∃ k : Nat, k ≤ n + 1 - m ∧ i = .int .i64 (k : Int) ∧ v = .int .i64 (valD (D.take k))) (fun _ i => (n + 1 - m) - (intOf i).toNat)
                  case atStart => exact ⟨0, by omega, rfl, rfl⟩
                  case round =>
                    obtain ⟨k, hk, rfl, rfl⟩ := hrel
                    by_cases hlt : k < n + 1 - m
                    · have hkD : k < D.length := by omega
                      have hkE : k < (S.extract (m + 1) (n + 2)).size := by omega
                      have he := HE.out k hkD hkE
                      have hg := HDG.out k hkD
                      have hv := HV.out k hkD
                      have hs1 := HVS.out k
                      have hs2 := HVS.out (k + 1)
                      have hlti : (k : Int) < ((n + 1 - m : Nat) : Int) := by omega
                      generalize valD (D.take k) = V at hv hs1 ⊢
                      obtain ⟨hg1, hg2⟩ := hg
                      obtain ⟨hs3, hs4⟩ := hs1
                      go_wp2_with fail
                      go_round
                      case rel => exact ⟨k + 1, by omega, by go_num, by rw [hv]⟩
                      case measure => simp [intOf]; omega
                    · have hk2 : k = D.length := by omega
                      have hki : ((n + 1 - m : Nat) : Int) ≤ (k : Int) := by omega
                      have hv : valD (D.take k) = valD D := by rw [hk2]; exact HVE.out
                      rw [hv]
                      clear hv
                      go_wp2_with fail
                      go_ret2
                      exact ⟨l.take m, valD D, retv HX1.out.symm, HI.out, rfl⟩
                case inr.inl =>
                  have HI := Lib.hid (HYE2.out hnum)
                  clear HNO2 HYE2 hnum
                  have h1i : 1 < ((n + 1 - m : Nat) : Int) := by omega
                  have HV := Lib.hid (valD_next D)
                  have HVS := Lib.hid (fun k => valD_small (D.take k) (all_take hall k) (by rw [List.length_take]; omega))
                  have HVE := Lib.hid (show valD (D.take D.length) = valD D by rw [List.take_length])
                  have HDG := Lib.hid (show ∀ k (h : k < D.length), 48 ≤ (D[k].toNat : Int) ∧ (D[k].toNat : Int) ≤ 57 from fun k h => digU_val (List.all_eq_true.1 hall _ (List.getElem_mem h)))
                  have HX1 := Lib.hid (show bs (l.take m) = S.extract 0 m by rw [HX0.out, List.drop_zero])
                  clear hall HX0
                  go_wp2_with fail
                  go_loop [7, 8] (fun v i => ∃ k : Nat, k ≤ n + 1 - m ∧ i = .int .i64 (k : Int) ∧ v = .int .i64 (valD (D.take k))) (fun _ i => (n + 1 - m) - (intOf i).toNat)
                  case atStart => exact ⟨0, by omega, rfl, rfl⟩
                  case round =>
                    obtain ⟨k, hk, rfl, rfl⟩ := hrel
                    by_cases hlt : k < n + 1 - m
                    · have hkD : k < D.length := by omega
                      have hkE : k < (S.extract (m + 1) (n + 2)).size := by omega
                      have he := HE.out k hkD hkE
                      have hg := HDG.out k hkD
                      have hv := HV.out k hkD
                      have hs1 := HVS.out k
                      have hs2 := HVS.out (k + 1)
                      have hlti : (k : Int) < ((n + 1 - m : Nat) : Int) := by omega
                      generalize valD (D.take k) = V at hv hs1 ⊢
                      obtain ⟨hg1, hg2⟩ := hg
                      obtain ⟨hs3, hs4⟩ := hs1
                      go_wp2_with fail
                      go_round
                      case rel => exact ⟨k + 1, by omega, by go_num, by rw [hv]⟩
                      case measure => simp [intOf]; omega
                    · have hk2 : k = D.length := by omega
                      have hki : ((n + 1 - m : Nat) : Int) ≤ (k : Int) := by omega
                      have hv : valD (D.take k) = valD D := by rw [hk2]; exact HVE.out
                      rw [hv]
                      clear hv
                      go_wp2_with fail
                      go_ret2
                      exact ⟨l.take m, valD D, retv HX1.out.symm, HI.out, rfl⟩
              · have HI := Lib.hid (HNO2.out (by
                  unfold numD
                  rw [hall, hln]
                  by_cases h1 : 1 ≤ n + 1 - m
                  · simp [show ¬ n + 1 - m ≤ 3 by omega]
                  · simp [show ¬ 1 ≤ n + 1 - m by omega]))
                clear HNO2 HYE2 HE hall hln
                by_cases h1 : 1 ≤ n + 1 - m
                · have h3 : 3 < ((n + 1 - m : Nat) : Int) := by omega
                  have h1i : 1 ≤ ((n + 1 - m : Nat) : Int) := by omega
                  go_wp2_with fail
                  go_ret2
                  exact ⟨l, -1, retv HF.out, HI.out, rfl⟩
                · have h0 : ((n + 1 - m : Nat) : Int) < 1 := by omega
                  go_wp2_with fail
                  go_ret2
                  exact ⟨l, -1, retv HF.out, HI.out, rfl⟩
            · have h91b : ((l[m].toNat : Int) != 91) = true := by
                rw [bne, Bool.not_eq_true', beq_eq_false_iff_ne]
                intro h
                exact h91 (UInt8.toNat_inj.1 (by exact_mod_cast h))
              have HI := Lib.hid (HNO1.out (.inl h91))
              clear HNO1 HYE1 h91 hnd hall hln HE
              go_wp2_with fail
              go_ret2
              exact ⟨l, -1, retv HF.out, HI.out, rfl⟩
    · have HI := Lib.hid (no_last (l := l) (by omega) (by have : l.length - 1 = n + 2 := by omega
                                                          simpa only [this] using h93))
      have hb : (((S[n + 2]'hS2).toNat : Int) != 93) = true := by
        rw [hch, bne, Bool.not_eq_true', beq_eq_false_iff_ne]
        intro h
        exact h93 (UInt8.toNat_inj.1 (by exact_mod_cast h))
      clear hch
      go_enter Tryz.func51, Tryz.ntmps51
      go_wp2
      go_ret2
      exact ⟨l, -1, retv HF.out, HI.out, rfl⟩
end Go.Proofs.YtgnlfikkmomghaaGreatDoor.Opt
