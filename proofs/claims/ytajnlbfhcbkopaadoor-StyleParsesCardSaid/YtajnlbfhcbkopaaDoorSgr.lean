/- Package style's Sgr. -/
import Derived.Test.YtajnlbfhcbkopaaDoorJoi
import Derived.Deep.DeepCutAuto
import Derived.Deep.CutRange
namespace Go.Proofs.YtajnlbfhcbkopaaDoor.Sty
open Go.RowKit

theorem own_below {w w' : World} {base : Nat} {e : TypeId} {v : Value} {n : Nat} {xs : List Value} (h : w.ownsRow base e 1 v n xs) (hb : Below w.heap.size w w') : w'.ownsRow base e 1 v n xs :=
  h.kept (row := none) ⟨hb.os, hb.tape, hb.output, hb.size, fun k hk _ => hb.block k hk⟩ (by cases hv : v.ownBlock <;> simp)
theorem own_store {w w' : World} {base g : Nat} {e : TypeId} {v : Value} {n : Nat} {xs : List Value} (h : w.ownsRow base e 1 v n xs) (hb : ∀ B, B ≤ g → Below B w w') (hk : ∀ k, k ≠ g → w'.heap[k]? = w.heap[k]?) (hg : g < base) : w'.ownsRow base e 1 v n xs :=
  h.kept (row := some g) ⟨(hb 0 (Nat.zero_le _)).os, (hb 0 (Nat.zero_le _)).tape, (hb 0 (Nat.zero_le _)).output, (hb 0 (Nat.zero_le _)).size, fun k _ hne => hk k (fun e => hne (by rw [e]))⟩
    (by
      cases hv : v.ownBlock with
      | none => exact .inl rfl
      | some j =>
        have := (h.lt j hv).1
        right
        intro e
        injection e with e
        omega)
abbrev lit8 : ByteArray := { data := #[49, 50, 51, 52, 53, 55, 56, 57] }
theorem lit8_next (k : Nat) (hk : k < 8) : (Utf8.decode lit8 k).2 = 1 := by
  have : ∀ k, k < 8 → (Utf8.decode lit8 k).2 = 1 := by decide
  exact this k hk
theorem lit8_cut (k : Nat) (hk : k < 8) : lit8.extract k (k + 1) = bs (digitAt k) := by
  have : ∀ k, k < 8 → (lit8.extract k (k + 1)).data.toList = digitAt k := by decide
  rw [← this k hk]
  exact bs_of _
theorem own_ne {w : World} {base I : Nat} {e : TypeId} {v : Value} {n : Nat} {xs : List Value} (h : w.ownsRow base e 1 v n xs) (hI : w.heap.size = I) : ∀ j, v.ownBlock = some j → j ≠ I := fun j hj e => by
  have := (h.lt j hj).2
  omega
theorem chain {W V X : World} (h : Below W.heap.size W V) (k : Below V.heap.size V X) : Below W.heap.size W X := h.trans (k.mono h.size)
set_option maxRecDepth 100000 in
set_option maxHeartbeats 2000000 in
theorem sgr_any {B : Nat} (a1 a2 a3 b1 b2 b3 : Int) (w : World) (ht : Tabs B w) (hB : B ≤ w.heap.size) :
    Calls Tryd.prog 22 #[.agg #[.int .i64 a1, .int .i64 a2, .int .i64 a3], .agg #[.int .i64 b1, .int .i64 b2, .int .i64 b3]] w fun e w' => e = .returned (.string (bs (sgrS (orP a1 a2 a3) (orP b1 b2 b3)))) ∧ Below w.heap.size w w' := by
  obtain ⟨f, hf⟩ : ∃ f, orP a1 a2 a3 = f := ⟨_, rfl⟩
  obtain ⟨f1, f2, f3⟩ := f
  obtain ⟨t, hto⟩ : ∃ t, orP b1 b2 b3 = t := ⟨_, rfl⟩
  obtain ⟨t1, t2, t3⟩ := t
  have hrf := orP_right a1 a2 a3
  have hrt := orP_right b1 b2 b3
  rw [hf] at hrf
  rw [hto] at hrt
  have of_ := fun w => orPlain_any a1 a2 a3 f1 f2 f3 hf w
  have ot_ := fun w => orPlain_any b1 b2 b3 t1 t2 t3 hto w
  have HF := Lib.hid hf
  have HT := Lib.hid hto
  clear hf hto
  have hA := (Blk.new w 31 #[.int .i64 a1, .int .i64 a2, .int .i64 a3]).alloc (.cells #[.int .i64 b1, .int .i64 b2, .int .i64 b3] 31)
  have hD := Blk.new (w.alloc (.cells #[.int .i64 a1, .int .i64 a2, .int .i64 a3] 31)) 31 #[.int .i64 b1, .int .i64 b2, .int .i64 b3]
  rw [size_alloc] at hD
  have hbel : Below w.heap.size w ((w.alloc (.cells #[.int .i64 a1, .int .i64 a2, .int .i64 a3] 31)).alloc (.cells #[.int .i64 b1, .int .i64 b2, .int .i64 b3] 31)) := ((Below.refl _ _).alloc (Nat.le_refl _) _).alloc (by simp) _
  have hsz0 : ((w.alloc (.cells #[.int .i64 a1, .int .i64 a2, .int .i64 a3] 31)).alloc (.cells #[.int .i64 b1, .int .i64 b2, .int .i64 b3] 31)).heap.size = w.heap.size + 2 := by simp
  go_enter Tryd.func22, Tryd.ntmps22
  go_upto_region 1 with fail
  generalize (w.alloc (.cells #[.int .i64 a1, .int .i64 a2, .int .i64 a3] 31)).alloc (.cells #[.int .i64 b1, .int .i64 b2, .int .i64 b3] 31) = W at *
  go_cut [] (fun wx => Blk wx w.heap.size 31 #[.int .i64 f1, .int .i64 f2, .int .i64 f3] ∧ Blk wx (w.heap.size + 1) 31 #[.int .i64 t1, .int .i64 t2, .int .i64 t3] ∧ Below w.heap.size w wx)
  case first =>
    have hdr : Below W.heap.size W W.drew := (Below.refl _ _).drew
    have HA := Lib.hid hA
    have HD := Lib.hid hD
    have c0 := hA.cell 0
    have c1 := hA.cell 1
    have c2 := hA.cell 2
    have d0 := hD.cell 0
    have d1 := hD.cell 1
    have d2 := hD.cell 2
    clear hA hD
    go_region_with (first
      | (go_at_call 46; (first | (with_reducible refine (of_ _).mono ?_) | (with_reducible refine (ot_ _).mono ?_)); rintro e w2 ⟨rfl, hb2⟩; have hbx := chain (by assumption) hb2; have e0 := (HA.out.below hbx (by omega)).cell 0; have e1 := (HA.out.below hbx (by omega)).cell 1; have e2 := (HA.out.below hbx (by omega)).cell 2; have g0 := (HD.out.below hbx (by omega)).cell 0; have g1 := (HD.out.below hbx (by omega)).cell 1; have g2 := (HD.out.below hbx (by omega)).cell 2; have q0 := (HA.out.below hbx (by omega)).frozen 0; have q1 := (HA.out.below hbx (by omega)).frozen 1; have q2 := (HA.out.below hbx (by omega)).frozen 2; have q3 := (HD.out.below hbx (by omega)).frozen 0; have q4 := (HD.out.below hbx (by omega)).frozen 1; have q5 := (HD.out.below hbx (by omega)).frozen 2))
    all_goals go_wp2_with fail
    all_goals
      have hA2 := HA.out.below hbx (by omega)
      have hD2 := HD.out.below hbx (by omega)
      have hz2 := hbx.size
      go_meet
      refine ⟨?_, ?_, ?_⟩
      · exact ((((((hA2.set_ 0 (.int .i64 f1)).set_ 1 (.int .i64 f2)).set_ 2 (.int .i64 f3)).far (p := ⟨w.heap.size + 1, 0, none⟩) (by simp) (.int .i64 t1)).far (p := ⟨w.heap.size + 1, 1, none⟩) (by simp) (.int .i64 t2)).far (p := ⟨w.heap.size + 1, 2, none⟩) (by simp) (.int .i64 t3))
      · exact ((((((hD2.far (p := ⟨w.heap.size, 0, none⟩) (by simp) (.int .i64 f1)).far (p := ⟨w.heap.size, 1, none⟩) (by simp) (.int .i64 f2)).far (p := ⟨w.heap.size, 2, none⟩) (by simp) (.int .i64 f3)).set_ 0 (.int .i64 t1)).set_ 1 (.int .i64 t2)).set_ 2 (.int .i64 t3))
      · exact ((((((hbel.trans (hbx.mono (by omega))).setCell (p := ⟨w.heap.size, 0, none⟩) (by simp) _).setCell (p := ⟨w.heap.size, 1, none⟩) (by simp) _).setCell (p := ⟨w.heap.size, 2, none⟩) (by simp) _).setCell (p := ⟨w.heap.size + 1, 0, none⟩) (by simp) _).setCell (p := ⟨w.heap.size + 1, 1, none⟩) (by simp) _).setCell (p := ⟨w.heap.size + 1, 2, none⟩) (by simp) _
  case rest =>
    obtain ⟨hA9, hD9, hb9⟩ := hcut
    clear hA hD hbel hsz0 of_ ot_
    obtain ⟨cf1, cf2, hf30, hf31⟩ := rightS_parts hrf
    obtain ⟨ct1, ct2, ht30, ht31⟩ := rightS_parts hrt
    change 0 ≤ f3 at hf30
    change 0 ≤ t3 at ht30
    change f3 ≤ 255 at hf31
    change t3 ≤ 255 at ht31
    change isCol t1 = true at ct1
    change isCol t2 = true at ct2
    clear hrf hrt cf1 cf2
    obtain ⟨fa, rfl⟩ : ∃ fa : Nat, f3 = fa := ⟨f3.toNat, by omega⟩
    obtain ⟨ta, rfl⟩ : ∃ ta : Nat, t3 = ta := ⟨t3.toNat, by omega⟩
    by_cases heq : (f1, f2, (fa : Int)) = (t1, t2, (ta : Int))
    · have HE : Hid (sgrS (orP a1 a2 a3) (orP b1 b2 b3) = []) := by
        show _ = _
        rw [HF.out, HT.out]; unfold sgrS; rw [if_pos heq]
      have heqr := eq_run f1 f2 fa t1 t2 ta true (by simpa using heq)
      clear heq
      go_wp2_with (first
        | (refine wpList_load_row rfl 31 _ rfl w.heap.size rfl _ _ _ _ hA9 Tryd.underlying31 rfl (by kernel_rfl) ?_)
        | (refine wpList_load_row rfl 31 _ rfl (w.heap.size + 1) rfl _ _ _ _ hD9 Tryd.underlying31 rfl (by kernel_rfl) ?_))
      go_ret
      exact ⟨by rw [HE.out]; rfl, hb9⟩
    · have heqr := eq_run f1 f2 fa t1 t2 ta false (by simpa using heq)
      have HNQ := Lib.hid heq
      clear heq
      have han := bits_an fa ta (by omega)
      have fc := hA9.cell 2
      have tc := hD9.cell 2
      obtain ⟨g, hg⟩ : ∃ g : St, (if decide (an fa ta ≠ 0) = true then ((-1, -1, 0) : St) else (f1, f2, (fa : Int))) = g := ⟨_, rfl⟩
      obtain ⟨g1, g2, g3⟩ := g
      obtain ⟨L0, hL0⟩ : ∃ L0 : List Tx, (if decide (an fa ta ≠ 0) = true then [[48]] else []) = L0 := ⟨_, rfl⟩
      have HG := Lib.hid hg
      have HL0 := Lib.hid hL0
      clear hg hL0
      go_upto_if 19 with (first
          | (refine wpList_load_row rfl 31 _ rfl w.heap.size rfl _ _ _ _ hA9 Tryd.underlying31 rfl (by kernel_rfl) ?_)
          | (refine wpList_load_row rfl 31 _ rfl (w.heap.size + 1) rfl _ _ _ _ hD9 Tryd.underlying31 rfl (by kernel_rfl) ?_))
      go_cut [5] (fun s5 wx => Blk wx w.heap.size 31 #[.int .i64 g1, .int .i64 g2, .int .i64 g3] ∧ Blk wx (w.heap.size + 1) 31 #[.int .i64 t1, .int .i64 t2, .int .i64 (ta : Int)] ∧ Below w.heap.size w wx ∧ wx.ownsRow (w.heap.size + 2) 9 1 s5 L0.length (strv L0))
      case first =>
        have hAl := hA9.lt
        have hDl := hD9.lt
        by_cases hclr : an fa ta = 0
        · have hnz : (((an fa ta : Nat) : Int) != 0) = false := by rw [hclr]; rfl
          have e1 := HG.out
          have e2 := HL0.out
          rw [if_neg (by simp [hclr])] at e1 e2
          simp only [Prod.mk.injEq] at e1
          obtain ⟨rfl, rfl, e1⟩ := e1
          subst e2
          have HA9 := Lib.hid hA9
          rw [e1] at HA9
          clear e1 HG HL0
          go_wp2_with fail
          go_meet
          exact ⟨HA9.out, hD9, hb9, World.ownsRow_nil _ _ _ _⟩
        · have hnz : (((an fa ta : Nat) : Int) != 0) = true := by
            have : ((an fa ta : Nat) : Int) ≠ 0 := by exact_mod_cast hclr
            simpa using this
          have e1 := HG.out
          have e2 := HL0.out
          rw [if_pos (by simp [hclr])] at e1 e2
          simp only [Prod.mk.injEq] at e1
          obtain ⟨rfl, rfl, rfl⟩ := e1
          subst e2
          clear HG HL0
          go_wp2_with (first
            | (at_builtin; refine wpList_app_str rfl (.tmp 20) (.tmp 21) rfl (w.heap.size + 2) _ 0 [] _ 1 rfl (World.ownsRow_nil _ _ _ _) rfl (by omega) (by omega) ?_; intro v' w3 hown3 hb3 hg3 hw3))
          have hA3 := hA9.below hb3 (by omega)
          have hD3 := hD9.below hb3 (by omega)
          have hbw3 : Below w.heap.size w w3 := hb9.trans (hb3.mono (by omega))
          have hs3 := hb3.size
          refine (plain_any w3).mono ?_
          rintro e w4 ⟨rfl, hb4⟩
          have hA4 := hA3.below hb4 (by omega)
          have hD4 := hD3.below hb4 (by omega)
          have hbw4 := hbw3.trans (hb4.mono (by omega))
          have hown4 := own_below hown3 hb4
          clear hA9 hD9 hb9 hb3 hb4 hA3 hD3 hbw3 hown3 hg3 hw3
          go_wp2_with (refine wpList_store_row2 rfl 31 (.tmp 2) (.tmp 23) rfl w.heap.size #[.int .i64 (-1), .int .i64 (-1), .int .i64 0] rfl rfl _ _ hA4 (by kernel_rfl) rfl (by kernel_rfl) ?_; intro w5 hA5 hb5 hk5 hs5)
          go_meet
          exact ⟨hA5, hD4.keep (hk5 _ (by omega)), hbw4.trans (hb5 _ (Nat.le_refl _)), own_store hown4 hb5 hk5 (by omega)⟩
      case rest =>
        obtain ⟨hA8, hD8, hb8, hown8⟩ := hcut
        have hll : L0.length ≤ 1 := by rw [← HL0.out]; split <;> simp
        have hg3 : ∃ ga : Nat, g3 = ga ∧ ga < 256 := by
          have e1 := HG.out
          by_cases hclr : an fa ta = 0
          · rw [if_neg (by simp [hclr])] at e1
            simp only [Prod.mk.injEq] at e1
            exact ⟨fa, e1.2.2.symm, by omega⟩
          · rw [if_pos (by simp [hclr])] at e1
            simp only [Prod.mk.injEq] at e1
            exact ⟨0, e1.2.2.symm, by omega⟩
        obtain ⟨ga, rfl, hga⟩ := hg3
        clear hA9 hD9 hb9 han fc tc heqr
        go_wp2_with fail
        obtain ⟨I, hI0⟩ : ∃ I, wc.heap.size = I := ⟨_, rfl⟩
        have hIl : w.heap.size + 2 ≤ I := by have := hD8.lt; omega
        have hne8 := own_ne hown8 hI0
        have hitr := World.iter_heap wc lit8 0
        have hA8' := hA8.alloc (.stringIter lit8 0)
        have hD8' := hD8.alloc (.stringIter lit8 0)
        have hb8' := hb8.alloc hb8.size (.stringIter lit8 0)
        have hown8' := hown8.alloc (.stringIter lit8 0)
        rw [hI0] at hitr
        go_loopw [5] (fun s5 wr => ∃ k : Nat, k ≤ 8 ∧ wr.heap[I]? = some (.stringIter lit8 k) ∧ Blk wr w.heap.size 31 #[.int .i64 g1, .int .i64 g2, .int .i64 (ga : Int)] ∧ Blk wr (w.heap.size + 1) 31 #[.int .i64 t1, .int .i64 t2, .int .i64 (ta : Int)] ∧ Below w.heap.size w wr ∧
            (∀ j, s5.ownBlock = some j → j ≠ I) ∧ wr.ownsRow (w.heap.size + 2) 9 1 s5 (L0 ++ onCodes ta ga k).length (strv (L0 ++ onCodes ta ga k))) (fun _ wr => 8 - wr.iterPos I)
        case atStart =>
          refine ⟨0, by omega, hitr, hA8', hD8', hb8', hne8, ?_⟩
          have e : L0 ++ onCodes ta ga 0 = L0 := by simp [onCodes]
          rw [e]
          exact hown8'
        case round =>
          obtain ⟨k, hk, hI, hA, hD, hb, hne, hown⟩ := hrel
          clear hA8 hD8 hb8 hown8 hitr hA8' hD8' hb8' hown8' hne8
          rw [hI0]
          have hIw : I < wr.heap.size := (Array.getElem?_eq_some_iff.1 hI).1
          have hAl := hA.lt
          have hDl := hD.lt
          have hpos := iterPos_of hI
          have HPOS := Lib.hid hpos
          clear hpos
          have hcl := onCodes_len ta ga k
          have hlen : (L0 ++ onCodes ta ga k).length ≤ 9 := by rw [List.length_append]; omega
          by_cases hlt : k < 8
          · have hnx := fun ty => Lib.run_next_any_at (P := Tryd.prog) wr I lit8 k ty hI (by show k < 8; exact hlt)
            rw [lit8_next k hlt] at hnx
            have hI2 := Lib.iterAt_heap wr I lit8 k (k + 1) hI
            have hot := fun j h => Lib.iterAt_other wr I j lit8 (k + 1) h
            have hA2 := hA.keep (hot _ (by omega))
            have hD2 := hD.keep (hot _ (by omega))
            have hsz2 : (wr.iterAt I lit8 (k + 1)).heap.size = wr.heap.size := by simp [World.iterAt]
            have hb2 : Below w.heap.size w (wr.iterAt I lit8 (k + 1)) := hb.trans ⟨rfl, rfl, rfl, Nat.le_of_eq hsz2.symm, fun j hj => hot j (by omega)⟩
            have hown2 : (wr.iterAt I lit8 (k + 1)).ownsRow (w.heap.size + 2) 9 1 _ (L0 ++ onCodes ta ga k).length (strv (L0 ++ onCodes ta ga k)) :=
              hown.kept (row := some I) ⟨rfl, rfl, rfl, Nat.le_of_eq hsz2.symm, fun j _ hj => hot j (fun e => hj (by rw [e]))⟩ (by
                cases hv : Value.ownBlock _ with
                | none => exact .inl rfl
                | some j => right; intro e; injection e with e; exact hne j hv e)
            have hsz2a := Nat.le_of_eq hsz2.symm
            clear hsz2
            generalize wr.iterAt I lit8 (k + 1) = w2 at *
            have hc1 := hA2.cell 2
            have hc2 := hD2.cell 2
            have han := bits_an ta ga (by omega)
            have hbt := an_bit ta ga k (by omega) hlt
            have HOS := Lib.hid (onCodes_succ ta ga k)
            have hct := lit8_cut k hlt
            have hI2p := iterPos_of hI2
            have HP2 := Lib.hid hI2p
            clear hI2p hot
            cases hon : (onN ta k && !onN ga k)
            · rw [hon] at hbt
              have HO2 : Hid (onCodes ta ga (k + 1) = onCodes ta ga k) := by show _ = _; rw [HOS.out, hon]; rfl
              clear HOS hon
              go_wp2_with fail
              go_roundw
              case rel => exact ⟨k + 1, by omega, hI2, hA2, hD2, hb2, hne, by rw [HO2.out]; exact hown2⟩
              case measure => rw [HP2.out, HPOS.out]; omega
            · rw [hon] at hbt
              have HO2 : Hid (onCodes ta ga (k + 1) = onCodes ta ga k ++ [digitAt k]) := by show _ = _; rw [HOS.out, hon]; rfl
              clear HOS hon
              have HL : Hid (strv (L0 ++ onCodes ta ga (k + 1)) = strv (L0 ++ onCodes ta ga k) ++ [.string (bs (digitAt k))] ∧ (L0 ++ onCodes ta ga (k + 1)).length = (L0 ++ onCodes ta ga k).length + 1) := by
                show _ ∧ _
                rw [HO2.out, ← List.append_assoc]
                refine ⟨by simp [strv], ?_⟩
                rw [List.length_append, List.length_singleton]
              go_wp2_with (at_builtin; refine wpList_app_str rfl (.tmp 37) (.tmp 42) rfl (w.heap.size + 2) _ _ _ _ 1 rfl hown2 rfl (by omega) (by omega) ?_; intro v3 w3 hown3 hb3 hg3 hw3)
              have hI3 : w3.heap[I]? = some (.stringIter lit8 (k + 1)) := (hg3.block I (by omega) (by
                intro e
                exact hne I e.symm rfl)).trans hI2
              have hI3p := iterPos_of hI3
              go_roundw
              case rel => exact ⟨k + 1, by omega, hI3, hA2.below hb3 (by omega), hD2.below hb3 (by omega), hb2.trans (hb3.mono (by omega)), fun j hj => by
                rcases hw3 with e | e
                · exact hne j (e.symm.trans hj)
                · rw [hj] at e; injection e with e; omega, by rw [HL.out.1, HL.out.2]; exact hown3⟩
              case measure => rw [hI3p, HPOS.out]; omega
          · obtain rfl : k = 8 := by omega
            have hnx := fun ty => Lib.run_next_end_at (P := Tryd.prog) wr I lit8 8 ty hI (by decide)
            have hxx : ∀ x ∈ L0 ++ onCodes ta ga 8, x.length ≤ 20 := by
              intro x hx
              rw [List.mem_append] at hx
              rcases hx with hx | hx
              · rw [← HL0.out] at hx
                split at hx
                · rw [List.mem_singleton] at hx; rw [hx]; decide
                · cases hx
              · unfold onCodes at hx
                obtain ⟨j, _, rfl⟩ := List.mem_map.1 hx
                simp [digitAt]
            have HSG : Hid (sgrS (orP a1 a2 a3) (orP b1 b2 b3) = [27, 91] ++ Lib.join (L0 ++ onCodes ta ga 8 ++ (if t1 ≠ g1 then [codeS t1 30] else []) ++ (if t2 ≠ g2 then [codeS t2 40] else [])) [59] ++ [109]) := by
              show _ = _
              rw [HF.out, HT.out]
              unfold sgrS
              rw [if_neg HNQ.out]
              have e1 := HG.out
              have e2 := HL0.out
              unfold codesOf
              simp only [Int.toNat_natCast]
              rw [e1, e2]
              rfl
            have hll : (L0 ++ onCodes ta ga 8).length ≤ 9 := hlen
            have fc := hA.cell 0
            have tc := hD.cell 0
            have fd := hA.cell 1
            have td := hD.cell 1
            clear hlen hcl HL0 HG HNQ HF HT hne
            generalize L0 ++ onCodes ta ga 8 = L1 at *
            by_cases h1 : t1 ≠ g1
            · by_cases h2 : t2 ≠ g2
              · have q1 : (t1 != g1) = true := by simpa using h1
                have q2 : (t2 != g2) = true := by simpa using h2
                have HC : Hid (sgrS (orP a1 a2 a3) (orP b1 b2 b3) = [27, 91] ++ Lib.join (L1 ++ [codeS t1 30] ++ [codeS t2 40]) [59] ++ [109]) := by
                  show _ = _
                  rw [HSG.out, if_pos h1, if_pos h2]
                  all_goals simp only [List.append_nil, List.append_assoc]
                clear h1 h2 HSG
                go_wp2_with fail
                refine (colourCode_any t1 30 ct1 (by omega) wr (ht.on hB hb) (by omega)).mono ?_
                rintro e w5 ⟨rfl, hb5⟩
                have hA5 := hA.below hb5 (by omega)
                have hD5 := hD.below hb5 (by omega)
                have hbw5 := hb.trans (hb5.mono (by omega))
                have hown5 := own_below hown hb5
                have hs5 := hb5.size
                generalize hcs5 : codeS t1 30 = C5 at *
                go_wp2_with (at_builtin; refine wpList_app_str rfl (.tmp 49) (.tmp 53) rfl (w.heap.size + 2) _ _ _ _ 1 rfl hown5 rfl (by omega) (by omega) ?_; intro v6 w6 hown6 hb6 hg6 hw6; have hA6 := hA5.below hb6 (by omega); have hD6 := hD5.below hb6 (by omega); have hbw6 := hbw5.trans (hb6.mono (by omega)); have hs6 := hb6.size; have fc6 := hA6.cell 0; have tc6 := hD6.cell 0; have fd6 := hA6.cell 1; have td6 := hD6.cell 1)
                have e5 : strv L1 ++ [Value.string (bs C5)] = strv (L1 ++ [C5]) := by simp [strv]
                have el5 : L1.length + 1 = (L1 ++ [C5]).length := by simp
                rw [e5, el5] at hown6
                have hll6 : (L1 ++ [C5]).length ≤ 20 := by simp; omega
                have hxx6 : ∀ x ∈ (L1 ++ [C5]), x.length ≤ 20 := by
                  intro x hx
                  rw [List.mem_append, List.mem_singleton] at hx
                  rcases hx with hx | rfl
                  · exact hxx x hx
                  · rw [← hcs5]; exact codeS_len _ _
                refine (colourCode_any t2 40 ct2 (by omega) w6 (ht.on hB hbw6) (by omega)).mono ?_
                rintro e w7 ⟨rfl, hb7⟩
                have hA7 := hA6.below hb7 (by omega)
                have hD7 := hD6.below hb7 (by omega)
                have hbw7 := hbw6.trans (hb7.mono (by omega))
                have hown7 := own_below hown6 hb7
                have hs7 := hb7.size
                generalize hcs7 : codeS t2 40 = C7 at *
                go_wp2_with (at_builtin; refine wpList_app_str rfl (.tmp 60) (.tmp 64) rfl (w.heap.size + 2) _ _ _ _ 1 rfl hown7 rfl (by omega) (by omega) ?_; intro v8 w8 hown8 hb8 hg8 hw8; have hA8 := hA7.below hb8 (by omega); have hD8 := hD7.below hb8 (by omega); have hbw8 := hbw7.trans (hb8.mono (by omega)); have hs8 := hb8.size; have fc8 := hA8.cell 0; have tc8 := hD8.cell 0; have fd8 := hA8.cell 1; have td8 := hD8.cell 1)
                have e7 : strv (L1 ++ [C5]) ++ [Value.string (bs C7)] = strv ((L1 ++ [C5]) ++ [C7]) := by simp [strv]
                have el7 : (L1 ++ [C5]).length + 1 = ((L1 ++ [C5]) ++ [C7]).length := by simp
                rw [e7, el7] at hown8
                have hll8 : ((L1 ++ [C5]) ++ [C7]).length ≤ 20 := by simp; omega
                have hxx8 : ∀ x ∈ ((L1 ++ [C5]) ++ [C7]), x.length ≤ 20 := by
                  intro x hx
                  rw [List.mem_append, List.mem_singleton] at hx
                  rcases hx with hx | rfl
                  · exact hxx6 x hx
                  · rw [← hcs7]; exact codeS_len _ _
                have hjo := join_any _ _ _ _ hown8 (by omega) (fun x hx => Nat.le_trans (hxx8 x hx) (by omega))
                have hjl := join_len [59] 20 _ hxx8
                have hjz : (bs (Lib.join ((L1 ++ [C5]) ++ [C7]) [59])).size ≤ 500 := by
                  rw [bs_size]
                  have h59 : ([59] : Tx).length = 1 := rfl
                  have : ((L1 ++ [C5]) ++ [C7]).length * (20 + 1) ≤ 20 * (20 + 1) := Nat.mul_le_mul_right _ hll8
                  rw [h59] at hjl
                  omega
                have HF2 : Hid (({ data := #[27, 91] } : ByteArray) ++ bs (Lib.join ((L1 ++ [C5]) ++ [C7]) [59]) ++ { data := #[109] } = bs (sgrS (orP a1 a2 a3) (orP b1 b2 b3))) := by
                  show _ = _
                  rw [HC.out, ← bs_app, ← bs_app]; rfl
                generalize bs (Lib.join ((L1 ++ [C5]) ++ [C7]) [59]) = J at *
                go_wp2_with (go_at_call 48; refine hjo.mono ?_; rintro e w9 ⟨rfl, hb9⟩)
                go_ret
                exact ⟨by rw [← HF2.out]; rfl, hbw8.trans (hb9.mono (by omega))⟩
              · have q1 : (t1 != g1) = true := by simpa using h1
                have q2 : (t2 != g2) = false := by simpa using h2
                have HC : Hid (sgrS (orP a1 a2 a3) (orP b1 b2 b3) = [27, 91] ++ Lib.join (L1 ++ [codeS t1 30]) [59] ++ [109]) := by
                  show _ = _
                  rw [HSG.out, if_pos h1, if_neg (by simpa using h2)]
                  all_goals simp only [List.append_nil, List.append_assoc]
                clear h1 h2 HSG
                go_wp2_with fail
                refine (colourCode_any t1 30 ct1 (by omega) wr (ht.on hB hb) (by omega)).mono ?_
                rintro e w5 ⟨rfl, hb5⟩
                have hA5 := hA.below hb5 (by omega)
                have hD5 := hD.below hb5 (by omega)
                have hbw5 := hb.trans (hb5.mono (by omega))
                have hown5 := own_below hown hb5
                have hs5 := hb5.size
                generalize hcs5 : codeS t1 30 = C5 at *
                go_wp2_with (at_builtin; refine wpList_app_str rfl (.tmp 49) (.tmp 53) rfl (w.heap.size + 2) _ _ _ _ 1 rfl hown5 rfl (by omega) (by omega) ?_; intro v6 w6 hown6 hb6 hg6 hw6; have hA6 := hA5.below hb6 (by omega); have hD6 := hD5.below hb6 (by omega); have hbw6 := hbw5.trans (hb6.mono (by omega)); have hs6 := hb6.size; have fc6 := hA6.cell 0; have tc6 := hD6.cell 0; have fd6 := hA6.cell 1; have td6 := hD6.cell 1)
                have e5 : strv L1 ++ [Value.string (bs C5)] = strv (L1 ++ [C5]) := by simp [strv]
                have el5 : L1.length + 1 = (L1 ++ [C5]).length := by simp
                rw [e5, el5] at hown6
                have hll6 : (L1 ++ [C5]).length ≤ 20 := by simp; omega
                have hxx6 : ∀ x ∈ (L1 ++ [C5]), x.length ≤ 20 := by
                  intro x hx
                  rw [List.mem_append, List.mem_singleton] at hx
                  rcases hx with hx | rfl
                  · exact hxx x hx
                  · rw [← hcs5]; exact codeS_len _ _
                have hjo := join_any _ _ _ _ hown6 (by omega) (fun x hx => Nat.le_trans (hxx6 x hx) (by omega))
                have hjl := join_len [59] 20 _ hxx6
                have hjz : (bs (Lib.join (L1 ++ [C5]) [59])).size ≤ 500 := by
                  rw [bs_size]
                  have h59 : ([59] : Tx).length = 1 := rfl
                  have : (L1 ++ [C5]).length * (20 + 1) ≤ 20 * (20 + 1) := Nat.mul_le_mul_right _ hll6
                  rw [h59] at hjl
                  omega
                have HF2 : Hid (({ data := #[27, 91] } : ByteArray) ++ bs (Lib.join (L1 ++ [C5]) [59]) ++ { data := #[109] } = bs (sgrS (orP a1 a2 a3) (orP b1 b2 b3))) := by
                  show _ = _
                  rw [HC.out, ← bs_app, ← bs_app]; rfl
                generalize bs (Lib.join (L1 ++ [C5]) [59]) = J at *
                go_wp2_with (go_at_call 48; refine hjo.mono ?_; rintro e w9 ⟨rfl, hb9⟩)
                go_ret
                exact ⟨by rw [← HF2.out]; rfl, hbw6.trans (hb9.mono (by omega))⟩
            · by_cases h2 : t2 ≠ g2
              · have q1 : (t1 != g1) = false := by simpa using h1
                have q2 : (t2 != g2) = true := by simpa using h2
                have HC : Hid (sgrS (orP a1 a2 a3) (orP b1 b2 b3) = [27, 91] ++ Lib.join (L1 ++ [codeS t2 40]) [59] ++ [109]) := by
                  show _ = _
                  rw [HSG.out, if_neg (by simpa using h1), if_pos h2]
                  all_goals simp only [List.append_nil, List.append_assoc]
                clear h1 h2 HSG
                go_wp2_with fail
                refine (colourCode_any t2 40 ct2 (by omega) wr (ht.on hB hb) (by omega)).mono ?_
                rintro e w7 ⟨rfl, hb7⟩
                have hA7 := hA.below hb7 (by omega)
                have hD7 := hD.below hb7 (by omega)
                have hbw7 := hb.trans (hb7.mono (by omega))
                have hown7 := own_below hown hb7
                have hs7 := hb7.size
                generalize hcs7 : codeS t2 40 = C7 at *
                go_wp2_with (at_builtin; refine wpList_app_str rfl (.tmp 60) (.tmp 64) rfl (w.heap.size + 2) _ _ _ _ 1 rfl hown7 rfl (by omega) (by omega) ?_; intro v8 w8 hown8 hb8 hg8 hw8; have hA8 := hA7.below hb8 (by omega); have hD8 := hD7.below hb8 (by omega); have hbw8 := hbw7.trans (hb8.mono (by omega)); have hs8 := hb8.size; have fc8 := hA8.cell 0; have tc8 := hD8.cell 0; have fd8 := hA8.cell 1; have td8 := hD8.cell 1)
                have e7 : strv L1 ++ [Value.string (bs C7)] = strv (L1 ++ [C7]) := by simp [strv]
                have el7 : L1.length + 1 = (L1 ++ [C7]).length := by simp
                rw [e7, el7] at hown8
                have hll8 : (L1 ++ [C7]).length ≤ 20 := by simp; omega
                have hxx8 : ∀ x ∈ (L1 ++ [C7]), x.length ≤ 20 := by
                  intro x hx
                  rw [List.mem_append, List.mem_singleton] at hx
                  rcases hx with hx | rfl
                  · exact hxx x hx
                  · rw [← hcs7]; exact codeS_len _ _
                have hjo := join_any _ _ _ _ hown8 (by omega) (fun x hx => Nat.le_trans (hxx8 x hx) (by omega))
                have hjl := join_len [59] 20 _ hxx8
                have hjz : (bs (Lib.join (L1 ++ [C7]) [59])).size ≤ 500 := by
                  rw [bs_size]
                  have h59 : ([59] : Tx).length = 1 := rfl
                  have : (L1 ++ [C7]).length * (20 + 1) ≤ 20 * (20 + 1) := Nat.mul_le_mul_right _ hll8
                  rw [h59] at hjl
                  omega
                have HF2 : Hid (({ data := #[27, 91] } : ByteArray) ++ bs (Lib.join (L1 ++ [C7]) [59]) ++ { data := #[109] } = bs (sgrS (orP a1 a2 a3) (orP b1 b2 b3))) := by
                  show _ = _
                  rw [HC.out, ← bs_app, ← bs_app]; rfl
                generalize bs (Lib.join (L1 ++ [C7]) [59]) = J at *
                go_wp2_with (go_at_call 48; refine hjo.mono ?_; rintro e w9 ⟨rfl, hb9⟩)
                go_ret
                exact ⟨by rw [← HF2.out]; rfl, hbw8.trans (hb9.mono (by omega))⟩
              · have q1 : (t1 != g1) = false := by simpa using h1
                have q2 : (t2 != g2) = false := by simpa using h2
                have HC : Hid (sgrS (orP a1 a2 a3) (orP b1 b2 b3) = [27, 91] ++ Lib.join (L1) [59] ++ [109]) := by
                  show _ = _
                  rw [HSG.out, if_neg (by simpa using h1), if_neg (by simpa using h2)]
                  all_goals simp only [List.append_nil, List.append_assoc]
                clear h1 h2 HSG
                go_wp2_with fail
                have hjo := join_any _ _ _ _ hown (by omega) (fun x hx => Nat.le_trans (hxx x hx) (by omega))
                have hjl := join_len [59] 20 _ hxx
                have hjz : (bs (Lib.join L1 [59])).size ≤ 500 := by
                  rw [bs_size]
                  have h59 : ([59] : Tx).length = 1 := rfl
                  have : L1.length * (20 + 1) ≤ 20 * (20 + 1) := Nat.mul_le_mul_right _ (by omega)
                  rw [h59] at hjl
                  omega
                have HF2 : Hid (({ data := #[27, 91] } : ByteArray) ++ bs (Lib.join L1 [59]) ++ { data := #[109] } = bs (sgrS (orP a1 a2 a3) (orP b1 b2 b3))) := by
                  show _ = _
                  rw [HC.out, ← bs_app, ← bs_app]; rfl
                generalize bs (Lib.join L1 [59]) = J at *
                go_wp2_with (go_at_call 48; refine hjo.mono ?_; rintro e w9 ⟨rfl, hb9⟩)
                go_ret
                exact ⟨by rw [← HF2.out]; rfl, hb.trans (hb9.mono (by omega))⟩
end Go.Proofs.YtajnlbfhcbkopaaDoor.Sty
