/- The chapter's Sgr walked. -/
import Derived.Test.YtdbkccffepfenaaDoorSem
namespace Go.Proofs.YtdbkccffepfenaaDoor.Sty
open Go.RowKit

set_option maxRecDepth 100000 in
set_option maxHeartbeats 2000000 in
theorem sgrRef_any (a1 a2 a3 b1 b2 b3 : Int) (w : World) :
    Calls Tryd.prog 23 #[.agg #[.int .i64 a1, .int .i64 a2, .int .i64 a3], .agg #[.int .i64 b1, .int .i64 b2, .int .i64 b3]] w fun e w' => e = .returned (.string (bs (sgrS (orP a1 a2 a3) (orP b1 b2 b3)))) ∧ Below w.heap.size w w' := by
  obtain ⟨f, hf⟩ : ∃ f, orP a1 a2 a3 = f := ⟨_, rfl⟩
  obtain ⟨f1, f2, f3⟩ := f
  obtain ⟨t, hto⟩ : ∃ t, orP b1 b2 b3 = t := ⟨_, rfl⟩
  obtain ⟨t1, t2, t3⟩ := t
  have hrf := orP_right a1 a2 a3
  have hrt := orP_right b1 b2 b3
  rw [hf] at hrf
  rw [hto] at hrt
  have HF := Lib.hid hf
  have HT := Lib.hid hto
  clear hf hto
  obtain ⟨x, hx⟩ : ∃ x, rightS a1 a2 a3 = x := ⟨_, rfl⟩
  obtain ⟨y, hy⟩ : ∃ y, rightS b1 b2 b3 = y := ⟨_, rfl⟩
  have cx := fun w => rightRef_any a1 a2 a3 _ hx w
  have cy := fun w => rightRef_any b1 b2 b3 _ hy w
  have HX := Lib.hid hx
  have HY := Lib.hid hy
  clear hx hy
  have hA := (Blk.new w 31 #[.int .i64 a1, .int .i64 a2, .int .i64 a3]).alloc (.cells #[.int .i64 b1, .int .i64 b2, .int .i64 b3] 31)
  have hD := Blk.new (w.alloc (.cells #[.int .i64 a1, .int .i64 a2, .int .i64 a3] 31)) 31 #[.int .i64 b1, .int .i64 b2, .int .i64 b3]
  rw [size_alloc] at hD
  have hbel : Below w.heap.size w ((w.alloc (.cells #[.int .i64 a1, .int .i64 a2, .int .i64 a3] 31)).alloc (.cells #[.int .i64 b1, .int .i64 b2, .int .i64 b3] 31)) := ((Below.refl _ _).alloc (Nat.le_refl _) _).alloc (by simp) _
  go_enter Tryd.func23, Tryd.ntmps23
  go_upto_region 1 with fail
  generalize (w.alloc (.cells #[.int .i64 a1, .int .i64 a2, .int .i64 a3] 31)).alloc (.cells #[.int .i64 b1, .int .i64 b2, .int .i64 b3] 31) = W at *
  have hAl := hA.lt
  have hDl := hD.lt
  go_wp2_with (refine wpList_load_row rfl 31 _ rfl w.heap.size rfl _ _ _ _ hA Tryd.underlying31 rfl (by kernel_rfl) ?_)
  refine (cx _).mono ?_
  rintro e w1 ⟨rfl, hb1⟩
  have hA1 := hA.below hb1 (by omega)
  have hD1 := hD.below hb1 (by omega)
  have hbw1 := hbel.trans (hb1.mono (by omega))
  have hs1 := hb1.size
  clear hA hD hbel hb1
  go_wp2_with (refine wpList_load_row rfl 31 _ rfl (w.heap.size + 1) rfl _ _ _ _ hD1 Tryd.underlying31 rfl (by kernel_rfl) ?_)
  refine (cy _).mono ?_
  rintro e w2 ⟨rfl, hb2⟩
  have hA2 := hA1.below hb2 (by omega)
  have hD2 := hD1.below hb2 (by omega)
  have hbw2 := hbw1.trans (hb2.mono (by omega))
  have hs2 := hb2.size
  clear hA1 hD1 hbw1 hb2 cx cy
  go_upto_if 15 with fail
  go_cut [] (fun wx => Blk wx w.heap.size 31 #[.int .i64 f1, .int .i64 f2, .int .i64 f3] ∧ Blk wx (w.heap.size + 1) 31 #[.int .i64 b1, .int .i64 b2, .int .i64 b3] ∧ Below w.heap.size w wx)
  case first =>
    have e1 := HF.out
    have e2 := HX.out
    unfold orP at e1
    rw [e2] at e1
    cases x
    · rw [if_neg (by decide)] at e1
      simp only [Prod.mk.injEq] at e1
      obtain ⟨rfl, rfl, rfl⟩ := e1
      go_wp2_with fail
      refine (plainRef_any w2).mono ?_
      rintro e w4 ⟨rfl, hb4⟩
      have hA4 := hA2.below hb4 (by omega)
      have hD4 := hD2.below hb4 (by omega)
      have hbw4 := hbw2.trans (hb4.mono (by omega))
      go_wp2_with (refine wpList_store_row2 rfl 31 (.tmp 2) (.tmp 16) rfl w.heap.size #[.int .i64 (-1), .int .i64 (-1), .int .i64 0] rfl rfl _ _ hA4 (by kernel_rfl) rfl (by kernel_rfl) ?_; intro w5 hA5 hb5 hk5 hs5)
      go_meet
      exact ⟨hA5, hD4.keep (hk5 _ (by omega)), hbw4.trans (hb5 _ (Nat.le_refl _))⟩
    · rw [if_pos rfl] at e1
      simp only [Prod.mk.injEq] at e1
      obtain ⟨rfl, rfl, rfl⟩ := e1
      go_wp2_with fail
      go_meet
      exact ⟨hA2, hD2, hbw2⟩
  case rest =>
    obtain ⟨hA3, hD3, hb3⟩ := hcut
    clear hA2 hD2 hbw2
    go_upto_if 18 with fail
    go_cut [] (fun wx => Blk wx w.heap.size 31 #[.int .i64 f1, .int .i64 f2, .int .i64 f3] ∧ Blk wx (w.heap.size + 1) 31 #[.int .i64 t1, .int .i64 t2, .int .i64 t3] ∧ Below w.heap.size w wx)
    case first =>
      have e1 := HT.out
      have e2 := HY.out
      unfold orP at e1
      rw [e2] at e1
      have hA3l := hA3.lt
      have hD3l := hD3.lt
      cases y
      · rw [if_neg (by decide)] at e1
        simp only [Prod.mk.injEq] at e1
        obtain ⟨rfl, rfl, rfl⟩ := e1
        go_wp2_with fail
        refine (plainRef_any _).mono ?_
        rintro e w4 ⟨rfl, hb4⟩
        have hA4 := hA3.below hb4 (by omega)
        have hD4 := hD3.below hb4 (by omega)
        have hbw4 := hb3.trans (hb4.mono (by omega))
        go_wp2_with (refine wpList_store_row2 rfl 31 (.tmp 3) (.tmp 19) rfl (w.heap.size + 1) #[.int .i64 (-1), .int .i64 (-1), .int .i64 0] rfl rfl _ _ hD4 (by kernel_rfl) rfl (by kernel_rfl) ?_; intro w5 hD5 hb5 hk5 hs5)
        go_meet
        exact ⟨hA4.keep (hk5 _ (by omega)), hD5, hbw4.trans (hb5 _ (by omega))⟩
      · rw [if_pos rfl] at e1
        simp only [Prod.mk.injEq] at e1
        obtain ⟨rfl, rfl, rfl⟩ := e1
        go_wp2_with fail
        go_meet
        exact ⟨hA3, hD3, hb3⟩
    case rest =>
      obtain ⟨hA9, hD9, hb9⟩ := hcut
      clear hA3 hD3 hb3
      obtain ⟨cf1, cf2, hf30, hf31⟩ := rightS_parts hrf
      obtain ⟨ct1, ct2, ht30, ht31⟩ := rightS_parts hrt
      change 0 ≤ f3 at hf30
      change 0 ≤ t3 at ht30
      change f3 ≤ 255 at hf31
      change t3 ≤ 255 at ht31
      change isCol t1 = true at ct1
      change isCol t2 = true at ct2
      clear hrf hrt cf1 cf2
      obtain ⟨fa, rfl⟩ : ∃ fa : Nat, f3 = fa := ⟨f3.toNat, by omega⟩
      obtain ⟨ta, rfl⟩ : ∃ ta : Nat, t3 = ta := ⟨t3.toNat, by omega⟩
      by_cases heq : (f1, f2, (fa : Int)) = (t1, t2, (ta : Int))
      · have HE : Hid (sgrS (orP a1 a2 a3) (orP b1 b2 b3) = []) := by
          show _ = _
          rw [HF.out, HT.out]; unfold sgrS; rw [if_pos heq]
        have heqr := eq_run f1 f2 fa t1 t2 ta true (by simpa using heq)
        clear heq
        go_wp2_with (first
          | (refine wpList_load_row rfl 31 _ rfl w.heap.size rfl _ _ _ _ hA9 Tryd.underlying31 rfl (by kernel_rfl) ?_)
          | (refine wpList_load_row rfl 31 _ rfl (w.heap.size + 1) rfl _ _ _ _ hD9 Tryd.underlying31 rfl (by kernel_rfl) ?_))
        go_ret
        exact ⟨by rw [HE.out]; rfl, hb9⟩
      · have heqr := eq_run f1 f2 fa t1 t2 ta false (by simpa using heq)
        have HNQ := Lib.hid heq
        have HNE := Lib.hid (codesOf_ne (f1 := f1) (f2 := f2) (t1 := t1) (t2 := t2) (by omega : fa < 256) (by omega : ta < 256) heq)
        clear heq
        have han := bits_an fa ta (by omega)
        have fc := hA9.cell 2
        have tc := hD9.cell 2
        obtain ⟨g, hg⟩ : ∃ g : St, (if decide (an fa ta ≠ 0) = true then ((-1, -1, 0) : St) else (f1, f2, (fa : Int))) = g := ⟨_, rfl⟩
        obtain ⟨g1, g2, g3⟩ := g
        obtain ⟨L0, hL0⟩ : ∃ L0 : List Tx, (if decide (an fa ta ≠ 0) = true then [[48]] else []) = L0 := ⟨_, rfl⟩
        have HG := Lib.hid hg
        have HL0 := Lib.hid hL0
        clear hg hL0
        go_upto_if 28 with (first
            | (refine wpList_load_row rfl 31 _ rfl w.heap.size rfl _ _ _ _ hA9 Tryd.underlying31 rfl (by kernel_rfl) ?_)
            | (refine wpList_load_row rfl 31 _ rfl (w.heap.size + 1) rfl _ _ _ _ hD9 Tryd.underlying31 rfl (by kernel_rfl) ?_))
        go_cut [7] (fun s7 wx => s7 = .string (bs (sem L0)) ∧ Blk wx w.heap.size 31 #[.int .i64 g1, .int .i64 g2, .int .i64 g3] ∧ Blk wx (w.heap.size + 1) 31 #[.int .i64 t1, .int .i64 t2, .int .i64 (ta : Int)] ∧ Below w.heap.size w wx)
        case first =>
          have hAl := hA9.lt
          have hDl := hD9.lt
          by_cases hclr : an fa ta = 0
          · have hnz : (((an fa ta : Nat) : Int) != 0) = false := by rw [hclr]; rfl
            have e1 := HG.out
            have e2 := HL0.out
            rw [if_neg (by simp [hclr])] at e1 e2
            simp only [Prod.mk.injEq] at e1
            obtain ⟨rfl, rfl, e1⟩ := e1
            subst e2
            have HA9 := Lib.hid hA9
            rw [e1] at HA9
            clear e1 HG HL0
            go_wp2_with fail
            go_meet
            exact ⟨rfl, HA9.out, hD9, hb9⟩
          · have hnz : (((an fa ta : Nat) : Int) != 0) = true := by
              have : ((an fa ta : Nat) : Int) ≠ 0 := by exact_mod_cast hclr
              simpa using this
            have e1 := HG.out
            have e2 := HL0.out
            rw [if_pos (by simp [hclr])] at e1 e2
            simp only [Prod.mk.injEq] at e1
            obtain ⟨rfl, rfl, rfl⟩ := e1
            subst e2
            clear HG HL0
            go_wp2_with fail
            refine (plainRef_any _).mono ?_
            rintro e w4 ⟨rfl, hb4⟩
            have hA4 := hA9.below hb4 (by omega)
            have hD4 := hD9.below hb4 (by omega)
            have hbw4 := hb9.trans (hb4.mono (by omega))
            clear hA9 hD9 hb9 hb4
            go_wp2_with (refine wpList_store_row2 rfl 31 (.tmp 2) (.tmp 29) rfl w.heap.size #[.int .i64 (-1), .int .i64 (-1), .int .i64 0] rfl rfl _ _ hA4 (by kernel_rfl) rfl (by kernel_rfl) ?_; intro w5 hA5 hb5 hk5 hs5)
            go_meet
            exact ⟨rfl, hA5, hD4.keep (hk5 _ (by omega)), hbw4.trans (hb5 _ (Nat.le_refl _))⟩
        case rest =>
          obtain ⟨rfl, hA8, hD8, hb8⟩ := hcut
          have hg3 : ∃ ga : Nat, g3 = ga ∧ ga < 256 := by
            have e1 := HG.out
            by_cases hclr : an fa ta = 0
            · rw [if_neg (by simp [hclr])] at e1
              simp only [Prod.mk.injEq] at e1
              exact ⟨fa, e1.2.2.symm, by omega⟩
            · rw [if_pos (by simp [hclr])] at e1
              simp only [Prod.mk.injEq] at e1
              exact ⟨0, e1.2.2.symm, by omega⟩
          obtain ⟨ga, rfl, hga⟩ := hg3
          clear hA9 hD9 hb9 han fc tc heqr
          have hA7 := hA8.alloc (.cells #[.int .i64 1, .int .i64 2, .int .i64 3, .int .i64 4, .int .i64 5, .int .i64 7, .int .i64 8, .int .i64 9] 3)
          have hD7 := hD8.alloc (.cells #[.int .i64 1, .int .i64 2, .int .i64 3, .int .i64 4, .int .i64 5, .int .i64 7, .int .i64 8, .int .i64 9] 3)
          have hb7 := hb8.alloc hb8.size (.cells #[.int .i64 1, .int .i64 2, .int .i64 3, .int .i64 4, .int .i64 5, .int .i64 7, .int .i64 8, .int .i64 9] 3)
          have hN7 := Blk.new wc 3 #[.int .i64 1, .int .i64 2, .int .i64 3, .int .i64 4, .int .i64 5, .int .i64 7, .int .i64 8, .int .i64 9]
          obtain ⟨I, hI0⟩ : ∃ I, wc.heap.size = I := ⟨_, rfl⟩
          have hIl : w.heap.size + 2 ≤ I := by have := hD8.lt; omega
          rw [hI0] at hN7
          go_wp2_with fail
          clear hA8 hD8 hb8
          generalize wc.alloc (.cells #[.int .i64 1, .int .i64 2, .int .i64 3, .int .i64 4, .int .i64 5, .int .i64 7, .int .i64 8, .int .i64 9] 3) = W7 at *
          go_loopw [7, 9] (fun s7 s9 wr => ∃ k : Nat, k ≤ 8 ∧ s9 = .int .i64 (k : Int) ∧ s7 = .string (bs (sem (L0 ++ onCodes ta ga k))) ∧ Blk wr w.heap.size 31 #[.int .i64 g1, .int .i64 g2, .int .i64 (ga : Int)] ∧ Blk wr (w.heap.size + 1) 31 #[.int .i64 t1, .int .i64 t2, .int .i64 (ta : Int)] ∧
              Blk wr I 3 #[.int .i64 1, .int .i64 2, .int .i64 3, .int .i64 4, .int .i64 5, .int .i64 7, .int .i64 8, .int .i64 9] ∧ Below w.heap.size w wr) (fun _ s9 _ => (8 - intOf s9).toNat)
          case atStart =>
            refine ⟨0, by omega, rfl, ?_, hA7, hD7, hN7, hb7⟩
            have e : L0 ++ onCodes ta ga 0 = L0 := by simp [onCodes]
            rw [e]
          case round =>
            obtain ⟨k, hk, rfl, rfl, hA, hD, hN, hb⟩ := hrel
            clear hA7 hD7 hb7 hN7
            have hAl := hA.lt
            have hDl := hD.lt
            have hNl := hN.lt
            have hcl := onCodes_len ta ga k
            have hx20 : ∀ x ∈ L0 ++ onCodes ta ga k, x.length ≤ 20 := by
              intro x hx
              rw [List.mem_append] at hx
              rcases hx with hx | hx
              · rw [← HL0.out] at hx
                split at hx
                · rw [List.mem_singleton] at hx; rw [hx]; decide
                · cases hx
              · unfold onCodes at hx
                obtain ⟨j, _, rfl⟩ := List.mem_map.1 hx
                simp [digitAt]
            have hll : (L0 ++ onCodes ta ga k).length ≤ 9 := by
              have : L0.length ≤ 1 := by rw [← HL0.out]; split <;> simp
              rw [List.length_append]; omega
            have hsz : (bs (sem (L0 ++ onCodes ta ga k))).size ≤ 189 := by
              rw [bs_size]
              have := sem_len _ hx20
              omega
            by_cases hlt : k < 8
            · have o1 := on_int ta k
              have o2 := on_zero ga k
              have tc := hD.cell 2
              have fc := hA.cell 2
              have nc := numAt_get k hlt
              rw [← hN.cell k] at nc
              have hnr := numAt_le k hlt
              have d1 : (0 : Int) ≤ (ta : Int) / 2 ^ k := by
                have e : ((ta : Int) / 2 ^ k) = ((ta / 2 ^ k : Nat) : Int) := by simp
                rw [e]; exact Int.natCast_nonneg _
              have d2 : (0 : Int) ≤ (ga : Int) / 2 ^ k := by
                have e : ((ga : Int) / 2 ^ k) = ((ga / 2 ^ k : Nat) : Int) := by simp
                rw [e]; exact Int.natCast_nonneg _
              have HOS := Lib.hid (onCodes_succ ta ga k)
              cases h1 : onN ta k
              · rw [h1] at o1
                have HO2 : Hid (bs (sem (L0 ++ onCodes ta ga k)) = bs (sem (L0 ++ onCodes ta ga (k + 1)))) := by show _ = _; rw [HOS.out, h1]; rfl
                clear HOS h1
                go_wp2_with fail
                go_roundw
                case rel => exact ⟨k + 1, by omega, by go_num, by rw [HO2.out], hA, hD, hN, hb⟩
                case measure => simp [intOf]; omega
              · cases h2 : onN ga k
                · rw [h1] at o1
                  rw [h2] at o2
                  have dd := digitsI_any (numAt k) hnr.1 hnr.2
                  rw [numAt_dec k hlt] at dd
                  have hdz : (bs (digitAt k)).size ≤ 1 := by rw [bs_size]; simp [digitAt]
                  have HO2 : Hid (bs (sem (L0 ++ onCodes ta ga k)) ++ { data := #[59] } ++ bs (digitAt k) = bs (sem (L0 ++ onCodes ta ga (k + 1)))) := by
                    show _ = _
                    have e : ({ data := #[59] } : ByteArray) = bs [59] := rfl
                    rw [HOS.out, h1, h2, if_pos (show (true && !false) = true from rfl), ← List.append_assoc, sem_snoc, e, bs_app, bs_app, List.append_assoc]
                    rfl
                  clear HOS h1 h2
                  generalize bs (sem (L0 ++ onCodes ta ga k)) = S at *
                  generalize bs (digitAt k) = D at *
                  generalize numAt k = nk at *
                  go_wp2_with fail
                  refine (dd _).mono ?_
                  rintro e w4 ⟨rfl, hb4⟩
                  have hA4 := hA.below hb4 (by omega)
                  have hD4 := hD.below hb4 (by omega)
                  have hN4 := hN.below hb4 (by omega)
                  have hbw4 := hb.trans (hb4.mono (by omega))
                  go_wp2_with fail
                  go_roundw
                  case rel => exact ⟨k + 1, by omega, by go_num, by rw [HO2.out], hA4, hD4, hN4, hbw4⟩
                  case measure => simp [intOf]; omega
                · rw [h1] at o1
                  rw [h2] at o2
                  have HO2 : Hid (bs (sem (L0 ++ onCodes ta ga k)) = bs (sem (L0 ++ onCodes ta ga (k + 1)))) := by show _ = _; rw [HOS.out, h1, h2]; rfl
                  clear HOS h1 h2
                  go_wp2_with fail
                  go_roundw
                  case rel => exact ⟨k + 1, by omega, by go_num, by rw [HO2.out], hA, hD, hN, hb⟩
                  case measure => simp [intOf]; omega
            · obtain rfl : k = 8 := by omega
              have HSG : Hid (codesOf (f1, f2, (fa : Int)) (t1, t2, (ta : Int)) = L0 ++ onCodes ta ga 8 ++ (if t1 ≠ g1 then [codeS t1 30] else []) ++ (if t2 ≠ g2 then [codeS t2 40] else [])) := by
                show _ = _
                have e1 := HG.out
                have e2 := HL0.out
                unfold codesOf
                simp only [Int.toNat_natCast]
                rw [e1, e2]
                rfl
              have fc := hA.cell 0
              have tc := hD.cell 0
              clear HL0 HG
              generalize L0 ++ onCodes ta ga 8 = L1 at *
              obtain ⟨L2, hL2⟩ : ∃ L2, L1 ++ (if t1 ≠ g1 then [codeS t1 30] else []) = L2 := ⟨_, rfl⟩
              have HL2 := Lib.hid hL2
              rw [hL2] at HSG
              clear hL2
              go_upto_if 61 with fail
              go_cut [7] (fun s7 wx => s7 = .string (bs (sem L2)) ∧ Blk wx w.heap.size 31 #[.int .i64 g1, .int .i64 g2, .int .i64 (ga : Int)] ∧ Blk wx (w.heap.size + 1) 31 #[.int .i64 t1, .int .i64 t2, .int .i64 (ta : Int)] ∧ Below w.heap.size w wx)
              case first =>
                by_cases h1 : t1 ≠ g1
                · have q1 : (t1 != g1) = true := by simpa using h1
                  have e2 := HL2.out
                  rw [if_pos h1] at e2
                  have HS : Hid (bs (sem L1) ++ { data := #[59] } ++ bs (codeS t1 30) = bs (sem L2)) := by
                    show _ = _
                    have e : ({ data := #[59] } : ByteArray) = bs [59] := rfl
                    rw [← e2, sem_snoc, e, bs_app, bs_app, List.append_assoc]
                    rfl
                  have cz : (bs (codeS t1 30)).size ≤ 20 := by rw [bs_size]; exact codeS_len _ _
                  have dd := fun w => colourNums_any t1 0 ct1 (by omega) w
                  have e30 : (30 : Int) + 0 = 30 := rfl
                  rw [e30] at dd
                  clear h1 e2 HL2 e30
                  generalize bs (sem L1) = S at *
                  generalize bs (codeS t1 30) = C at *
                  go_wp2_with fail
                  refine (dd _).mono ?_
                  rintro e w4 ⟨rfl, hb4⟩
                  have hA4 := hA.below hb4 (by omega)
                  have hD4 := hD.below hb4 (by omega)
                  have hbw4 := hb.trans (hb4.mono (by omega))
                  go_wp2_with fail
                  go_meet
                  exact ⟨by rw [HS.out], hA4, hD4, hbw4⟩
                · have q1 : (t1 != g1) = false := by simpa using h1
                  have e2 := HL2.out
                  rw [if_neg h1, List.append_nil] at e2
                  subst e2
                  clear h1 HL2
                  go_wp2_with fail
                  go_meet
                  exact ⟨rfl, hA, hD, hb⟩
              case rest =>
                obtain ⟨rfl, hA6, hD6, hb6⟩ := hcut
                have hl2 : L2.length ≤ 10 := by rw [← HL2.out, List.length_append]; split <;> simp <;> omega
                have hx2 : ∀ x ∈ L2, x.length ≤ 20 := by
                  intro x hx
                  rw [← HL2.out, List.mem_append] at hx
                  rcases hx with hx | hx
                  · exact hx20 x hx
                  · split at hx
                    · rw [List.mem_singleton] at hx; rw [hx]; exact codeS_len _ _
                    · cases hx
                have hsz2 : (bs (sem L2)).size ≤ 210 := by
                  rw [bs_size]
                  have := sem_len _ hx2
                  omega
                clear hA hD hN hb hAl hDl hNl hx20 hll hsz fc tc HL2
                have fc := hA6.cell 1
                have tc := hD6.cell 1
                have hAl := hA6.lt
                have hDl := hD6.lt
                obtain ⟨L3, hL3⟩ : ∃ L3, L2 ++ (if t2 ≠ g2 then [codeS t2 40] else []) = L3 := ⟨_, rfl⟩
                have HL3 := Lib.hid hL3
                rw [hL3] at HSG
                clear hL3
                go_upto_if 72 with fail
                go_cut [7] (fun s7 wx => s7 = .string (bs (sem L3)) ∧ Below w.heap.size w wx)
                case first =>
                  by_cases h1 : t2 ≠ g2
                  · have q1 : (t2 != g2) = true := by simpa using h1
                    have e2 := HL3.out
                    rw [if_pos h1] at e2
                    have HS : Hid (bs (sem L2) ++ { data := #[59] } ++ bs (codeS t2 40) = bs (sem L3)) := by
                      show _ = _
                      have e : ({ data := #[59] } : ByteArray) = bs [59] := rfl
                      rw [← e2, sem_snoc, e, bs_app, bs_app, List.append_assoc]
                      rfl
                    have cz : (bs (codeS t2 40)).size ≤ 20 := by rw [bs_size]; exact codeS_len _ _
                    have dd := fun w => colourNums_any t2 10 ct2 (by omega) w
                    have e30 : (30 : Int) + 10 = 40 := rfl
                    rw [e30] at dd
                    clear h1 e2 HL3 e30
                    generalize bs (sem L2) = S at *
                    generalize bs (codeS t2 40) = C at *
                    go_wp2_with fail
                    refine (dd _).mono ?_
                    rintro e w4 ⟨rfl, hb4⟩
                    have hbw4 := hb6.trans (hb4.mono (by omega))
                    go_wp2_with fail
                    go_meet
                    exact ⟨by rw [HS.out], hbw4⟩
                  · have q1 : (t2 != g2) = false := by simpa using h1
                    have e2 := HL3.out
                    rw [if_neg h1, List.append_nil] at e2
                    subst e2
                    clear h1 HL3
                    go_wp2_with fail
                    go_meet
                    exact ⟨rfl, hb6⟩
                case rest =>
                  obtain ⟨rfl, hb5⟩ := hcut
                  have hl3 : L3.length ≤ 11 := by rw [← HL3.out, List.length_append]; split <;> simp <;> omega
                  have hx3 : ∀ x ∈ L3, x.length ≤ 20 := by
                    intro x hx
                    rw [← HL3.out, List.mem_append] at hx
                    rcases hx with hx | hx
                    · exact hx2 x hx
                    · split at hx
                      · rw [List.mem_singleton] at hx; rw [hx]; exact codeS_len _ _
                      · cases hx
                  have hne : L3 ≠ [] := by rw [← HSG.out]; exact HNE.out
                  have hsj := sem_join L3 hne
                  have hsl := sem_len L3 hx3
                  rw [hsj] at hsl ⊢
                  have HR : Hid (sgrS (orP a1 a2 a3) (orP b1 b2 b3) = [27, 91] ++ Lib.join L3 [59] ++ [109]) := by
                    show _ = _
                    rw [HF.out, HT.out]
                    unfold sgrS
                    rw [if_neg HNQ.out, HSG.out]
                  generalize Lib.join L3 [59] = J at *
                  have hJ : (bs J).size ≤ 240 := by rw [bs_size]; simp only [List.length_cons] at hsl; omega
                  have hex := bs_drop (59 :: J) 1
                  have h1s : 1 ≤ (bs (59 :: J)).size := by rw [bs_size]; simp
                  have HF2 : Hid (({ data := #[27, 91] } : ByteArray) ++ bs J ++ { data := #[109] } = bs (sgrS (orP a1 a2 a3) (orP b1 b2 b3))) := by
                    show _ = _
                    rw [HR.out, ← bs_app, ← bs_app]; rfl
                  have e1 : (59 :: J).drop 1 = J := rfl
                  rw [e1] at hex
                  clear hsl hsj hne hx3 HSG HNE HNQ HF HT HX HY HL3 hx2 e1 fc tc
                  generalize bs (59 :: J) = SJ at *
                  go_wp2_with fail
                  go_ret
                  exact ⟨by rw [← HF2.out]; rfl, hb5⟩
end Go.Proofs.YtdbkccffepfenaaDoor.Sty
