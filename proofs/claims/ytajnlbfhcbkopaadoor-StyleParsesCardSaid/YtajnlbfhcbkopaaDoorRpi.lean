/- The chapter's Print walked. -/
import Derived.Test.YtajnlbfhcbkopaaDoorRpr
namespace Go.Proofs.YtajnlbfhcbkopaaDoor.Sty
open Go.RowKit

theorem words_at (j : Nat) (hj : j < 8) : (strs words)[j]? = some (.string (bs (words.getD j []))) := by
  refine strs_get words j _ ?_
  rw [List.getD_eq_getElem?_getD]
  have h8 : words.length = 8 := rfl
  rw [List.getElem?_eq_getElem (by omega)]
  rfl
theorem word_ne (j : Nat) (hj : j < 8) : words.getD j [] ≠ [] := by
  have : ∀ j, j < 8 → words.getD j [] ≠ [] := by decide
  exact this j hj
theorem on_int (a j : Nat) : ((a : Int) / 2 ^ j % 2 == 1) = onN a j := by
  have e : ((a : Int) / 2 ^ j) = ((a / 2 ^ j : Nat) : Int) := by simp
  rw [e]
  have e2 : ((a / 2 ^ j : Nat) : Int) % 2 = ((a / 2 ^ j % 2 : Nat) : Int) := by simp
  rw [e2]
  unfold onN
  rw [Bool.eq_iff_iff]
  simp only [beq_iff_eq, decide_eq_true_eq]
  omega
theorem pieces_on (a j : Nat) (hj : j < 8) : pieces ((ordered a).take (j + 1)) = if onN a j = true then pieces ((ordered a).take j) ++ 44 :: words.getD j [] else pieces ((ordered a).take j) := by
  have hl := ordered_len a
  rw [List.take_succ_eq_append_getElem (by omega), pieces_snoc, ordered_at]
  by_cases h : onN a j = true
  · rw [if_pos h, if_pos h]; unfold piece; rw [if_neg (word_ne j hj)]
  · rw [if_neg h, if_neg h]; unfold piece; rw [if_pos rfl, List.append_nil]
set_option maxRecDepth 100000 in
set_option maxHeartbeats 1000000 in
theorem printRef_any {B : Nat} (fg bg at_ : Int) (w : World) (ht : Tabs B w) (hB : B ≤ w.heap.size) :
    Calls Tryd.prog 19 #[.agg #[.int .i64 fg, .int .i64 bg, .int .i64 at_]] w fun e w' => e = .returned (.string (bs (printS fg bg at_))) ∧ Below w.heap.size w w' := by
  cases hr : rightS fg bg at_
  · have c1 := fun w => rightRef_any fg bg at_ _ hr w
    have HE : Hid (printS fg bg at_ = []) := by show _ = _; unfold printS; rw [hr]; rfl
    clear hr
    have hA := Blk.new w 31 #[.int .i64 fg, .int .i64 bg, .int .i64 at_]
    go_enter Tryd.func19, Tryd.ntmps19
    go_wp2_with (first
      | (refine wpList_load_row rfl 31 _ rfl w.heap.size rfl _ _ _ _ hA Tryd.underlying31 rfl (by kernel_rfl) ?_)
      | (go_at_call 17; refine (c1 _).mono ?_; rintro e w1 ⟨rfl, hb1⟩))
    go_ret
    exact ⟨by rw [HE.out]; rfl, ((Below.refl _ _).alloc (Nat.le_refl _) _).trans (hb1.mono (by simp))⟩
  · have c1 := fun w => rightRef_any fg bg at_ _ hr w
    have HE : Hid (printS fg bg at_ = headS fg bg ++ pieces (ordered at_.toNat)) := by show _ = _; unfold printS; rw [hr]; rfl
    obtain ⟨hcf, hcb, hat0, hat1⟩ := rightS_parts hr
    obtain ⟨a, rfl⟩ : ∃ a : Nat, at_ = a := ⟨at_.toNat, by omega⟩
    have ha : a < 256 := by omega
    clear hr hat0 hat1
    have hA := Blk.new w 31 #[.int .i64 fg, .int .i64 bg, .int .i64 (a : Int)]
    go_enter Tryd.func19, Tryd.ntmps19
    go_wp2_with (refine wpList_load_row rfl 31 _ rfl w.heap.size rfl _ _ _ _ hA Tryd.underlying31 rfl (by kernel_rfl) ?_)
    refine (c1 _).mono ?_
    rintro e w1 ⟨rfl, hb1⟩
    have hA1 := hA.below hb1 (by simp)
    have hbw1 : Below w.heap.size w w1 := ((Below.refl _ _).alloc (Nat.le_refl _) _).trans (hb1.mono (by simp))
    have hs1 := hA1.lt
    have hB1 : B ≤ w1.heap.size := by omega
    have ht1 := ht.on hB hbw1
    clear hA hb1 c1
    have hn1 : (bs (name fg)).size ≤ 13 := by rw [bs_size]; exact name_len fg
    have hn2 : (bs (name bg)).size ≤ 13 := by rw [bs_size]; exact name_len bg
    obtain ⟨X, hX⟩ : ∃ X, bs (name fg) = X := ⟨_, rfl⟩
    obtain ⟨Y, hY⟩ : ∃ Y, bs (name bg) = Y := ⟨_, rfl⟩
    have HX := Lib.hid hX
    have HY := Lib.hid hY
    have hnm1 := fun w => nameRef_any fg w
    have hnm2 := fun w => nameRef_any bg w
    rw [hX] at hn1 hnm1
    rw [hY] at hn2 hnm2
    clear hX hY
    have s1 := fun w : World => run_string_add_sum (P := Tryd.prog) w { data := #[102, 103, 61] } X (by show 3 + X.size ≤ _; omega)
    have z1 : (({ data := #[102, 103, 61] } : ByteArray) ++ X).size ≤ 16 := by rw [ByteArray.size_append]; show 3 + X.size ≤ _; omega
    have s2 := fun w : World => run_string_add_sum (P := Tryd.prog) w ({ data := #[102, 103, 61] } ++ X) { data := #[44, 98, 103, 61] } (by show _ + 4 ≤ _; omega)
    have z2 : (({ data := #[102, 103, 61] } : ByteArray) ++ X ++ { data := #[44, 98, 103, 61] }).size ≤ 20 := by rw [ByteArray.size_append]; show _ + 4 ≤ _; omega
    have s3 := fun w : World => run_string_add_sum (P := Tryd.prog) w ({ data := #[102, 103, 61] } ++ X ++ { data := #[44, 98, 103, 61] }) Y (by omega)
    have z3 : (({ data := #[102, 103, 61] } : ByteArray) ++ X ++ { data := #[44, 98, 103, 61] } ++ Y).size ≤ 33 := by rw [ByteArray.size_append]; omega
    have s4 := fun w : World => run_string_add_sum (P := Tryd.prog) w ({ data := #[102, 103, 61] } ++ X ++ { data := #[44, 98, 103, 61] } ++ Y) { data := #[44, 110, 111, 110, 101] } (by show _ + 5 ≤ _; omega)
    clear z1 z2 z3
    have hdr : Below w1.heap.size w1 w1.drew := (Below.refl _ _).drew
    have HA1 := Lib.hid hA1
    clear hA1
    go_wp2_with fail
    go_region_held3 (fun W => W.cell? ⟨w.heap.size, 0, none⟩ = some (.int .i64 fg) ∧ W.cell? ⟨w.heap.size, 1, none⟩ = some (.int .i64 bg) ∧ Tabs B W ∧ Below w1.heap.size w1 W) (first | (have hkk := (by assumption : Below w1.heap.size w1 _); exact ⟨(HA1.out.below hkk hs1).cell 0, (HA1.out.below hkk hs1).cell 1, ht1.on hB1 hkk, hkk⟩))
      (first | (go_at_call 13; obtain ⟨k0, k1, k2, k3⟩ := (by assumption : _ ∧ _ ∧ Tabs B _ ∧ Below _ _ _); have k4 := k3.size; (first | (with_reducible refine (hnm1 _).mono ?_) | (with_reducible refine (hnm2 _).mono ?_)); rintro e w2 ⟨rfl, hb2⟩; have hbx := k3.trans (hb2.mono k4)))
    have hA2 := HA1.out.below hbx hs1
    have hbs2 := hbx.size
    have hwd := fun w => words_any w
    have hbw2 := hbw1.trans (hbx.mono hbw1.size)
    clear s1 s2 s3 s4 hnm1 hnm2 HA1 hdr
    go_wp2_with fail
    refine (hwd _).mono ?_
    rintro e w4 ⟨rfl, hW4, hb4⟩
    have hbw4 := hbw2.trans (hb4.mono hbw2.size)
    have hA4 := hA2.below hb4 (by omega)
    have hc4 := hA4.cell 2
    have HH : Hid (({ data := #[102, 103, 61] } : ByteArray) ++ X ++ { data := #[44, 98, 103, 61] } ++ Y ++ { data := #[44, 110, 111, 110, 101] } = bs (headS fg bg)) := by
      show _ = _
      rw [← HX.out, ← HY.out]
      unfold headS
      rw [← bs_app, ← bs_app, ← bs_app, ← bs_app]
      rfl
    have hhl := headS_len fg bg
    rw [HH.out]
    have HPL := Lib.hid (pieces_len a)
    have HON := Lib.hid (pieces_on a)
    have HE2 : Hid (printS fg bg (a : Int) = headS fg bg ++ pieces (ordered a)) := HE.out
    have hol := ordered_len a
    generalize headS fg bg = H at *
    obtain ⟨O, hO⟩ : ∃ O, ordered a = O := ⟨_, rfl⟩
    rw [hO] at HPL HON HE2 hol
    clear hO hA2 hA4
    go_wp2_with fail
    go_loop [4, 6] (fun s i => ∃ j : Nat, j ≤ 8 ∧ i = .int .i64 (j : Int) ∧ s = .string (bs (H ++ pieces (O.take j)))) (fun _ i => (8 - intOf i).toNat)
    case atStart => exact ⟨0, by omega, rfl, by rw [List.take_zero, pieces_nil, List.append_nil]⟩
    case round =>
      obtain ⟨j, hj, rfl, rfl⟩ := hrel
      have hpl := HPL.out j hj
      have hsz : (bs (H ++ pieces (O.take j))).size ≤ 200 := by rw [bs_size, List.length_append]; omega
      by_cases hlt : j < 8
      · have hon := on_int a j
        have hwj := words_at j hlt
        rw [← hW4.cell j] at hwj
        have hwl : (bs (words.getD j [])).size ≤ 13 := by rw [bs_size]; exact words_len j
        have HSN := Lib.hid (HON.out j hlt)
        have hdv : (0 : Int) ≤ (a : Int) / 2 ^ j := by
          have e : ((a : Int) / 2 ^ j) = ((a / 2 ^ j : Nat) : Int) := by simp
          rw [e]; exact Int.natCast_nonneg _
        cases ho : onN a j
        · rw [ho] at hon
          have HS2 : Hid (bs (H ++ pieces (O.take j)) = bs (H ++ pieces (O.take (j + 1)))) := by
            show _ = _
            rw [HSN.out, ho]; rfl
          clear HSN ho
          go_wp2
          go_round
          case rel => exact ⟨j + 1, by omega, by go_num, by rw [HS2.out]⟩
          case measure => simp [intOf]; omega
        · rw [ho] at hon
          have HS2 : Hid (bs (H ++ pieces (O.take j)) ++ ({ data := #[44] } : ByteArray) ++ bs (words.getD j []) = bs (H ++ pieces (O.take (j + 1)))) := by
            show _ = _
            rw [HSN.out, ho]
            have e : ({ data := #[44] } : ByteArray) = bs [44] := rfl
            rw [e, bs_app, bs_app, if_pos rfl, List.append_assoc, List.append_assoc]
            rfl
          clear HSN ho
          generalize bs (words.getD j []) = XB at *
          generalize bs (H ++ pieces (O.take j)) = HB at *
          have s1 := fun w : World => run_string_add_sum (P := Tryd.prog) w HB { data := #[44] } (by show _ + 1 ≤ _; omega)
          have z1 : (HB ++ ({ data := #[44] } : ByteArray)).size ≤ 201 := by rw [ByteArray.size_append]; show _ + 1 ≤ _; omega
          go_wp2
          go_round
          case rel => exact ⟨j + 1, by omega, by go_num, by rw [← HS2.out]⟩
          case measure => simp [intOf]; omega
      · obtain rfl : j = 8 := by omega
        have HF : Hid (bs (H ++ pieces (O.take 8)) = bs (printS fg bg (a : Int))) := by
          show _ = _
          rw [HE2.out, List.take_of_length_le (by omega)]
        generalize bs (H ++ pieces (O.take 8)) = HB at *
        go_wp2
        go_ret
        exact ⟨by rw [← HF.out]; rfl, hbw4⟩
end Go.Proofs.YtajnlbfhcbkopaaDoor.Sty
