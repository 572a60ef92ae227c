/- Package style's Print. -/
import Derived.Test.YtajnlbfhcbkopaaDoorIno
import Derived.Deep.RegionHeld3
namespace Go.Proofs.YtajnlbfhcbkopaaDoor.Sty
open Go.RowKit

theorem hexk6_len (n : Nat) : (hexk 6 n).length = 6 := hexk_length 6 n
theorem name_len (c : Int) : (name c).length ≤ 13 := by
  cases h : isCol c
  · rw [name_no h]; simp
  · rw [isCol_iff] at h
    by_cases h1 : c = -1
    · rw [h1]; decide
    · by_cases h8 : c < 8
      · rw [name_eight (by omega) h8]; have := eight_len c.toNat; omega
      · by_cases h16 : c < 16
        · rw [name_bright (by omega) h16, List.length_append]; have := eight_len (c - 8).toNat
          have : tBright.length = 6 := rfl
          omega
        · by_cases h255 : c ≤ 255
          · rw [name_num (by omega) h255, List.length_append]; have := dec_len c.toNat
            have : tColour.length = 6 := rfl
            omega
          · rw [name_rgb (by omega) (by omega), List.length_cons, hexk_length]; omega
def tBgIs : Tx := [44, 98, 103, 61]
def tNoneIs : Tx := [44, 110, 111, 110, 101]
def piece (x : Tx) : Tx := if x = [] then [] else 44 :: x
def pieces (l : List Tx) : Tx := (l.map piece).flatten
theorem pieces_nil : pieces [] = [] := rfl
theorem pieces_snoc (l : List Tx) (x : Tx) : pieces (l ++ [x]) = pieces l ++ piece x := by simp [pieces]
def headS (fg bg : Int) : Tx := tFg ++ name fg ++ tBgIs ++ name bg ++ tNoneIs
/-- What Print answers. -/
def printS (fg bg at_ : Int) : Tx := if rightS fg bg at_ = true then headS fg bg ++ pieces (ordered at_.toNat) else []
theorem headS_len (fg bg : Int) : (headS fg bg).length ≤ 50 := by
  have h1 := name_len fg
  have h2 := name_len bg
  unfold headS
  simp only [List.length_append]
  have : tFg.length = 3 ∧ tBgIs.length = 4 ∧ tNoneIs.length = 5 := by decide
  omega
theorem ordered_len (a : Nat) : (ordered a).length = 8 := by simp [ordered]
theorem ordered_at (a j : Nat) (hj : j < (ordered a).length) : (ordered a)[j] = if onN a j then words.getD j [] else [] := by
  simp [ordered]
theorem piece_len (a j : Nat) (hj : j < (ordered a).length) : (ordered a)[j].length ≤ 13 ∧ (piece (ordered a)[j]).length ≤ 14 := by
  have h : (ordered a)[j].length ≤ 13 := by
    rw [ordered_at]
    split
    · exact words_len j
    · simp
  refine ⟨h, ?_⟩
  unfold piece
  split
  · simp
  · simpa using h
theorem pieces_len (a : Nat) : ∀ j, j ≤ 8 → (pieces ((ordered a).take j)).length ≤ 14 * j
  | 0, _ => by simp [pieces]
  | j + 1, h => by
    have hl := ordered_len a
    have ih := pieces_len a j (by omega)
    have hp := (piece_len a j (by omega)).2
    rw [List.take_succ_eq_append_getElem (by omega), pieces_snoc, List.length_append]
    omega
theorem idx8_0 (x0 x1 x2 x3 x4 x5 x6 x7 : Tx) (w : World) : (Instr.index 50 (.agg (strs [x0, x1, x2, x3, x4, x5, x6, x7])) (.int .i64 0)).run Tryd.prog w = .ok (.string (bs x0)) w := by kernel_rfl
theorem idx8_1 (x0 x1 x2 x3 x4 x5 x6 x7 : Tx) (w : World) : (Instr.index 50 (.agg (strs [x0, x1, x2, x3, x4, x5, x6, x7])) (.int .i64 1)).run Tryd.prog w = .ok (.string (bs x1)) w := by kernel_rfl
theorem idx8_2 (x0 x1 x2 x3 x4 x5 x6 x7 : Tx) (w : World) : (Instr.index 50 (.agg (strs [x0, x1, x2, x3, x4, x5, x6, x7])) (.int .i64 2)).run Tryd.prog w = .ok (.string (bs x2)) w := by kernel_rfl
theorem idx8_3 (x0 x1 x2 x3 x4 x5 x6 x7 : Tx) (w : World) : (Instr.index 50 (.agg (strs [x0, x1, x2, x3, x4, x5, x6, x7])) (.int .i64 3)).run Tryd.prog w = .ok (.string (bs x3)) w := by kernel_rfl
theorem idx8_4 (x0 x1 x2 x3 x4 x5 x6 x7 : Tx) (w : World) : (Instr.index 50 (.agg (strs [x0, x1, x2, x3, x4, x5, x6, x7])) (.int .i64 4)).run Tryd.prog w = .ok (.string (bs x4)) w := by kernel_rfl
theorem idx8_5 (x0 x1 x2 x3 x4 x5 x6 x7 : Tx) (w : World) : (Instr.index 50 (.agg (strs [x0, x1, x2, x3, x4, x5, x6, x7])) (.int .i64 5)).run Tryd.prog w = .ok (.string (bs x5)) w := by kernel_rfl
theorem idx8_6 (x0 x1 x2 x3 x4 x5 x6 x7 : Tx) (w : World) : (Instr.index 50 (.agg (strs [x0, x1, x2, x3, x4, x5, x6, x7])) (.int .i64 6)).run Tryd.prog w = .ok (.string (bs x6)) w := by kernel_rfl
theorem idx8_7 (x0 x1 x2 x3 x4 x5 x6 x7 : Tx) (w : World) : (Instr.index 50 (.agg (strs [x0, x1, x2, x3, x4, x5, x6, x7])) (.int .i64 7)).run Tryd.prog w = .ok (.string (bs x7)) w := by kernel_rfl
theorem idx8 (L : List Tx) (hL : L.length = 8) (j : Nat) (x : Tx) (hx : L[j]? = some x) (w : World) : (Instr.index 50 (.agg (strs L)) (.int .i64 (j : Int))).run Tryd.prog w = .ok (.string (bs x)) w :=
  match L, hL with
  | [x0, x1, x2, x3, x4, x5, x6, x7], _ =>
    match j, hx with
    | 0, hx => (Option.some.inj (hx : some x0 = some x)) ▸ idx8_0 x0 x1 x2 x3 x4 x5 x6 x7 w
    | 1, hx => (Option.some.inj (hx : some x1 = some x)) ▸ idx8_1 x0 x1 x2 x3 x4 x5 x6 x7 w
    | 2, hx => (Option.some.inj (hx : some x2 = some x)) ▸ idx8_2 x0 x1 x2 x3 x4 x5 x6 x7 w
    | 3, hx => (Option.some.inj (hx : some x3 = some x)) ▸ idx8_3 x0 x1 x2 x3 x4 x5 x6 x7 w
    | 4, hx => (Option.some.inj (hx : some x4 = some x)) ▸ idx8_4 x0 x1 x2 x3 x4 x5 x6 x7 w
    | 5, hx => (Option.some.inj (hx : some x5 = some x)) ▸ idx8_5 x0 x1 x2 x3 x4 x5 x6 x7 w
    | 6, hx => (Option.some.inj (hx : some x6 = some x)) ▸ idx8_6 x0 x1 x2 x3 x4 x5 x6 x7 w
    | 7, hx => (Option.some.inj (hx : some x7 = some x)) ▸ idx8_7 x0 x1 x2 x3 x4 x5 x6 x7 w
    | n + 8, hx => by simp at hx

set_option maxRecDepth 100000 in
set_option maxHeartbeats 1000000 in
theorem print_any {B : Nat} (fg bg at_ : Int) (w : World) (ht : Tabs B w) (hB : B ≤ w.heap.size) :
    Calls Tryd.prog 18 #[.agg #[.int .i64 fg, .int .i64 bg, .int .i64 at_]] w fun e w' => e = .returned (.string (bs (printS fg bg at_))) ∧ Below w.heap.size w w' := by
  cases hr : rightS fg bg at_
  · have c1 := fun w => right_any fg bg at_ _ hr w
    have HE : Hid (printS fg bg at_ = []) := by show _ = _; unfold printS; rw [hr]; rfl
    clear hr
    have hA := Blk.new w 31 #[.int .i64 fg, .int .i64 bg, .int .i64 at_]
    go_enter Tryd.func18, Tryd.ntmps18
    go_wp2_with (first
      | (refine wpList_load_row rfl 31 _ rfl w.heap.size rfl _ _ _ _ hA Tryd.underlying31 rfl (by kernel_rfl) ?_)
      | (go_at_call 16; refine (c1 _).mono ?_; rintro e w1 ⟨rfl, hb1⟩))
    go_ret
    exact ⟨by rw [HE.out]; rfl, ((Below.refl _ _).alloc (Nat.le_refl _) _).trans (hb1.mono (by simp))⟩
  · have c1 := fun w => right_any fg bg at_ _ hr w
    have HE : Hid (printS fg bg at_ = headS fg bg ++ pieces (ordered at_.toNat)) := by show _ = _; unfold printS; rw [hr]; rfl
    have hat : 0 ≤ at_ ∧ at_ ≤ 255 := by
      unfold rightS at hr
      simp only [Bool.and_eq_true, decide_eq_true_eq] at hr
      exact hr.2.2
    obtain ⟨a, rfl⟩ : ∃ a : Nat, at_ = a := ⟨at_.toNat, by omega⟩
    have ha : a < 256 := by omega
    clear hr hat
    have hA := Blk.new w 31 #[.int .i64 fg, .int .i64 bg, .int .i64 (a : Int)]
    go_enter Tryd.func18, Tryd.ntmps18
    go_wp2_with (refine wpList_load_row rfl 31 _ rfl w.heap.size rfl _ _ _ _ hA Tryd.underlying31 rfl (by kernel_rfl) ?_)
    refine (c1 _).mono ?_
    rintro e w1 ⟨rfl, hb1⟩
    have hA1 := hA.below hb1 (by simp)
    have hbw1 : Below w.heap.size w w1 := ((Below.refl _ _).alloc (Nat.le_refl _) _).trans (hb1.mono (by simp))
    have hs1 := hA1.lt
    have hB1 : B ≤ w1.heap.size := by omega
    have ht1 := ht.on hB hbw1
    clear hA hb1 c1
    have hn1 : (bs (name fg)).size ≤ 13 := by rw [bs_size]; exact name_len fg
    have hn2 : (bs (name bg)).size ≤ 13 := by rw [bs_size]; exact name_len bg
    obtain ⟨X, hX⟩ : ∃ X, bs (name fg) = X := ⟨_, rfl⟩
    obtain ⟨Y, hY⟩ : ∃ Y, bs (name bg) = Y := ⟨_, rfl⟩
    have HX := Lib.hid hX
    have HY := Lib.hid hY
    have hnm1 := fun w h1 h2 => name_any (B := B) fg w h1 h2
    have hnm2 := fun w h1 h2 => name_any (B := B) bg w h1 h2
    rw [hX] at hn1 hnm1
    rw [hY] at hn2 hnm2
    clear hX hY
    have s1 := fun w : World => run_string_add_sum (P := Tryd.prog) w { data := #[102, 103, 61] } X (by show 3 + X.size ≤ _; omega)
    have z1 : (({ data := #[102, 103, 61] } : ByteArray) ++ X).size ≤ 16 := by rw [ByteArray.size_append]; show 3 + X.size ≤ _; omega
    have s2 := fun w : World => run_string_add_sum (P := Tryd.prog) w ({ data := #[102, 103, 61] } ++ X) { data := #[44, 98, 103, 61] } (by show _ + 4 ≤ _; omega)
    have z2 : (({ data := #[102, 103, 61] } : ByteArray) ++ X ++ { data := #[44, 98, 103, 61] }).size ≤ 20 := by rw [ByteArray.size_append]; show _ + 4 ≤ _; omega
    have s3 := fun w : World => run_string_add_sum (P := Tryd.prog) w ({ data := #[102, 103, 61] } ++ X ++ { data := #[44, 98, 103, 61] }) Y (by omega)
    have z3 : (({ data := #[102, 103, 61] } : ByteArray) ++ X ++ { data := #[44, 98, 103, 61] } ++ Y).size ≤ 33 := by rw [ByteArray.size_append]; omega
    have s4 := fun w : World => run_string_add_sum (P := Tryd.prog) w ({ data := #[102, 103, 61] } ++ X ++ { data := #[44, 98, 103, 61] } ++ Y) { data := #[44, 110, 111, 110, 101] } (by show _ + 5 ≤ _; omega)
    clear z1 z2 z3
    have hdr : Below w1.heap.size w1 w1.drew := (Below.refl _ _).drew
    have HA1 := Lib.hid hA1
    clear hA1
    go_wp2_with fail
    go_region_held3 (fun W => W.cell? ⟨w.heap.size, 0, none⟩ = some (.int .i64 fg) ∧ W.cell? ⟨w.heap.size, 1, none⟩ = some (.int .i64 bg) ∧ Tabs B W ∧ Below w1.heap.size w1 W) (first | (have hkk := (by assumption : Below w1.heap.size w1 _); exact ⟨(HA1.out.below hkk hs1).cell 0, (HA1.out.below hkk hs1).cell 1, ht1.on hB1 hkk, hkk⟩))
      (first | (go_at_call 12; obtain ⟨k0, k1, k2, k3⟩ := (by assumption : _ ∧ _ ∧ Tabs B _ ∧ Below _ _ _); have k4 := k3.size; (first | (with_reducible refine (hnm1 _ k2 (by omega)).mono ?_) | (with_reducible refine (hnm2 _ k2 (by omega)).mono ?_)); rintro e w2 ⟨rfl, hb2⟩; have hbx := k3.trans (hb2.mono k4)))
    have hA2 := HA1.out.below hbx hs1
    have hc2 := hA2.cell 2
    have ht2 := ht1.on hB1 hbx
    have hbs2 := hbx.size
    have hio := inOrder_any a ha w2 ht2 (by omega)
    have hbw2 := hbw1.trans (hbx.mono hbw1.size)
    clear s1 s2 s3 s4 hnm1 hnm2 hA2 HA1 hdr
    go_wp2_with fail
    refine hio.mono ?_
    rintro e w4 ⟨rfl, hb4⟩
    have hbw4 := hbw2.trans (hb4.mono hbw2.size)
    have HH : Hid (({ data := #[102, 103, 61] } : ByteArray) ++ X ++ { data := #[44, 98, 103, 61] } ++ Y ++ { data := #[44, 110, 111, 110, 101] } = bs (headS fg bg)) := by
      show _ = _
      rw [← HX.out, ← HY.out]
      unfold headS
      rw [← bs_app, ← bs_app, ← bs_app, ← bs_app]
      rfl
    have hhl := headS_len fg bg
    rw [HH.out]
    have hol := ordered_len a
    have HPL := Lib.hid (pieces_len a)
    have HPC := Lib.hid (piece_len a)
    have HE2 : Hid (printS fg bg (a : Int) = headS fg bg ++ pieces (ordered a)) := HE.out
    generalize headS fg bg = H at *
    generalize ordered a = O at *
    have hid8 := idx8 O hol
    go_wp2_with fail
    go_loop [3, 22] (fun s i => ∃ j : Nat, j ≤ 8 ∧ i = .int .i64 (j : Int) ∧ s = .string (bs (H ++ pieces (O.take j)))) (fun _ i => (8 - intOf i).toNat)
    case atStart => exact ⟨0, by omega, rfl, by rw [List.take_zero, pieces_nil, List.append_nil]⟩
    case round =>
      obtain ⟨j, hj, rfl, rfl⟩ := hrel
      have hpl := HPL.out j hj
      have hsz : (bs (H ++ pieces (O.take j))).size ≤ 200 := by rw [bs_size, List.length_append]; omega
      by_cases hlt : j < 8
      · have hix := hid8 j _ (List.getElem?_eq_getElem (by omega))
        have hxl := (HPC.out j (by omega)).1
        have HSN : Hid (pieces (O.take (j + 1)) = pieces (O.take j) ++ piece O[j]) := by
          show _ = _
          rw [List.take_succ_eq_append_getElem (by omega), pieces_snoc]
        generalize O[j] = x at *
        generalize pieces (O.take j) = PJ at *
        cases x with
        | nil =>
          have hT := bs_tl []
          have HS2 : Hid (bs (H ++ PJ) = bs (H ++ pieces (O.take (j + 1)))) := by
            show _ = _
            rw [HSN.out]; unfold piece; rw [if_pos rfl, List.append_nil]
          clear HSN hid8
          go_wp2
          go_round
          case rel => exact ⟨j + 1, by omega, by go_num, by rw [HS2.out]⟩
          case measure => simp [intOf]; omega
        | cons c x =>
          have hT := bs_tl (c :: x)
          have hxs : (bs (c :: x)).size ≤ 13 := by rw [bs_size]; exact hxl
          have hq1 := bs_app [44] (c :: x)
          have HS2 : Hid (bs (H ++ PJ) ++ (({ data := #[44] } : ByteArray) ++ bs (c :: x)) = bs (H ++ pieces (O.take (j + 1)))) := by
            show _ = _
            rw [HSN.out]; unfold piece; rw [if_neg (by simp)]
            have e : ({ data := #[44] } : ByteArray) = bs [44] := rfl
            rw [e, bs_app, bs_app, List.append_assoc]
            rfl
          clear HSN hid8 hq1
          generalize bs (c :: x) = XB at *
          generalize bs (H ++ PJ) = HB at *
          have s1 := fun w : World => run_string_add_sum (P := Tryd.prog) w { data := #[44] } XB (by show 1 + XB.size ≤ _; omega)
          have z1 : (({ data := #[44] } : ByteArray) ++ XB).size ≤ 14 := by rw [ByteArray.size_append]; show 1 + XB.size ≤ _; omega
          go_wp2
          go_round
          case rel => exact ⟨j + 1, by omega, by go_num, by rw [← HS2.out]⟩
          case measure => simp [intOf]; omega
      · obtain rfl : j = 8 := by omega
        have HF : Hid (bs (H ++ pieces (O.take 8)) = bs (printS fg bg (a : Int))) := by
          show _ = _
          rw [HE2.out, List.take_of_length_le (by omega)]
        clear hid8
        generalize bs (H ++ pieces (O.take 8)) = HB at *
        go_wp2
        go_ret
        exact ⟨by rw [← HF.out]; rfl, hbw4⟩
end Go.Proofs.YtajnlbfhcbkopaaDoor.Sty
