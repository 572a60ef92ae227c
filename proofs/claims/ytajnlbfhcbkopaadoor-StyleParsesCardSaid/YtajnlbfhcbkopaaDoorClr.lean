/- Package style's Colour: for every text. -/
import Derived.Test.YtajnlbfhcbkopaaDoorNum
namespace Go.Proofs.YtajnlbfhcbkopaaDoor.Sty
open Go.RowKit

theorem cutPrefix_any (q p : Tx) (w : World) :
    Calls Tryd.prog 28 #[.string (bs q), .string (bs p)] w fun e w' => e = .returned (.tuple #[.string (bs (Lib.trimPrefix q p)), .bool (Lib.hasPrefix q p)]) ∧ w = w' :=
  (Tryd.strings_CutPrefix (bs q) (bs p) w).mono fun e w' ⟨he, hw⟩ => by
    rw [bs_list, bs_list] at he
    exact ⟨he, hw.symm⟩
theorem hasPrefix_yes {q p : Tx} (h : Lib.hasPrefix q p = true) : q = p ++ Lib.trimPrefix q p := by
  unfold Lib.trimPrefix
  rw [if_pos h]
  unfold Lib.hasPrefix at h
  obtain ⟨d, hd⟩ := List.isPrefixOf_iff_prefix.1 h
  rw [← hd, List.drop_left]
theorem hasPrefix_no {q p : Tx} (h : Lib.hasPrefix q p = false) (d : Tx) : q ≠ p ++ d := by
  intro e
  unfold Lib.hasPrefix at h
  have : p.isPrefixOf q = true := List.isPrefixOf_iff_prefix.2 ⟨d, e.symm⟩
  rw [this] at h
  cases h
theorem trim_len (q p : Tx) : (Lib.trimPrefix q p).length ≤ q.length := by
  unfold Lib.trimPrefix; split <;> simp
theorem low_small (l : Tx) : ∀ b ∈ low l, ¬ (65 ≤ b.toNat ∧ b.toNat ≤ 90) := by
  intro b hb
  obtain ⟨c, _, rfl⟩ := List.mem_map.1 hb
  by_cases h : 65 ≤ c.toNat ∧ c.toNat ≤ 90
  · have := lw_yes h.1 h.2
    omega
  · rw [lw_no h]; exact h
theorem low_length (l : Tx) : (low l).length = l.length := by simp [low]
theorem colourS_colour {d : Tx} {r : Option Int} (h : NumIs d r) : colourS (tColour ++ d) = r := by
  rcases h with ⟨n, hn, hd, rfl⟩ | ⟨hno, rfl⟩
  · exact colourS_some (names_colour hn hd)
  · exact colourS_none (not_colour hno)
theorem colourS_color {d : Tx} {r : Option Int} (h : NumIs d r) : colourS (tColor ++ d) = r := by
  rcases h with ⟨n, hn, hd, rfl⟩ | ⟨hno, rfl⟩
  · exact colourS_some (names_color hn hd)
  · exact colourS_none (not_color hno)
theorem cut_colour (q : Tx) (b : Bool) (hb : Lib.hasPrefix q tColour = b) (w : World) :
    Calls Tryd.prog 28 #[.string (bs q), .string { data := #[99, 111, 108, 111, 117, 114] }] w fun e w' => e = .returned (.tuple #[.string (bs (Lib.trimPrefix q tColour)), .bool b]) ∧ w = w' := by
  subst hb; exact cutPrefix_any q tColour w
theorem cut_color (q : Tx) (b : Bool) (hb : Lib.hasPrefix q tColor = b) (w : World) :
    Calls Tryd.prog 28 #[.string (bs q), .string { data := #[99, 111, 108, 111, 114] }] w fun e w' => e = .returned (.tuple #[.string (bs (Lib.trimPrefix q tColor)), .bool b]) ∧ w = w' := by
  subst hb; exact cutPrefix_any q tColor w
theorem cut_hash (q : Tx) (b : Bool) (hb : Lib.hasPrefix q [35] = b) (w : World) :
    Calls Tryd.prog 28 #[.string (bs q), .string { data := #[35] }] w fun e w' => e = .returned (.tuple #[.string (bs (Lib.trimPrefix q [35])), .bool b]) ∧ w = w' := by
  subst hb; exact cutPrefix_any q [35] w

set_option maxRecDepth 100000 in
set_option maxHeartbeats 1000000 in
theorem colour_any {B : Nat} (s : Tx) (w : World) (ht : Tabs B w) (hB : B ≤ w.heap.size) (hs : s.length ≤ 140737488351232) :
    Calls Tryd.prog 10 #[.string (bs s)] w fun e w' => e = .returned (colVal (colourS (low s))) ∧ Below w.heap.size w w' := by
  have hlo := fun w => lower_any s w (by omega)
  have hsm := low_small s
  have hll := low_length s
  generalize low s = q at *
  rw [← hll] at hs
  clear hll
  go_enter Tryd.func10, Tryd.ntmps10
  go_wp2_with fail
  refine (hlo w).mono ?_
  rintro e w1 ⟨rfl, hb1⟩
  clear hlo
  have ht1 := ht.on hB hb1
  have hB1 := Nat.le_trans hB hb1.size
  have hTq := bs_tl q
  go_wp2_with fail
  go_loopw [4] (fun c wr => ∃ k : Nat, k ≤ 17 ∧ c = .int .i64 ((k : Int) - 1) ∧ Hid (∀ j : Nat, j < k → q ≠ name ((j : Int) - 1)) ∧ Below w.heap.size w wr ∧ Tabs B wr) (fun c _ => (16 - intOf c).toNat)
  case atStart => exact ⟨0, by omega, rfl, fun j hj => absurd hj (by omega), hb1, ht1⟩
  case round =>
    obtain ⟨k, hk, rfl, HN, hb, htr⟩ := hrel
    have hBr := Nat.le_trans hB hb.size
    by_cases hlt : k < 17
    · have hnm := name_any ((k : Int) - 1) wr htr hBr
      have hTn := bs_tl (name ((k : Int) - 1))
      by_cases he : q = name ((k : Int) - 1)
      · have HE : Hid (colourS q = some ((k : Int) - 1)) := by
          show _ = _
          rw [he]
          exact colourS_some (names_name ((isCol_iff _).2 (by omega)))
        rw [← he] at hnm hTn
        clear he
        go_wp2_with (go_at_call 12; refine hnm.mono ?_; rintro e w2 ⟨rfl, hb2⟩)
        go_ret2
        exact ⟨by rw [HE.out]; rfl, hb.trans (hb2.mono hb.size)⟩
      · have HN2 : Hid (∀ j : Nat, j < k + 1 → q ≠ name ((j : Int) - 1)) := by
          intro j hj
          by_cases hjk : j < k
          · exact HN.out j hjk
          · obtain rfl : j = k := by omega
            exact he
        clear HN
        generalize name ((k : Int) - 1) = X at *
        have hqX : (q == X) = false := by simpa using he
        go_wp2_with (go_at_call 12; refine hnm.mono ?_; rintro e w2 ⟨rfl, hb2⟩)
        go_roundw
        case rel => exact ⟨k + 1, by omega, by go_num, HN2, hb.trans (hb2.mono hb.size), htr.on hBr hb2⟩
        case measure => simp [intOf]; omega
    · obtain rfl : k = 17 := by omega
      have hb2 : Below w.heap.size w (wr.alloc (.cells #[.string { data := #[99, 111, 108, 111, 117, 114] }, .string { data := #[99, 111, 108, 111, 114] }] 9)) := hb.alloc hb.size _
      have ht2 := htr.on hBr ((Below.refl _ _).alloc (Nat.le_refl _) (.cells #[.string { data := #[99, 111, 108, 111, 117, 114] }, .string { data := #[99, 111, 108, 111, 114] }] 9))
      have hB2 : B ≤ (wr.alloc (.cells #[.string { data := #[99, 111, 108, 111, 117, 114] }, .string { data := #[99, 111, 108, 111, 114] }] 9)).heap.size := by simp; omega
      have hc0 := (Blk.new wr 9 #[.string { data := #[99, 111, 108, 111, 117, 114] }, .string { data := #[99, 111, 108, 111, 114] }]).cell 0
      have hc1 := (Blk.new wr 9 #[.string { data := #[99, 111, 108, 111, 117, 114] }, .string { data := #[99, 111, 108, 111, 114] }]).cell 1
      have hl1 := trim_len q tColour
      have hl2 := trim_len q tColor
      have hl3 := trim_len q [35]
      have hnum1 := numbered_any (Lib.trimPrefix q tColour) _ ht2 hB2 (by omega)
      have hnum2 := numbered_any (Lib.trimPrefix q tColor) _ ht2 hB2 (by omega)
      go_wp2_with fail
      generalize wr.alloc (.cells #[.string { data := #[99, 111, 108, 111, 117, 114] }, .string { data := #[99, 111, 108, 111, 114] }] 9) = W at *
      cases hp1 : Lib.hasPrefix q tColour
      · have k1 := fun w => cut_colour q _ hp1 w
        cases hp2 : Lib.hasPrefix q tColor
        · have k2 := fun w => cut_color q _ hp2 w
          cases hp3 : Lib.hasPrefix q [35]
          · have k3 := fun w => cut_hash q _ hp3 w
            have HE : Hid (colourS q = none) := colourS_none (not_any (fun j hj => HN.out j (by omega)) (hasPrefix_no hp1) (hasPrefix_no hp2) (hasPrefix_no hp3))
            clear HN hp1 hp2 hp3 hnum1 hnum2
            generalize Lib.trimPrefix q tColour = D1 at *
            generalize Lib.trimPrefix q tColor = D2 at *
            generalize Lib.trimPrefix q [35] = D3 at *
            refine wp_loop_rounds 3 ?_
            rw [rounds_succ]
            go_wp2_with (go_at_call 28; refine (k1 _).mono ?_; rintro e w2 ⟨rfl, rfl⟩)
            rw [rounds_succ]
            go_wp2_with (go_at_call 28; refine (k2 _).mono ?_; rintro e w2 ⟨rfl, rfl⟩)
            rw [rounds_succ]
            go_wp2_with (go_at_call 28; refine (k3 _).mono ?_; rintro e w2 ⟨rfl, rfl⟩)
            go_ret2
            exact ⟨by rw [HE.out]; rfl, hb2⟩
          · have k3 := fun w => cut_hash q _ hp3 w
            have hq := hasPrefix_yes hp3
            have hmx := mixed_any (Lib.trimPrefix q [35]) (fun b hb => hsm b (by rw [hq]; exact List.mem_append_right _ hb)) W ht2 hB2 (by omega)
            have HE : Hid (colourS (35 :: Lib.trimPrefix q [35]) = colourS q) := by
              show _ = _
              conv => rhs; rw [hq]
              rfl
            rw [HE.out] at hmx
            clear HN hp1 hp2 hp3 hnum1 hnum2 hq HE
            generalize Lib.trimPrefix q tColour = D1 at *
            generalize Lib.trimPrefix q tColor = D2 at *
            generalize Lib.trimPrefix q [35] = D3 at *
            refine wp_loop_rounds 3 ?_
            rw [rounds_succ]
            go_wp2_with (go_at_call 28; refine (k1 _).mono ?_; rintro e w2 ⟨rfl, rfl⟩)
            rw [rounds_succ]
            go_wp2_with (go_at_call 28; refine (k2 _).mono ?_; rintro e w2 ⟨rfl, rfl⟩)
            rw [rounds_succ]
            go_wp2_with (go_at_call 28; refine (k3 _).mono ?_; rintro e w2 ⟨rfl, rfl⟩)
            refine hmx.mono ?_
            rintro e w2 ⟨rfl, hb3⟩
            have hbb := hb2.trans (hb3.mono hb2.size)
            obtain ⟨r, hr⟩ : ∃ r, colourS q = r := ⟨_, rfl⟩
            rw [hr]
            have HR := Lib.hid hr
            clear hr
            cases r with
            | none =>
              unfold colVal
              go_wp2
              go_ret2
              exact ⟨by rw [HR.out]; rfl, hbb⟩
            | some c =>
              unfold colVal
              go_wp2
              go_ret2
              exact ⟨by rw [HR.out]; rfl, hbb⟩
        · have k2 := fun w => cut_color q _ hp2 w
          have HE : Hid (∀ r, NumIs (Lib.trimPrefix q tColor) r → colourS q = r) := fun r h => by
            have := colourS_color h
            rwa [← hasPrefix_yes hp2] at this
          clear HN hp1 hp2 hnum1
          generalize Lib.trimPrefix q tColour = D1 at *
          generalize Lib.trimPrefix q tColor = D2 at *
          refine wp_loop_rounds 2 ?_
          rw [rounds_succ]
          go_wp2_with (go_at_call 28; refine (k1 _).mono ?_; rintro e w2 ⟨rfl, rfl⟩)
          rw [rounds_succ]
          go_wp2_with (go_at_call 28; refine (k2 _).mono ?_; rintro e w2 ⟨rfl, rfl⟩)
          refine hnum2.mono ?_
          rintro e w2 ⟨⟨r, hr, rfl⟩, hb3⟩
          have hbb := hb2.trans (hb3.mono hb2.size)
          have HR := Lib.hid (HE.out r hr)
          clear hr HE
          cases r with
          | none =>
            unfold colVal
            go_wp2
            go_ret2
            exact ⟨by rw [HR.out]; rfl, hbb⟩
          | some c =>
            unfold colVal
            go_wp2
            go_ret2
            exact ⟨by rw [HR.out]; rfl, hbb⟩
      · have k1 := fun w => cut_colour q _ hp1 w
        have HE : Hid (∀ r, NumIs (Lib.trimPrefix q tColour) r → colourS q = r) := fun r h => by
          have := colourS_colour h
          rwa [← hasPrefix_yes hp1] at this
        clear HN hp1 hnum2
        generalize Lib.trimPrefix q tColour = D1 at *
        refine wp_loop_rounds 1 ?_
        rw [rounds_succ]
        go_wp2_with (go_at_call 28; refine (k1 _).mono ?_; rintro e w2 ⟨rfl, rfl⟩)
        refine hnum1.mono ?_
        rintro e w2 ⟨⟨r, hr, rfl⟩, hb3⟩
        have hbb := hb2.trans (hb3.mono hb2.size)
        have HR := Lib.hid (HE.out r hr)
        clear hr HE
        cases r with
        | none =>
          unfold colVal
          go_wp2
          go_ret2
          exact ⟨by rw [HR.out]; rfl, hbb⟩
        | some c =>
          unfold colVal
          go_wp2
          go_ret2
          exact ⟨by rw [HR.out]; rfl, hbb⟩
end Go.Proofs.YtajnlbfhcbkopaaDoor.Sty
