/- Package style's turn: one item over a look. -/
import Derived.Test.YtajnlbfhcbkopaaDoorSpd
import Derived.Lib.IndexBytes
namespace Go.Proofs.YtajnlbfhcbkopaaDoor.Sty
open Go.RowKit

/-- A result that lies in memory, and one that doesn't. -/
theorem results_cell_tmp {P : Program} {fn : Func} {p q : Tmp} {ty : TypeId} (h : fn.results = #[.cell p ty, .tmp q]) (tmps : Array Value) (w : World) (g : Nat) (t : TypeId) (cs : Array Value) (fr : Nat × Nat) (d : TypeDesc)
    (hp : tmps.getD p undef = .pointer (some ⟨g, 0, none⟩)) (hg : w.heap[g]? = some (.cells cs t fr))
    (hu : P.underlying ty = some d) (hd : (match d with | .struct _ | .array _ _ => true | _ => false) = true) (hi : (P.info? ty).map (·.size) = some cs.size) :
    (results fn tmps).run P w = .ok (.tuple #[.agg cs, tmps.getD q undef]) w := by
  have hp' : tmps[p]?.getD undef = .pointer (some ⟨g, 0, none⟩) := by simpa using hp
  simp [results, h, hp', asAddr, run_loadVar_row w g t ty cs fr d hg hu hd hi]
theorem hasPrefix_any (q p : Tx) (b : Bool) (hb : Lib.hasPrefix q p = b) (w : World) :
    Calls Tryd.prog 57 #[.string (bs q), .string (bs p)] w fun e w' => e = .returned (.bool b) ∧ w = w' :=
  (Tryd.strings_HasPrefix (bs q) (bs p) w).mono fun e w' ⟨he, hw⟩ => by
    rw [bs_list, bs_list, hb] at he
    exact ⟨he, hw.symm⟩
theorem has_fg (q : Tx) (b : Bool) (hb : Lib.hasPrefix q tFg = b) (w : World) :
    Calls Tryd.prog 57 #[.string (bs q), .string { data := #[102, 103, 61] }] w fun e w' => e = .returned (.bool b) ∧ w = w' := hasPrefix_any q tFg b hb w
theorem has_bg (q : Tx) (b : Bool) (hb : Lib.hasPrefix q tBg = b) (w : World) :
    Calls Tryd.prog 57 #[.string (bs q), .string { data := #[98, 103, 61] }] w fun e w' => e = .returned (.bool b) ∧ w = w' := hasPrefix_any q tBg b hb w
theorem has_no (q : Tx) (b : Bool) (hb : Lib.hasPrefix q tNo = b) (w : World) :
    Calls Tryd.prog 57 #[.string (bs q), .string { data := #[110, 111] }] w fun e w' => e = .returned (.bool b) ∧ w = w' := hasPrefix_any q tNo b hb w
theorem hasPrefix_len {q p : Tx} (h : Lib.hasPrefix q p = true) : p.length ≤ q.length := by
  have := hasPrefix_yes h
  have h2 := congrArg List.length this
  rw [List.length_append] at h2
  omega
theorem bs_drop (l : Tx) (n : Nat) : (bs l).extract n (bs l).size = bs (l.drop n) := by
  rw [bs_of ((bs l).extract n (bs l).size), Lib.extract_to_end, bs_list]

set_option maxRecDepth 100000 in
set_option maxHeartbeats 1000000 in
theorem turn_any {B : Nat} (fg bg at_ : Int) (q : Tx) (hq : low q = q) (g : Nat) (w : World) (ht : Tabs B w) (hB : B ≤ w.heap.size) (hm : AttrMap w g) (hs : q.length ≤ 140737488351232) :
    Calls Tryd.prog 42 #[.agg #[.int .i64 fg, .int .i64 bg, .int .i64 at_], .string (bs q), .map (some g)] w fun e w' => Turned (turnS (fg, bg, at_) q) e ∧ Below w.heap.size w w' := by
  have hgl := hm.lt
  have hqs : (bs q).size ≤ 140737488351232 := by rw [bs_size]; exact hs
  go_enter Tryd.func42, Tryd.ntmps42
  go_wp2_with fail
  have hA := (Blk.new w 31 #[.int .i64 fg, .int .i64 bg, .int .i64 at_]).alloc (.cells #[.int .i64 0, .int .i64 0, .int .i64 0] 31)
  have hZ := Blk.new (w.alloc (.cells #[.int .i64 fg, .int .i64 bg, .int .i64 at_] 31)) 31 #[.int .i64 0, .int .i64 0, .int .i64 0]
  rw [size_alloc] at hZ
  have hbel : Below w.heap.size w ((w.alloc (.cells #[.int .i64 fg, .int .i64 bg, .int .i64 at_] 31)).alloc (.cells #[.int .i64 0, .int .i64 0, .int .i64 0] 31)) := ((Below.refl _ _).alloc (Nat.le_refl _) _).alloc (by simp) _
  have hsz0 : ((w.alloc (.cells #[.int .i64 fg, .int .i64 bg, .int .i64 at_] 31)).alloc (.cells #[.int .i64 0, .int .i64 0, .int .i64 0] 31)).heap.size = w.heap.size + 2 := by simp
  generalize (w.alloc (.cells #[.int .i64 fg, .int .i64 bg, .int .i64 at_] 31)).alloc (.cells #[.int .i64 0, .int .i64 0, .int .i64 0] 31) = W at *
  have htW := ht.on hB (hbel.mono (Nat.le_refl _))
  have hBW : B ≤ W.heap.size := by omega
  have hmW := hm.below hbel hgl
  have hTq := bs_tl q
  cases hp1 : Lib.hasPrefix q tFg
  · have k1 := fun w => has_fg q _ hp1 w
    cases hp2 : Lib.hasPrefix q tBg
    · have k2 := fun w => has_bg q _ hp2 w
      by_cases hn : q = tNone
      · have HR : Hid (turnS (fg, bg, at_) q = some (fg, bg, 0)) := by
          show turnS _ _ = _
          unfold turnS
          rw [if_neg (by rw [hp1]; decide), if_neg (by rw [hp2]; decide), if_pos hn]
        have hqn : (q == [110, 111, 110, 101]) = true := by rw [hn]; rfl
        have k3 := k1
        clear hn hp1 hp2
        have hc0 := hA.cell 2
        have hf0 := hA.frozen 2
        have hLD := hA.set_ 2 (.int .i64 0)
        have hST := hZ.far (p := ⟨w.heap.size, 2, none⟩) (by simp) (.int .i64 0)
        have hbw := hbel.setCell (p := ⟨w.heap.size, 2, none⟩) (Nat.le_refl _) (.int .i64 0)
        go_wp2_with (first
                | (refine wpList_load_row rfl 31 _ rfl w.heap.size rfl _ _ _ _ hLD Tryd.underlying31 rfl (by kernel_rfl) ?_)
                | (refine wpList_store_blk rfl 31 (.tmp 6) (.tmp 62) rfl (w.heap.size + 1) #[.int .i64 fg, .int .i64 bg, .int .i64 0] rfl rfl _ _ hST (by kernel_rfl) rfl (by kernel_rfl) ?_; intro w9 hblk9 hb9)
                | (go_at_call 57; (first | (with_reducible refine (k1 _).mono ?_) | (with_reducible refine (k2 _).mono ?_) | (with_reducible refine (k3 _).mono ?_)); rintro e w0 ⟨rfl, rfl⟩))
        exact bodyPost_ret (v := .tuple #[.agg #[.int .i64 fg, .int .i64 bg, .int .i64 0], .int .i64 0]) (results_cell_tmp (p := 6) (q := 7) (by kernel_rfl) _ w9 _ _ _ _ _ rfl hblk9 Tryd.underlying31 rfl (by kernel_rfl)) rfl ⟨by rw [HR.out]; rfl, (hbw).trans (hb9 _ (by omega))⟩
      · have hqn : (q == [110, 111, 110, 101]) = false := by simpa using (fun e => hn e : ¬ q = [110, 111, 110, 101])
        cases hp3 : Lib.hasPrefix q tNo
        · have k3 := fun w => has_no q _ hp3 w
          rcases wordOf_cases q with ⟨i, hi, hl, hw⟩ | ⟨hl, hw⟩
          · have HR : Hid (turnS (fg, bg, at_) q = some (fg, bg, bits .or .i64 at_ ((2 ^ i : Nat) : Int))) := by
              show turnS _ _ = _
              unfold turnS
              rw [if_neg (by rw [hp1]; decide), if_neg (by rw [hp2]; decide), if_neg hn, if_neg (by rw [hp3]; decide), hw]
              rfl
            have hlk := look_word hmW i hi q hl
            clear hn hp1 hp2 hp3 hl hw
            generalize ((2 ^ i : Nat) : Int) = bit at *
            have hc0 := hA.cell 2
            have hf0 := hA.frozen 2
            have hLD := hA.set_ 2 (.int .i64 (bits .or .i64 at_ bit))
            have hST := hZ.far (p := ⟨w.heap.size, 2, none⟩) (by simp) (.int .i64 (bits .or .i64 at_ bit))
            have hbw := hbel.setCell (p := ⟨w.heap.size, 2, none⟩) (Nat.le_refl _) (.int .i64 (bits .or .i64 at_ bit))
            go_wp2_with (first
                    | (refine wpList_load_row rfl 31 _ rfl w.heap.size rfl _ _ _ _ hLD Tryd.underlying31 rfl (by kernel_rfl) ?_)
                    | (refine wpList_store_blk rfl 31 (.tmp 6) (.tmp 62) rfl (w.heap.size + 1) #[.int .i64 fg, .int .i64 bg, .int .i64 (bits .or .i64 at_ bit)] rfl rfl _ _ hST (by kernel_rfl) rfl (by kernel_rfl) ?_; intro w9 hblk9 hb9)
                    | (go_at_call 57; (first | (with_reducible refine (k1 _).mono ?_) | (with_reducible refine (k2 _).mono ?_) | (with_reducible refine (k3 _).mono ?_)); rintro e w0 ⟨rfl, rfl⟩))
            exact bodyPost_ret (v := .tuple #[.agg #[.int .i64 fg, .int .i64 bg, .int .i64 (bits .or .i64 at_ bit)], .int .i64 0]) (results_cell_tmp (p := 6) (q := 7) (by kernel_rfl) _ w9 _ _ _ _ _ rfl hblk9 Tryd.underlying31 rfl (by kernel_rfl)) rfl ⟨by rw [HR.out]; rfl, (hbw).trans (hb9 _ (by omega))⟩
          · have HR : Hid (turnS (fg, bg, at_) q = none) := by
              show turnS _ _ = _
              unfold turnS
              rw [if_neg (by rw [hp1]; decide), if_neg (by rw [hp2]; decide), if_neg hn, if_neg (by rw [hp3]; decide), hw]
              rfl
            have hlk := look_none hmW q (by omega) hl
            clear hn hp1 hp2 hp3 hl hw
            have hLD := hA
            have hST := hZ
            go_wp2_with (first
                    | (refine wpList_load_row rfl 31 _ rfl w.heap.size rfl _ _ _ _ hLD Tryd.underlying31 rfl (by kernel_rfl) ?_)
                    | (refine wpList_store_blk rfl 31 (.tmp 6) (.tmp 49) rfl (w.heap.size + 1) #[.int .i64 0, .int .i64 0, .int .i64 0] rfl rfl _ _ hST (by kernel_rfl) rfl (by kernel_rfl) ?_; intro w9 hblk9 hb9)
                    | (go_at_call 57; (first | (with_reducible refine (k1 _).mono ?_) | (with_reducible refine (k2 _).mono ?_) | (with_reducible refine (k3 _).mono ?_)); rintro e w0 ⟨rfl, rfl⟩))
            exact bodyPost_ret (v := .tuple #[.agg #[.int .i64 0, .int .i64 0, .int .i64 0], .int .i64 4]) (results_cell_tmp (p := 6) (q := 7) (by kernel_rfl) _ w9 _ _ _ _ _ rfl hblk9 Tryd.underlying31 rfl (by kernel_rfl)) rfl ⟨by rw [HR.out]; exact ⟨_, _, _, rfl⟩, (hbel).trans (hb9 _ (by omega))⟩
        · have k3 := fun w => has_no q _ hp3 w
          have hl2 := hasPrefix_len hp3
          have hq2 : 2 ≤ (bs q).size := by rw [bs_size]; exact hl2
          have hex := bs_drop q 2
          have HNEG : Hid (∀ i : Nat, bits .andNot .i64 (bits .or .i64 at_ ((2 ^ i : Nat) : Int)) ((2 ^ i : Nat) : Int) = bits .andNot .i64 at_ ((2 ^ i : Nat) : Int)) := fun i => strike_set _ _
          rcases wordOf_cases (q.drop 2) with ⟨i, hi, hl, hw⟩ | ⟨hl, hw⟩
          · have HR : Hid (turnS (fg, bg, at_) q = some (fg, bg, bits .andNot .i64 at_ ((2 ^ i : Nat) : Int))) := by
              show turnS _ _ = _
              unfold turnS
              rw [if_neg (by rw [hp1]; decide), if_neg (by rw [hp2]; decide), if_neg hn, if_pos hp3, hw]
              rfl
            have hlk := look_word hmW i hi (q.drop 2) hl
            have HNEG2 := Lib.hid (HNEG.out i)
            clear hn hp1 hp2 hp3 hl hw HNEG
            generalize ((2 ^ i : Nat) : Int) = bit at *
            generalize q.drop 2 = q2 at *
            have hc0 := hA.cell 2
            have hf0 := hA.frozen 2
            have hA2 := hA.set_ 2 (.int .i64 (bits .or .i64 at_ bit))
            have hc2 := hA2.cell 2
            have hf2 := hA2.frozen 2
            have hLD := hA2.set_ 2 (.int .i64 (bits .andNot .i64 (bits .or .i64 at_ bit) bit))
            have hST := (hZ.far (p := ⟨w.heap.size, 2, none⟩) (by simp) (.int .i64 (bits .or .i64 at_ bit))).far (p := ⟨w.heap.size, 2, none⟩) (by simp) (.int .i64 (bits .andNot .i64 (bits .or .i64 at_ bit) bit))
            have hbw := (hbel.setCell (p := ⟨w.heap.size, 2, none⟩) (Nat.le_refl _) (.int .i64 (bits .or .i64 at_ bit))).setCell (p := ⟨w.heap.size, 2, none⟩) (Nat.le_refl _) (.int .i64 (bits .andNot .i64 (bits .or .i64 at_ bit) bit))
            go_wp2_with (first
                    | (refine wpList_load_row rfl 31 _ rfl w.heap.size rfl _ _ _ _ hLD Tryd.underlying31 rfl (by kernel_rfl) ?_)
                    | (refine wpList_store_blk rfl 31 (.tmp 6) (.tmp 62) rfl (w.heap.size + 1) #[.int .i64 fg, .int .i64 bg, .int .i64 (bits .andNot .i64 (bits .or .i64 at_ bit) bit)] rfl rfl _ _ hST (by kernel_rfl) rfl (by kernel_rfl) ?_; intro w9 hblk9 hb9)
                    | (go_at_call 57; (first | (with_reducible refine (k1 _).mono ?_) | (with_reducible refine (k2 _).mono ?_) | (with_reducible refine (k3 _).mono ?_)); rintro e w0 ⟨rfl, rfl⟩))
            exact bodyPost_ret (v := .tuple #[.agg #[.int .i64 fg, .int .i64 bg, .int .i64 (bits .andNot .i64 (bits .or .i64 at_ bit) bit)], .int .i64 0]) (results_cell_tmp (p := 6) (q := 7) (by kernel_rfl) _ w9 _ _ _ _ _ rfl hblk9 Tryd.underlying31 rfl (by kernel_rfl)) rfl ⟨by rw [HR.out, HNEG2.out]; rfl, (hbw).trans (hb9 _ (by omega))⟩
          · have HR : Hid (turnS (fg, bg, at_) q = none) := by
              show turnS _ _ = _
              unfold turnS
              rw [if_neg (by rw [hp1]; decide), if_neg (by rw [hp2]; decide), if_neg hn, if_pos hp3, hw]
              rfl
            have hlk := look_none hmW (q.drop 2) (by rw [List.length_drop]; omega) hl
            clear hn hp1 hp2 hp3 hl hw HNEG
            generalize q.drop 2 = q2 at *
            have hLD := hA
            have hST := hZ
            go_wp2_with (first
                    | (refine wpList_load_row rfl 31 _ rfl w.heap.size rfl _ _ _ _ hLD Tryd.underlying31 rfl (by kernel_rfl) ?_)
                    | (refine wpList_store_blk rfl 31 (.tmp 6) (.tmp 49) rfl (w.heap.size + 1) #[.int .i64 0, .int .i64 0, .int .i64 0] rfl rfl _ _ hST (by kernel_rfl) rfl (by kernel_rfl) ?_; intro w9 hblk9 hb9)
                    | (go_at_call 57; (first | (with_reducible refine (k1 _).mono ?_) | (with_reducible refine (k2 _).mono ?_) | (with_reducible refine (k3 _).mono ?_)); rintro e w0 ⟨rfl, rfl⟩))
            exact bodyPost_ret (v := .tuple #[.agg #[.int .i64 0, .int .i64 0, .int .i64 0], .int .i64 4]) (results_cell_tmp (p := 6) (q := 7) (by kernel_rfl) _ w9 _ _ _ _ _ rfl hblk9 Tryd.underlying31 rfl (by kernel_rfl)) rfl ⟨by rw [HR.out]; exact ⟨_, _, _, rfl⟩, (hbel).trans (hb9 _ (by omega))⟩
    · have k2 := fun w => has_bg q _ hp2 w
      have hl3 := hasPrefix_len hp2
      have hq3 : 3 ≤ (bs q).size := by rw [bs_size]; exact hl3
      have hcol := colour_any (q.drop 3) W htW hBW (by rw [List.length_drop]; omega)
      rw [low_drop, hq] at hcol
      have hex := bs_drop q 3
      have HT : ∀ r, colourS (q.drop 3) = r → Hid (turnS (fg, bg, at_) q = r.map fun c => (fg, c, at_)) := fun r hr => by
        show turnS _ _ = _
        unfold turnS
        rw [if_neg (by rw [hp1]; decide), if_pos hp2]
        rw [hr]
      clear hp1 hp2 hl3
      obtain ⟨r, hr⟩ : ∃ r, colourS (q.drop 3) = r := ⟨_, rfl⟩
      have HR := HT r hr
      rw [hr] at hcol
      clear HT hr
      generalize q.drop 3 = q3 at *
      cases r with
      | none =>
        unfold colVal at hcol
        go_wp2_with (go_at_call 57; (first | (with_reducible refine (k1 _).mono ?_) | (with_reducible refine (k2 _).mono ?_)); rintro e w0 ⟨rfl, rfl⟩)
        refine hcol.mono ?_
        rintro e w1 ⟨rfl, hb1⟩
        have hA1 := hA.below hb1 (by omega)
        have hST := hZ.below hb1 (by omega)
        have hc0 := hA1.cell 1
        have hf0 := hA1.frozen 1
        have hLD := hA1.set_ 1 (.int .i64 0)
        have hST := hST.far (p := ⟨w.heap.size, 1, none⟩) (by simp) (.int .i64 0)
        have hbw := (hbel.trans (hb1.mono (by omega))).setCell (p := ⟨w.heap.size, 1, none⟩) (Nat.le_refl _) (.int .i64 0)
        clear hb1 hA1
        go_wp2_with (first
                | (refine wpList_load_row rfl 31 _ rfl w.heap.size rfl _ _ _ _ hLD Tryd.underlying31 rfl (by kernel_rfl) ?_)
                | (refine wpList_store_blk rfl 31 (.tmp 6) (.tmp 62) rfl (w.heap.size + 1) #[.int .i64 fg, .int .i64 0, .int .i64 at_] rfl rfl _ _ hST (by kernel_rfl) rfl (by kernel_rfl) ?_; intro w9 hblk9 hb9))
        exact bodyPost_ret (v := .tuple #[.agg #[.int .i64 fg, .int .i64 0, .int .i64 at_], .int .i64 4]) (results_cell_tmp (p := 6) (q := 7) (by kernel_rfl) _ w9 _ _ _ _ _ rfl hblk9 Tryd.underlying31 rfl (by kernel_rfl)) rfl ⟨by rw [HR.out]; exact ⟨_, _, _, rfl⟩, (hbw).trans (hb9 _ (by omega))⟩
      | some c =>
        unfold colVal at hcol
        go_wp2_with (go_at_call 57; (first | (with_reducible refine (k1 _).mono ?_) | (with_reducible refine (k2 _).mono ?_)); rintro e w0 ⟨rfl, rfl⟩)
        refine hcol.mono ?_
        rintro e w1 ⟨rfl, hb1⟩
        have hA1 := hA.below hb1 (by omega)
        have hST := hZ.below hb1 (by omega)
        have hc0 := hA1.cell 1
        have hf0 := hA1.frozen 1
        have hLD := hA1.set_ 1 (.int .i64 c)
        have hST := hST.far (p := ⟨w.heap.size, 1, none⟩) (by simp) (.int .i64 c)
        have hbw := (hbel.trans (hb1.mono (by omega))).setCell (p := ⟨w.heap.size, 1, none⟩) (Nat.le_refl _) (.int .i64 c)
        clear hb1 hA1
        go_wp2_with (first
                | (refine wpList_load_row rfl 31 _ rfl w.heap.size rfl _ _ _ _ hLD Tryd.underlying31 rfl (by kernel_rfl) ?_)
                | (refine wpList_store_blk rfl 31 (.tmp 6) (.tmp 62) rfl (w.heap.size + 1) #[.int .i64 fg, .int .i64 c, .int .i64 at_] rfl rfl _ _ hST (by kernel_rfl) rfl (by kernel_rfl) ?_; intro w9 hblk9 hb9))
        exact bodyPost_ret (v := .tuple #[.agg #[.int .i64 fg, .int .i64 c, .int .i64 at_], .int .i64 0]) (results_cell_tmp (p := 6) (q := 7) (by kernel_rfl) _ w9 _ _ _ _ _ rfl hblk9 Tryd.underlying31 rfl (by kernel_rfl)) rfl ⟨by rw [HR.out]; rfl, (hbw).trans (hb9 _ (by omega))⟩
  · have k1 := fun w => has_fg q _ hp1 w
    have k2 := k1
    have hl3 := hasPrefix_len hp1
    have hq3 : 3 ≤ (bs q).size := by rw [bs_size]; exact hl3
    have hcol := colour_any (q.drop 3) W htW hBW (by rw [List.length_drop]; omega)
    rw [low_drop, hq] at hcol
    have hex := bs_drop q 3
    have HT : ∀ r, colourS (q.drop 3) = r → Hid (turnS (fg, bg, at_) q = r.map fun c => (c, bg, at_)) := fun r hr => by
      show turnS _ _ = _
      unfold turnS
      rw [if_pos hp1]
      rw [hr]
    clear hp1 hl3
    obtain ⟨r, hr⟩ : ∃ r, colourS (q.drop 3) = r := ⟨_, rfl⟩
    have HR := HT r hr
    rw [hr] at hcol
    clear HT hr
    generalize q.drop 3 = q3 at *
    cases r with
    | none =>
      unfold colVal at hcol
      go_wp2_with (go_at_call 57; (first | (with_reducible refine (k1 _).mono ?_) | (with_reducible refine (k2 _).mono ?_)); rintro e w0 ⟨rfl, rfl⟩)
      refine hcol.mono ?_
      rintro e w1 ⟨rfl, hb1⟩
      have hA1 := hA.below hb1 (by omega)
      have hST := hZ.below hb1 (by omega)
      have hc0 := hA1.cell 0
      have hf0 := hA1.frozen 0
      have hLD := hA1.set_ 0 (.int .i64 0)
      have hST := hST.far (p := ⟨w.heap.size, 0, none⟩) (by simp) (.int .i64 0)
      have hbw := (hbel.trans (hb1.mono (by omega))).setCell (p := ⟨w.heap.size, 0, none⟩) (Nat.le_refl _) (.int .i64 0)
      clear hb1 hA1
      go_wp2_with (first
              | (refine wpList_load_row rfl 31 _ rfl w.heap.size rfl _ _ _ _ hLD Tryd.underlying31 rfl (by kernel_rfl) ?_)
              | (refine wpList_store_blk rfl 31 (.tmp 6) (.tmp 62) rfl (w.heap.size + 1) #[.int .i64 0, .int .i64 bg, .int .i64 at_] rfl rfl _ _ hST (by kernel_rfl) rfl (by kernel_rfl) ?_; intro w9 hblk9 hb9))
      exact bodyPost_ret (v := .tuple #[.agg #[.int .i64 0, .int .i64 bg, .int .i64 at_], .int .i64 4]) (results_cell_tmp (p := 6) (q := 7) (by kernel_rfl) _ w9 _ _ _ _ _ rfl hblk9 Tryd.underlying31 rfl (by kernel_rfl)) rfl ⟨by rw [HR.out]; exact ⟨_, _, _, rfl⟩, (hbw).trans (hb9 _ (by omega))⟩
    | some c =>
      unfold colVal at hcol
      go_wp2_with (go_at_call 57; (first | (with_reducible refine (k1 _).mono ?_) | (with_reducible refine (k2 _).mono ?_)); rintro e w0 ⟨rfl, rfl⟩)
      refine hcol.mono ?_
      rintro e w1 ⟨rfl, hb1⟩
      have hA1 := hA.below hb1 (by omega)
      have hST := hZ.below hb1 (by omega)
      have hc0 := hA1.cell 0
      have hf0 := hA1.frozen 0
      have hLD := hA1.set_ 0 (.int .i64 c)
      have hST := hST.far (p := ⟨w.heap.size, 0, none⟩) (by simp) (.int .i64 c)
      have hbw := (hbel.trans (hb1.mono (by omega))).setCell (p := ⟨w.heap.size, 0, none⟩) (Nat.le_refl _) (.int .i64 c)
      clear hb1 hA1
      go_wp2_with (first
              | (refine wpList_load_row rfl 31 _ rfl w.heap.size rfl _ _ _ _ hLD Tryd.underlying31 rfl (by kernel_rfl) ?_)
              | (refine wpList_store_blk rfl 31 (.tmp 6) (.tmp 62) rfl (w.heap.size + 1) #[.int .i64 c, .int .i64 bg, .int .i64 at_] rfl rfl _ _ hST (by kernel_rfl) rfl (by kernel_rfl) ?_; intro w9 hblk9 hb9))
      exact bodyPost_ret (v := .tuple #[.agg #[.int .i64 c, .int .i64 bg, .int .i64 at_], .int .i64 0]) (results_cell_tmp (p := 6) (q := 7) (by kernel_rfl) _ w9 _ _ _ _ _ rfl hblk9 Tryd.underlying31 rfl (by kernel_rfl)) rfl ⟨by rw [HR.out]; rfl, (hbw).trans (hb9 _ (by omega))⟩
end Go.Proofs.YtajnlbfhcbkopaaDoor.Sty
