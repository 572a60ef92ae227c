/- The chapter's item: what it says in plain words. -/
import Derived.Test.YtajnlbfhcbkopaaDoorRcl
namespace Go.Proofs.YtajnlbfhcbkopaaDoor.Sty
open Go.RowKit

/-- How an item ends. -/
def Itemed (r : Option St) (e : Ending) : Prop :=
  match r with
  | some t => e = .returned (.tuple #[styV t, .bool true])
  | none => ∃ a b c : Int, e = .returned (.tuple #[.agg #[.int .i64 a, .int .i64 b, .int .i64 c], .bool false])
/-- What an item makes of a look, over another one. -/
noncomputable def itemS (over now : St) (q : Tx) : Option St := if q = tDefault then some over else turnS now q
theorem foldS_cons (over now : St) (q : Tx) (r : List Tx) : foldS over now (q :: r) = match itemS over now q with | some t => foldS over t r | none => none := by
  rw [foldS, itemS]
  by_cases h : q = tDefault
  · rw [if_pos h, if_pos h]
  · rw [if_neg h, if_neg h]
    rfl
theorem turnS_none (now : St) : turnS now tNone = some (now.1, now.2.1, 0) := by
  unfold turnS
  rw [if_neg (by decide), if_neg (by decide), if_pos rfl]
theorem turnS_fg (now : St) (r : Tx) : turnS now (102 :: 103 :: 61 :: r) = (colourS r).map fun c => (c, now.2.1, now.2.2) := by
  unfold turnS
  rw [if_pos (by rfl)]
  rfl
theorem turnS_bg (now : St) (r : Tx) : turnS now (98 :: 103 :: 61 :: r) = (colourS r).map fun c => (now.1, c, now.2.2) := by
  unfold turnS
  rw [if_neg (by rw [show Lib.hasPrefix (98 :: 103 :: 61 :: r) tFg = false from rfl]; decide), if_pos (by rfl)]
  rfl
theorem turnS_word (now : St) (i : Nat) (hi : i < 8) : turnS now (words.getD i []) = some (now.1, now.2.1, bits .or .i64 now.2.2 ((2 ^ i : Nat) : Int)) := by
  have h : ∀ i, i < 8 → Lib.hasPrefix (words.getD i []) tFg = false ∧ Lib.hasPrefix (words.getD i []) tBg = false ∧ words.getD i [] ≠ tNone ∧ Lib.hasPrefix (words.getD i []) tNo = false := by decide
  obtain ⟨h1, h2, h3, h4⟩ := h i hi
  unfold turnS
  rw [if_neg (by rw [h1]; decide), if_neg (by rw [h2]; decide), if_neg h3, if_neg (by rw [h4]; decide), wordOf_some hi rfl]
  rfl
theorem turnS_noword (now : St) (i : Nat) (hi : i < 8) : turnS now (tNo ++ words.getD i []) = some (now.1, now.2.1, bits .andNot .i64 now.2.2 ((2 ^ i : Nat) : Int)) := by
  have h : ∀ i, i < 8 → Lib.hasPrefix (tNo ++ words.getD i []) tFg = false ∧ Lib.hasPrefix (tNo ++ words.getD i []) tBg = false ∧ tNo ++ words.getD i [] ≠ tNone ∧ Lib.hasPrefix (tNo ++ words.getD i []) tNo = true := by decide
  obtain ⟨h1, h2, h3, h4⟩ := h i hi
  have e : (tNo ++ words.getD i []).drop 2 = words.getD i [] := rfl
  unfold turnS
  rw [if_neg (by rw [h1]; decide), if_neg (by rw [h2]; decide), if_neg h3, if_pos h4, e, wordOf_some hi rfl]
  rfl
/-- What begins with neither 'fg=' nor 'bg=' and more. -/
def NoCol (q : Tx) : Prop := ∀ r, r ≠ [] → q ≠ 102 :: 103 :: 61 :: r ∧ q ≠ 98 :: 103 :: 61 :: r
theorem colourS_empty : colourS [] = none := by
  have h : ∀ k : Nat, k < 17 → ([] : Tx) ≠ name ((k : Int) - 1) := by decide
  refine colourS_none fun c => not_any h ?_ ?_ ?_ c
  · intro d e; cases e
  · intro d e; cases e
  · intro d e; cases e
theorem prefix3 {q : Tx} {a b c : UInt8} (h : Lib.hasPrefix q [a, b, c] = true) : q = a :: b :: c :: q.drop 3 := by
  have e := hasPrefix_yes h
  generalize Lib.trimPrefix q [a, b, c] = r at e
  subst e
  rfl
theorem prefix2 {q : Tx} (h : Lib.hasPrefix q tNo = true) : q = tNo ++ q.drop 2 := by
  have e := hasPrefix_yes h
  generalize Lib.trimPrefix q tNo = r at e
  subst e
  rfl
theorem turnS_other {now : St} {q : Tx} (hc : NoCol q) (hn : q ≠ tNone) (h : ∀ j, j < 8 → q ≠ words.getD j [] ∧ q ≠ tNo ++ words.getD j []) : turnS now q = none := by
  unfold turnS
  by_cases h1 : Lib.hasPrefix q tFg = true
  · rw [if_pos h1]
    have this : q.drop 3 = [] := by
      cases hd : q.drop 3 with
      | nil => rfl
      | cons x y => exact absurd (by rw [← hd]; exact prefix3 h1) (hc (x :: y) (by simp)).1
    rw [this, colourS_empty]
    rfl
  · rw [if_neg h1]
    by_cases h2 : Lib.hasPrefix q tBg = true
    · rw [if_pos h2]
      have this : q.drop 3 = [] := by
        cases hd : q.drop 3 with
        | nil => rfl
        | cons x y => exact absurd (by rw [← hd]; exact prefix3 h2) (hc (x :: y) (by simp)).2
      rw [this, colourS_empty]
      rfl
    · rw [if_neg h2, if_neg hn]
      by_cases h3 : Lib.hasPrefix q tNo = true
      · rw [if_pos h3, wordOf_none fun i hi e => (h i hi).2 (by rw [← e]; exact prefix2 h3)]
        rfl
      · rw [if_neg h3, wordOf_none fun i hi => (h i hi).1]
        rfl

set_option maxRecDepth 100000 in
set_option maxHeartbeats 1000000 in
theorem item_any (l : Tx) (fg bg at_ o1 o2 o3 : Int) (w : World) (hs : l.length ≤ 140737488351232) :
    Calls Tryd.prog 43 #[.string (bs l), .agg #[.int .i64 fg, .int .i64 bg, .int .i64 at_], .agg #[.int .i64 o1, .int .i64 o2, .int .i64 o3]] w fun e w' => Itemed (itemS (o1, o2, o3) (fg, bg, at_) (low l)) e ∧ Below w.heap.size w w' := by
  have hlo := fun w => lowRef_any l w hs
  have hll := low_length l
  rw [← hll] at hs
  have hqq := low_low l
  clear hll
  generalize low l = q at *
  generalize bs l = S0 at *
  have hA := (Blk.new w 31 #[.int .i64 fg, .int .i64 bg, .int .i64 at_]).alloc (.cells #[.int .i64 o1, .int .i64 o2, .int .i64 o3] 31) |>.alloc (.cells #[.int .i64 0, .int .i64 0, .int .i64 0] 31)
  have hO := (Blk.new (w.alloc (.cells #[.int .i64 fg, .int .i64 bg, .int .i64 at_] 31)) 31 #[.int .i64 o1, .int .i64 o2, .int .i64 o3]).alloc (.cells #[.int .i64 0, .int .i64 0, .int .i64 0] 31)
  have hZ := Blk.new ((w.alloc (.cells #[.int .i64 fg, .int .i64 bg, .int .i64 at_] 31)).alloc (.cells #[.int .i64 o1, .int .i64 o2, .int .i64 o3] 31)) 31 #[.int .i64 0, .int .i64 0, .int .i64 0]
  have hb0 : Below w.heap.size w (((w.alloc (.cells #[.int .i64 fg, .int .i64 bg, .int .i64 at_] 31)).alloc (.cells #[.int .i64 o1, .int .i64 o2, .int .i64 o3] 31)).alloc (.cells #[.int .i64 0, .int .i64 0, .int .i64 0] 31)) := (((Below.refl _ _).alloc (Nat.le_refl _) _).alloc (by simp) _).alloc (by simp; omega) _
  simp only [size_alloc] at hO hZ
  go_enter Tryd.func43, Tryd.ntmps43
  go_wp2_with fail
  refine (hlo _).mono ?_
  rintro e w1 ⟨rfl, hb1⟩
  have hA1 := hA.below hb1 hA.lt
  have hO1 := hO.below hb1 hO.lt
  have hZ1 := hZ.below hb1 hZ.lt
  have hbw := hb0.trans (hb1.mono hb0.size)
  have hs1 := hZ1.lt
  have ht := bs_tl q
  have hsz := bs_size q
  clear hA hO hZ hb0 hb1 hlo
  by_cases h1 : q = tDefault
  · have HR : Hid (itemS (o1, o2, o3) (fg, bg, at_) q = some (o1, o2, o3)) := by show _ = _; unfold itemS; rw [if_pos h1]
    have d1 : (q == [100, 101, 102, 97, 117, 108, 116]) = true := by rw [h1]; rfl
    clear h1
    go_wp2_with (first
      | (refine wpList_load_row rfl 31 _ rfl (w.heap.size + 1) rfl _ _ _ _ hO1 Tryd.underlying31 rfl (by kernel_rfl) ?_)
      | (refine wpList_store_blk rfl 31 (.tmp 6) (.tmp 17) rfl (w.heap.size + 1 + 1) #[.int .i64 o1, .int .i64 o2, .int .i64 o3] rfl rfl _ _ hZ1 (by kernel_rfl) rfl (by kernel_rfl) ?_; intro w9 hblk9 hb9))
    exact bodyPost_ret (v := .tuple #[.agg #[.int .i64 o1, .int .i64 o2, .int .i64 o3], .bool true]) (results_cell_tmp (p := 6) (q := 7) (by kernel_rfl) _ w9 _ _ _ _ _ rfl hblk9 Tryd.underlying31 rfl (by kernel_rfl)) rfl ⟨by rw [HR.out]; rfl, hbw.trans (hb9 _ (by omega))⟩
  · have d1 : (q == [100, 101, 102, 97, 117, 108, 116]) = false := by simpa using (fun e => h1 e : ¬ q = [100, 101, 102, 97, 117, 108, 116])
    have HI : Hid (itemS (o1, o2, o3) (fg, bg, at_) q = turnS (fg, bg, at_) q) := by show _ = _; unfold itemS; rw [if_neg h1]
    clear h1
    by_cases h2 : q = tNone
    · have HR : Hid (itemS (o1, o2, o3) (fg, bg, at_) q = some (fg, bg, 0)) := by show _ = _; rw [HI.out, h2, turnS_none]
      have d2 : (q == [110, 111, 110, 101]) = true := by rw [h2]; rfl
      clear h2 HI
      have hc0 := hA1.cell 2
      have hf0 := hA1.frozen 2
      have hLD := hA1.set_ 2 (.int .i64 0)
      have hST := hZ1.far (p := ⟨w.heap.size, 2, none⟩) (by simp; omega) (.int .i64 0)
      have hbw2 := hbw.setCell (p := ⟨w.heap.size, 2, none⟩) (Nat.le_refl _) (.int .i64 0)
      go_wp2_with (first
        | (refine wpList_load_row rfl 31 _ rfl w.heap.size rfl _ _ _ _ hLD Tryd.underlying31 rfl (by kernel_rfl) ?_)
        | (refine wpList_store_blk rfl 31 (.tmp 6) (.tmp 22) rfl (w.heap.size + 1 + 1) #[.int .i64 fg, .int .i64 bg, .int .i64 0] rfl rfl _ _ hST (by kernel_rfl) rfl (by kernel_rfl) ?_; intro w9 hblk9 hb9))
      exact bodyPost_ret (v := .tuple #[.agg #[.int .i64 fg, .int .i64 bg, .int .i64 0], .bool true]) (results_cell_tmp (p := 6) (q := 7) (by kernel_rfl) _ w9 _ _ _ _ _ rfl hblk9 Tryd.underlying31 rfl (by kernel_rfl)) rfl ⟨by rw [HR.out]; rfl, hbw2.trans (hb9 _ (by omega))⟩
    · have d2 : (q == [110, 111, 110, 101]) = false := by simpa using (fun e => h2 e : ¬ q = [110, 111, 110, 101])
      by_cases h3 : ∃ r, r ≠ [] ∧ q = 102 :: 103 :: 61 :: r
      · obtain ⟨r, hr, rfl⟩ := h3
        have h4 : 3 < (bs (102 :: 103 :: 61 :: r)).size := by rw [bs_size]; cases r with | nil => exact absurd rfl hr | cons _ _ => simp
        have hex := bs_drop (102 :: 103 :: 61 :: r) 3
        have e : (102 :: 103 :: 61 :: r : Tx).drop 3 = r := rfl
        rw [e] at hex
        have hcol := fun w => colourRef_any r w (by simp at hs; omega)
        have hlr : low r = r := by
          have := congrArg (List.drop 3) hqq
          rw [← low_drop] at this
          exact this
        have hex2 : (bs (102 :: 103 :: 61 :: r)).extract 0 3 = { data := #[102, 103, 61] } := by rw [cut_ext]; rfl
        have h0 : ∃ h : 0 < (bs (102 :: 103 :: 61 :: r)).size, ((((bs (102 :: 103 :: 61 :: r))[0]'h).toNat : Int) == 102) = true := ⟨Nat.lt_trans (by decide) h4, rfl⟩
        have HT := HI.out
        rw [turnS_fg] at HT
        rw [hlr] at hcol
        replace HI := Lib.hid HT
        rw [← ht] at d1 d2
        clear e hr hs hqq ht hsz h2 HT hlr
        obtain ⟨Q, hQ⟩ : ∃ Q, bs (102 :: 103 :: 61 :: r) = Q := ⟨_, rfl⟩
        rw [hQ] at h4 hex h0 hex2 d1 d2 ⊢
        clear hQ
        obtain ⟨h00, h0⟩ := h0
        obtain ⟨c, hc⟩ : ∃ c, colourS r = c := ⟨_, rfl⟩
        rw [hc] at hcol HI
        clear hc
        cases c with
        | none =>
          unfold colRef at hcol
          go_wp2_with fail
          refine (hcol _).mono ?_
          rintro e w2 ⟨rfl, hb2⟩
          have hA2 := hA1.below hb2 hA1.lt
          have hZ2 := hZ1.below hb2 hZ1.lt
          have hbw2 := hbw.trans (hb2.mono hbw.size)
          have hc0 := hA2.cell 0
          have hf0 := hA2.frozen 0
          have hLD := hA2.set_ 0 (.int .i64 0)
          have hST := hZ2.far (p := ⟨w.heap.size, 0, none⟩) (by simp; omega) (.int .i64 0)
          have hbw3 := hbw2.setCell (p := ⟨w.heap.size, 0, none⟩) (Nat.le_refl _) (.int .i64 0)
          clear hA1 hA2 hZ1 hZ2 hb2 hbw hbw2 hO1
          go_wp2_with (first
            | (refine wpList_load_row rfl 31 _ rfl w.heap.size rfl _ _ _ _ hLD Tryd.underlying31 rfl (by kernel_rfl) ?_)
            | (refine wpList_store_blk rfl 31 (.tmp 6) (.tmp 50) rfl (w.heap.size + 1 + 1) #[.int .i64 0, .int .i64 bg, .int .i64 at_] rfl rfl _ _ hST (by kernel_rfl) rfl (by kernel_rfl) ?_; intro w9 hblk9 hb9))
          exact bodyPost_ret (v := .tuple #[.agg #[.int .i64 0, .int .i64 bg, .int .i64 at_], .bool false]) (results_cell_tmp (p := 6) (q := 7) (by kernel_rfl) _ w9 _ _ _ _ _ rfl hblk9 Tryd.underlying31 rfl (by kernel_rfl)) rfl ⟨by rw [HI.out]; exact ⟨_, _, _, rfl⟩, hbw3.trans (hb9 _ (by omega))⟩
        | some c =>
          unfold colRef at hcol
          go_wp2_with fail
          refine (hcol _).mono ?_
          rintro e w2 ⟨rfl, hb2⟩
          have hA2 := hA1.below hb2 hA1.lt
          have hZ2 := hZ1.below hb2 hZ1.lt
          have hbw2 := hbw.trans (hb2.mono hbw.size)
          have hc0 := hA2.cell 0
          have hf0 := hA2.frozen 0
          have hLD := hA2.set_ 0 (.int .i64 c)
          have hST := hZ2.far (p := ⟨w.heap.size, 0, none⟩) (by simp; omega) (.int .i64 c)
          have hbw3 := hbw2.setCell (p := ⟨w.heap.size, 0, none⟩) (Nat.le_refl _) (.int .i64 c)
          clear hA1 hA2 hZ1 hZ2 hb2 hbw hbw2 hO1
          go_wp2_with (first
            | (refine wpList_load_row rfl 31 _ rfl w.heap.size rfl _ _ _ _ hLD Tryd.underlying31 rfl (by kernel_rfl) ?_)
            | (refine wpList_store_blk rfl 31 (.tmp 6) (.tmp 50) rfl (w.heap.size + 1 + 1) #[.int .i64 c, .int .i64 bg, .int .i64 at_] rfl rfl _ _ hST (by kernel_rfl) rfl (by kernel_rfl) ?_; intro w9 hblk9 hb9))
          exact bodyPost_ret (v := .tuple #[.agg #[.int .i64 c, .int .i64 bg, .int .i64 at_], .bool true]) (results_cell_tmp (p := 6) (q := 7) (by kernel_rfl) _ w9 _ _ _ _ _ rfl hblk9 Tryd.underlying31 rfl (by kernel_rfl)) rfl ⟨by rw [HI.out]; rfl, hbw3.trans (hb9 _ (by omega))⟩
      · by_cases h3b : ∃ r, r ≠ [] ∧ q = 98 :: 103 :: 61 :: r
        · obtain ⟨r, hr, rfl⟩ := h3b
          have h4 : 3 < (bs (98 :: 103 :: 61 :: r)).size := by rw [bs_size]; cases r with | nil => exact absurd rfl hr | cons _ _ => simp
          have hex := bs_drop (98 :: 103 :: 61 :: r) 3
          have e : (98 :: 103 :: 61 :: r : Tx).drop 3 = r := rfl
          rw [e] at hex
          have hcol := fun w => colourRef_any r w (by simp at hs; omega)
          have hlr : low r = r := by
            have := congrArg (List.drop 3) hqq
            rw [← low_drop] at this
            exact this
          have hex2 : (bs (98 :: 103 :: 61 :: r)).extract 0 3 = { data := #[98, 103, 61] } := by rw [cut_ext]; rfl
          have h0 : ∃ h : 0 < (bs (98 :: 103 :: 61 :: r)).size, ((((bs (98 :: 103 :: 61 :: r))[0]'h).toNat : Int) == 102) = false := ⟨Nat.lt_trans (by decide) h4, rfl⟩
          have HT := HI.out
          rw [turnS_bg] at HT
          rw [hlr] at hcol
          replace HI := Lib.hid HT
          rw [← ht] at d1 d2
          clear e hr hs hqq ht hsz h2 HT hlr
          obtain ⟨Q, hQ⟩ : ∃ Q, bs (98 :: 103 :: 61 :: r) = Q := ⟨_, rfl⟩
          rw [hQ] at h4 hex h0 hex2 d1 d2 ⊢
          clear hQ
          obtain ⟨h00, h0⟩ := h0
          obtain ⟨c, hc⟩ : ∃ c, colourS r = c := ⟨_, rfl⟩
          rw [hc] at hcol HI
          clear hc
          cases c with
          | none =>
            unfold colRef at hcol
            go_wp2_with fail
            refine (hcol _).mono ?_
            rintro e w2 ⟨rfl, hb2⟩
            have hA2 := hA1.below hb2 hA1.lt
            have hZ2 := hZ1.below hb2 hZ1.lt
            have hbw2 := hbw.trans (hb2.mono hbw.size)
            have hc0 := hA2.cell 1
            have hf0 := hA2.frozen 1
            have hLD := hA2.set_ 1 (.int .i64 0)
            have hST := hZ2.far (p := ⟨w.heap.size, 1, none⟩) (by simp; omega) (.int .i64 0)
            have hbw3 := hbw2.setCell (p := ⟨w.heap.size, 1, none⟩) (Nat.le_refl _) (.int .i64 0)
            clear hA1 hA2 hZ1 hZ2 hb2 hbw hbw2 hO1
            go_wp2_with (first
              | (refine wpList_load_row rfl 31 _ rfl w.heap.size rfl _ _ _ _ hLD Tryd.underlying31 rfl (by kernel_rfl) ?_)
              | (refine wpList_store_blk rfl 31 (.tmp 6) (.tmp 50) rfl (w.heap.size + 1 + 1) #[.int .i64 fg, .int .i64 0, .int .i64 at_] rfl rfl _ _ hST (by kernel_rfl) rfl (by kernel_rfl) ?_; intro w9 hblk9 hb9))
            exact bodyPost_ret (v := .tuple #[.agg #[.int .i64 fg, .int .i64 0, .int .i64 at_], .bool false]) (results_cell_tmp (p := 6) (q := 7) (by kernel_rfl) _ w9 _ _ _ _ _ rfl hblk9 Tryd.underlying31 rfl (by kernel_rfl)) rfl ⟨by rw [HI.out]; exact ⟨_, _, _, rfl⟩, hbw3.trans (hb9 _ (by omega))⟩
          | some c =>
            unfold colRef at hcol
            go_wp2_with fail
            refine (hcol _).mono ?_
            rintro e w2 ⟨rfl, hb2⟩
            have hA2 := hA1.below hb2 hA1.lt
            have hZ2 := hZ1.below hb2 hZ1.lt
            have hbw2 := hbw.trans (hb2.mono hbw.size)
            have hc0 := hA2.cell 1
            have hf0 := hA2.frozen 1
            have hLD := hA2.set_ 1 (.int .i64 c)
            have hST := hZ2.far (p := ⟨w.heap.size, 1, none⟩) (by simp; omega) (.int .i64 c)
            have hbw3 := hbw2.setCell (p := ⟨w.heap.size, 1, none⟩) (Nat.le_refl _) (.int .i64 c)
            clear hA1 hA2 hZ1 hZ2 hb2 hbw hbw2 hO1
            go_wp2_with (first
              | (refine wpList_load_row rfl 31 _ rfl w.heap.size rfl _ _ _ _ hLD Tryd.underlying31 rfl (by kernel_rfl) ?_)
              | (refine wpList_store_blk rfl 31 (.tmp 6) (.tmp 50) rfl (w.heap.size + 1 + 1) #[.int .i64 fg, .int .i64 c, .int .i64 at_] rfl rfl _ _ hST (by kernel_rfl) rfl (by kernel_rfl) ?_; intro w9 hblk9 hb9))
            exact bodyPost_ret (v := .tuple #[.agg #[.int .i64 fg, .int .i64 c, .int .i64 at_], .bool true]) (results_cell_tmp (p := 6) (q := 7) (by kernel_rfl) _ w9 _ _ _ _ _ rfl hblk9 Tryd.underlying31 rfl (by kernel_rfl)) rfl ⟨by rw [HI.out]; rfl, hbw3.trans (hb9 _ (by omega))⟩
        · have hne : NoCol q := fun r hr => ⟨fun e => h3 ⟨r, hr, e⟩, fun e => h3b ⟨r, hr, e⟩⟩
          have hother := fun h => turnS_other (now := (fg, bg, at_)) hne h2 h
          have hex2 : (bs q).extract 0 3 = bs (q.take 3) := by rw [cut_ext, List.drop_zero]
          have hcs : (3 < (bs q).size ∧ ((bs (q.take 3)).toList == [102, 103, 61]) = false ∧ ((bs (q.take 3)).toList == [98, 103, 61]) = false) ∨ (bs q).size ≤ 3 := by
            rw [bs_size, bs_tl]
            by_cases hl : 3 < q.length
            · refine .inl ⟨hl, ?_, ?_⟩
              all_goals
                cases hh : (q.take 3 == _)
                · rfl
                · have e := eq_of_beq hh
                  have e2 := List.take_append_drop 3 q
                  rw [e] at e2
                  have e3 : q.drop 3 ≠ [] := fun e3 => by
                    have := congrArg List.length e3
                    simp at this
                    omega
                  first
                    | exact absurd e2.symm (hne _ e3).1
                    | exact absurd e2.symm (hne _ e3).2
            · exact .inr (by omega)
          have HQ : Hid (∀ j, ((bs q).toList == (bs (words.getD j [])).toList) = false → q ≠ words.getD j []) := fun j h e => by
            rw [bs_tl, bs_tl, e] at h; simp at h
          have HQ2 : Hid (∀ j, ((bs q).toList == (bs (tNo ++ words.getD j [])).toList) = false → q ≠ tNo ++ words.getD j []) := fun j h e => by
            rw [bs_tl, bs_tl, e] at h; simp at h
          have HY : Hid (∀ j, j < 8 → ((bs q).toList == (bs (words.getD j [])).toList) = true → itemS (o1, o2, o3) (fg, bg, at_) q = some (fg, bg, bits .or .i64 at_ ((2 ^ j : Nat) : Int))) := fun j hj h => by
            rw [bs_tl, bs_tl] at h
            rw [HI.out, eq_of_beq h, turnS_word _ j hj]
          have HY2 : Hid (∀ j, j < 8 → ((bs q).toList == (bs (tNo ++ words.getD j [])).toList) = true → itemS (o1, o2, o3) (fg, bg, at_) q = some (fg, bg, bits .andNot .i64 at_ ((2 ^ j : Nat) : Int))) := fun j hj h => by
            rw [bs_tl, bs_tl] at h
            rw [HI.out, eq_of_beq h, turnS_noword _ j hj]
          have HO : Hid ((∀ j, j < 8 → q ≠ words.getD j [] ∧ q ≠ tNo ++ words.getD j []) → itemS (o1, o2, o3) (fg, bg, at_) q = none) := fun h => by
            rw [HI.out, hother h]
          rw [← ht] at d1 d2
          generalize bs (q.take 3) = T3 at *
          clear hne hother h2 h3 h3b hs hqq ht hsz HI
          obtain ⟨Q, hQ⟩ : ∃ Q, bs q = Q := ⟨_, rfl⟩
          rw [hQ] at hcs hex2 d1 d2 HQ HQ2 HY HY2 ⊢
          clear hQ
          rcases hcs with ⟨h4, g1, g2⟩ | h4
          all_goals
            go_wp2_with fail
            refine (words_any _).mono ?_
            rintro e w2 ⟨rfl, hW2, hb2⟩
            have hA2 := hA1.below hb2 hA1.lt
            have hZ2 := hZ1.below hb2 hZ1.lt
            have hbw2 := hbw.trans (hb2.mono hbw.size)
            clear hA1 hZ1 hb2 hbw hO1 hex2 d1 d2 h4 hs1
            try clear g1 g2
            go_wp2_with fail
            go_loop [11] (fun i => ∃ j : Nat, j ≤ 8 ∧ i = .int .i64 (j : Int) ∧ Hid (∀ k, k < j → q ≠ words.getD k [] ∧ q ≠ tNo ++ words.getD k [])) (fun i => (8 - intOf i).toNat)
            case atStart => exact ⟨0, by omega, rfl, fun k hk => by omega⟩
            case round =>
              obtain ⟨j, hj, rfl, hsf⟩ := hrel
              by_cases hlt : j < 8
              · have hwj := words_at j hlt
                rw [← hW2.cell j] at hwj
                have hwl : (bs (words.getD j [])).size ≤ 13 := by rw [bs_size]; exact words_len j
                have s1 : ∀ w : World, (Op.stringOp .add { data := #[110, 111] } (bs (words.getD j []))).run Tryd.prog w = .ok (.string (bs (tNo ++ words.getD j []))) w := fun w => by
                  rw [← bs_app]; exact run_string_add_sum w _ _ (by show 2 + _ ≤ _; omega)
                have n1 := HQ.out j
                have n2 := HQ2.out j
                have y1 := HY.out j hlt
                have y2 := HY2.out j hlt
                have hw := (show ∀ j, j < 8 → ((2 ^ j : Nat) : Int) = wrap64 (2 ^ j) by decide +kernel) j hlt
                rw [hw] at y1 y2
                clear hw
                generalize bs (words.getD j []) = XB at *
                generalize bs (tNo ++ words.getD j []) = NB at *
                cases e0 : (Q.toList == XB.toList)
                · cases e1 : (Q.toList == NB.toList)
                  · have HS : Hid (∀ k, k < j + 1 → q ≠ words.getD k [] ∧ q ≠ tNo ++ words.getD k []) := fun k hk => by
                      by_cases hkj : k < j
                      · exact hsf.out k hkj
                      · obtain rfl : k = j := by omega
                        exact ⟨n1 e0, n2 e1⟩
                    clear n1 n2 y1 y2
                    go_wp2_with fail
                    go_round
                    case rel => exact ⟨j + 1, by omega, by go_num, HS⟩
                    case measure => simp [intOf]; omega
                  · have HR := Lib.hid (y2 e1)
                    clear n1 n2 y1 y2
                    have hc2 := hA2.cell 2
                    have hf2 := hA2.frozen 2
                    have hLD : Blk (w2.setCell ⟨w.heap.size, 2, none⟩ (.int .i64 (bits .andNot .i64 at_ (wrap64 (2 ^ j))))).drew w.heap.size 31 #[.int .i64 fg, .int .i64 bg, .int .i64 (bits .andNot .i64 at_ (wrap64 (2 ^ j)))] := hA2.set_ 2 (.int .i64 (bits .andNot .i64 at_ (wrap64 (2 ^ j))))
                    have hST : Blk (w2.setCell ⟨w.heap.size, 2, none⟩ (.int .i64 (bits .andNot .i64 at_ (wrap64 (2 ^ j))))).drew (w.heap.size + 1 + 1) 31 #[.int .i64 0, .int .i64 0, .int .i64 0] := hZ2.far (p := ⟨w.heap.size, 2, none⟩) (by simp; omega) (.int .i64 (bits .andNot .i64 at_ (wrap64 (2 ^ j))))
                    have hbw3 := (hbw2.setCell (p := ⟨w.heap.size, 2, none⟩) (Nat.le_refl _) (.int .i64 (bits .andNot .i64 at_ (wrap64 (2 ^ j))))).drew
                    go_wp2_with fail
                    go_region
                    go_wp2_with (first
                      | (refine wpList_load_row rfl 31 _ rfl w.heap.size rfl _ _ _ _ hLD Tryd.underlying31 rfl (by kernel_rfl) ?_)
                      | (refine wpList_store_blk rfl 31 (.tmp 6) (.tmp 85) rfl (w.heap.size + 1 + 1) #[.int .i64 fg, .int .i64 bg, .int .i64 (bits .andNot .i64 at_ (wrap64 (2 ^ j)))] rfl rfl _ _ hST (by kernel_rfl) rfl (by kernel_rfl) ?_; intro w9 hblk9 hb9))
                    exact bodyPost_ret (v := .tuple #[.agg #[.int .i64 fg, .int .i64 bg, .int .i64 (bits .andNot .i64 at_ (wrap64 (2 ^ j)))], .bool true]) (results_cell_tmp (p := 6) (q := 7) (by kernel_rfl) _ w9 _ _ _ _ _ rfl hblk9 Tryd.underlying31 rfl (by kernel_rfl)) rfl ⟨by rw [HR.out]; rfl, hbw3.trans (hb9 _ (by omega))⟩
                · have HR := Lib.hid (y1 e0)
                  clear n1 n2 y1 y2
                  have hc2 := hA2.cell 2
                  have hf2 := hA2.frozen 2
                  have hLD : Blk (w2.setCell ⟨w.heap.size, 2, none⟩ (.int .i64 (bits .or .i64 at_ (wrap64 (2 ^ j))))).drew w.heap.size 31 #[.int .i64 fg, .int .i64 bg, .int .i64 (bits .or .i64 at_ (wrap64 (2 ^ j)))] := hA2.set_ 2 (.int .i64 (bits .or .i64 at_ (wrap64 (2 ^ j))))
                  have hST : Blk (w2.setCell ⟨w.heap.size, 2, none⟩ (.int .i64 (bits .or .i64 at_ (wrap64 (2 ^ j))))).drew (w.heap.size + 1 + 1) 31 #[.int .i64 0, .int .i64 0, .int .i64 0] := hZ2.far (p := ⟨w.heap.size, 2, none⟩) (by simp; omega) (.int .i64 (bits .or .i64 at_ (wrap64 (2 ^ j))))
                  have hbw3 := (hbw2.setCell (p := ⟨w.heap.size, 2, none⟩) (Nat.le_refl _) (.int .i64 (bits .or .i64 at_ (wrap64 (2 ^ j))))).drew
                  go_wp2_with fail
                  go_region
                  go_wp2_with (first
                    | (refine wpList_load_row rfl 31 _ rfl w.heap.size rfl _ _ _ _ hLD Tryd.underlying31 rfl (by kernel_rfl) ?_)
                    | (refine wpList_store_blk rfl 31 (.tmp 6) (.tmp 71) rfl (w.heap.size + 1 + 1) #[.int .i64 fg, .int .i64 bg, .int .i64 (bits .or .i64 at_ (wrap64 (2 ^ j)))] rfl rfl _ _ hST (by kernel_rfl) rfl (by kernel_rfl) ?_; intro w9 hblk9 hb9))
                  exact bodyPost_ret (v := .tuple #[.agg #[.int .i64 fg, .int .i64 bg, .int .i64 (bits .or .i64 at_ (wrap64 (2 ^ j)))], .bool true]) (results_cell_tmp (p := 6) (q := 7) (by kernel_rfl) _ w9 _ _ _ _ _ rfl hblk9 Tryd.underlying31 rfl (by kernel_rfl)) rfl ⟨by rw [HR.out]; rfl, hbw3.trans (hb9 _ (by omega))⟩
              · obtain rfl : j = 8 := by omega
                have HR := Lib.hid (HO.out hsf.out)
                go_wp2_with (first
                  | (refine wpList_load_row rfl 31 _ rfl w.heap.size rfl _ _ _ _ hA2 Tryd.underlying31 rfl (by kernel_rfl) ?_)
                  | (refine wpList_store_blk rfl 31 (.tmp 6) (.tmp 86) rfl (w.heap.size + 1 + 1) #[.int .i64 fg, .int .i64 bg, .int .i64 at_] rfl rfl _ _ hZ2 (by kernel_rfl) rfl (by kernel_rfl) ?_; intro w9 hblk9 hb9))
                exact bodyPost_ret (v := .tuple #[.agg #[.int .i64 fg, .int .i64 bg, .int .i64 at_], .bool false]) (results_cell_tmp (p := 6) (q := 7) (by kernel_rfl) _ w9 _ _ _ _ _ rfl hblk9 Tryd.underlying31 rfl (by kernel_rfl)) rfl ⟨by rw [HR.out]; exact ⟨_, _, _, rfl⟩, hbw2.trans (hb9 _ (by omega))⟩
end Go.Proofs.YtajnlbfhcbkopaaDoor.Sty
