/- Package style's Parse: for every text, over every look. -/
import Derived.Test.YtajnlbfhcbkopaaDoorPsp
namespace Go.Proofs.YtajnlbfhcbkopaaDoor.Sty
open Go.RowKit

theorem errLong_V (l : Tx) (over : St) (h : 256 < l.length) : parseV l over = .tuple #[.agg #[.int .i64 0, .int .i64 0, .int .i64 0], .int .i64 2] := by unfold parseV; rw [if_pos h]
theorem parseV_some (l : Tx) (over t : St) (h : ¬ 256 < l.length) (hp : foldS over over (items (low l)) = some t) : parseV l over = .tuple #[styV t, .int .i64 0] := by
  unfold parseV parseS; rw [if_neg h, hp]
theorem parseV_none (l : Tx) (over : St) (h : ¬ 256 < l.length) (hp : foldS over over (items (low l)) = none) : parseV l over = .tuple #[.agg #[.int .i64 0, .int .i64 0, .int .i64 0], .int .i64 4] := by
  unfold parseV parseS; rw [if_neg h, hp]
theorem items_from_low : ∀ (r cur : Tx), low r = r → low cur = cur → ∀ x ∈ itemsFrom cur r, low x = x
  | [], cur, _, hc, x, hx => by
    rw [itemsFrom] at hx
    split at hx
    · cases hx
    · rw [List.mem_singleton] at hx; rw [hx]; exact hc
  | b :: r, cur, hr, hc, x, hx => by
    have h1 : lw b = b ∧ low r = r := by
      unfold low at hr
      rw [List.map_cons, List.cons.injEq] at hr
      exact hr
    rw [itemsFrom] at hx
    split at hx
    · split at hx
      · exact items_from_low r [] h1.2 rfl x hx
      · rw [List.mem_cons] at hx
        rcases hx with rfl | hx
        · exact hc
        · exact items_from_low r [] h1.2 rfl x hx
    · refine items_from_low r (cur ++ [b]) h1.2 ?_ x hx
      unfold low at hc ⊢
      rw [List.map_append, hc, List.map_cons, h1.1, List.map_nil]
theorem items_low (l : Tx) : ∀ x ∈ items (low l), low x = x := items_from_low (low l) [] (low_low l) rfl
theorem items_from_len : ∀ (r cur : Tx), (∀ x ∈ itemsFrom cur r, x.length ≤ cur.length + r.length) ∧ (itemsFrom cur r).length ≤ 1 + r.length
  | [], cur => by
    rw [itemsFrom]
    split
    · simp
    · simp
  | b :: r, cur => by
    rw [itemsFrom]
    split
    · split
      · have := items_from_len r []
        refine ⟨fun x hx => ?_, ?_⟩
        · have := this.1 x hx; simp at this ⊢; omega
        · have := this.2; simp at this ⊢; omega
      · have := items_from_len r []
        refine ⟨fun x hx => ?_, ?_⟩
        · rw [List.mem_cons] at hx
          rcases hx with rfl | hx
          · omega
          · have := this.1 x hx; simp at this ⊢; omega
        · have := this.2; simp at this ⊢; omega
    · have := items_from_len r (cur ++ [b])
      refine ⟨fun x hx => ?_, ?_⟩
      · have := this.1 x hx; simp at this ⊢; omega
      · have := this.2; simp at this ⊢; omega
theorem items_len (l : Tx) : (∀ x ∈ items l, x.length ≤ l.length) ∧ (items l).length ≤ 1 + l.length := by
  have := items_from_len l []
  simpa [items] using this
theorem foldS_default (over now : St) (r : List Tx) : foldS over now (tDefault :: r) = foldS over over r := by
  rw [foldS, if_pos rfl]
theorem foldS_some (over now t : St) (q : Tx) (r : List Tx) (hq : q ≠ tDefault) (ht : turnS now q = some t) : foldS over now (q :: r) = foldS over t r := by
  rw [foldS, if_neg hq, ht]
theorem foldS_none (over now : St) (q : Tx) (r : List Tx) (hq : q ≠ tDefault) (ht : turnS now q = none) : foldS over now (q :: r) = none := by
  rw [foldS, if_neg hq, ht]

set_option maxRecDepth 100000 in
set_option maxHeartbeats 2000000 in
theorem parse_any {B : Nat} (l : Tx) (fg bg at_ : Int) (w : World) (ht : Tabs B w) (hB : B ≤ w.heap.size) (hs : l.length ≤ 140737488351232) :
    Calls Tryd.prog 14 #[.string (bs l), .agg #[.int .i64 fg, .int .i64 bg, .int .i64 at_]] w fun e w' => e = .returned (parseV l (fg, bg, at_)) ∧ Below w.heap.size w w' := by
  have hsz := bs_size l
  by_cases hl : 256 < l.length
  · have HE := Lib.hid (errLong_V l (fg, bg, at_) hl)
    have hl2 : 256 < (bs l).size := by omega
    clear hsz hl
    go_enter Tryd.func14, Tryd.ntmps14
    have hZ := Blk.new (w.alloc (.cells #[.int .i64 fg, .int .i64 bg, .int .i64 at_] 31)) 31 #[.int .i64 0, .int .i64 0, .int .i64 0]
    have hbel : Below w.heap.size w ((w.alloc (.cells #[.int .i64 fg, .int .i64 bg, .int .i64 at_] 31)).alloc (.cells #[.int .i64 0, .int .i64 0, .int .i64 0] 31)) := ((Below.refl _ _).alloc (Nat.le_refl _) _).alloc (by simp) _
    rw [size_alloc] at hZ
    go_wp2_with (refine wpList_store_blk rfl 31 (.tmp 4) (.tmp 14) rfl (w.heap.size + 1) #[.int .i64 0, .int .i64 0, .int .i64 0] rfl rfl _ _ hZ (by kernel_rfl) rfl (by kernel_rfl) ?_; intro w9 hblk9 hb9)
    exact bodyPost_ret (v := .tuple #[.agg #[.int .i64 0, .int .i64 0, .int .i64 0], .int .i64 2]) (results_cell_tmp (p := 4) (q := 5) (by kernel_rfl) _ w9 _ _ _ _ _ rfl hblk9 Tryd.underlying31 rfl (by kernel_rfl)) rfl ⟨by rw [HE.out], hbel.trans (hb9 _ (by omega))⟩
  · have hl2 : (bs l).size ≤ 256 := by omega
    have HES := fun t h => Lib.hid (parseV_some l (fg, bg, at_) t hl h)
    have HEN := fun h => Lib.hid (parseV_none l (fg, bg, at_) hl h)
    have hlow := fun w => lower_any l w (by omega)
    have hil := items_low l
    have hin := items_len (low l)
    have hfe := fields_eq (low l)
    have hll : (low l).length = l.length := low_length l
    go_enter Tryd.func14, Tryd.ntmps14
    go_wp2_with fail
    refine (attributes_any _).mono ?_
    rintro e w1 ⟨rfl, hM, hb1⟩
    have hO := ((Blk.new w 31 #[.int .i64 fg, .int .i64 bg, .int .i64 at_]).alloc (.cells #[.int .i64 0, .int .i64 0, .int .i64 0] 31)).below hb1 (by simp; omega)
    have hZ := (Blk.new (w.alloc (.cells #[.int .i64 fg, .int .i64 bg, .int .i64 at_] 31)) 31 #[.int .i64 0, .int .i64 0, .int .i64 0]).below hb1 (by simp)
    rw [size_alloc] at hZ
    have hbw1 : Below w.heap.size w w1 := (((Below.refl _ _).alloc (Nat.le_refl _) _).alloc (by simp) _).trans (hb1.mono (by simp; omega))
    have egm : ((w.alloc (.cells #[.int .i64 fg, .int .i64 bg, .int .i64 at_] 31)).alloc (.cells #[.int .i64 0, .int .i64 0, .int .i64 0] 31)).heap.size = w.heap.size + 2 := by simp
    rw [egm] at hM ⊢
    have hs1 := hM.lt
    clear hb1 egm
    have hN0 := Blk.new w1 31 #[.int .i64 0, .int .i64 0, .int .i64 0]
    have hO0 := hO.alloc (.cells #[.int .i64 0, .int .i64 0, .int .i64 0] 31)
    go_wp2_with (first
      | (refine wpList_load_row rfl 31 _ rfl w.heap.size rfl _ _ _ _ hO Tryd.underlying31 rfl (by kernel_rfl) ?_)
      | (refine wpList_store_row2 rfl 31 (.tmp 7) (.tmp 16) rfl w1.heap.size #[.int .i64 fg, .int .i64 bg, .int .i64 at_] rfl rfl _ _ hN0 (by kernel_rfl) rfl (by kernel_rfl) ?_; intro w2 hN hb2 hk2 hs2))
    have hbw2 : Below w.heap.size w w2 := (hbw1.alloc hbw1.size _).trans (hb2 _ hbw1.size)
    have hO2 := hO0.keep (hk2 _ (by omega))
    have hZ2 := (hZ.alloc (.cells #[.int .i64 0, .int .i64 0, .int .i64 0] 31)).keep (hk2 _ (by omega))
    have hM2 := (hM.below ((Below.refl _ _).alloc (Nat.le_refl _) (.cells #[.int .i64 0, .int .i64 0, .int .i64 0] 31)) hs1).keep (hk2 _ (by omega))
    have hz2 : w2.heap.size = w1.heap.size + 1 := by rw [hs2]; simp
    obtain ⟨g7, hg7⟩ : ∃ g7, w1.heap.size = g7 := ⟨_, rfl⟩
    rw [hg7] at hN hs1 hz2 ⊢
    clear hO hZ hM hN0 hO0 hb2 hk2 hs2 hbw1 hg7
    refine (hlow w2).mono ?_
    rintro e w3 ⟨rfl, hb3⟩
    have hbw3 := hbw2.trans (hb3.mono hbw2.size)
    have hO3 := hO2.below hb3 (by omega)
    have hZ3 := hZ2.below hb3 (by omega)
    have hM3 := hM2.below hb3 (by omega)
    have hN3 := hN.below hb3 (by omega)
    have hs3 := hb3.size
    have hff := Tryd.strings_FieldsFunc_runes 41 #[] (enters_of Tryd.func41 (by kernel_rfl) rfl) isSepR (bs (low l)) w3 (by rw [bs_size, hll]; omega) (parts_pays w3)
    rw [hfe] at hff
    generalize items (low l) = IT at *
    clear hlow hfe hb3 hO2 hZ2 hM2 hN hbw2
    go_wp2_with fail
    refine hff.mono ?_
    rintro e w4 ⟨A, rfl, hA, hrow, hb4⟩
    have hR4 := rowS_of hrow
    have hbw4 := hbw3.trans (hb4.mono hbw3.size)
    have hO4 := hO3.below hb4 (by omega)
    have hZ4 := hZ3.below hb4 (by omega)
    have hM4 := hM3.below hb4 (by omega)
    have hN4 := hN3.below hb4 (by omega)
    have hs4 := hb4.size
    have ht4 := ht.on hB hbw4
    have hn : (IT.map bs).length = IT.length := List.length_map _
    rw [hn]
    clear hff hrow hb4 hO3 hZ3 hM3 hN3 hbw3 hn
    go_wp2_with fail
    go_loopw [8, 21] (fun er i wr => ∃ (k : Nat) (f1 f2 f3 : Int), k ≤ IT.length ∧ er = .int .i64 0 ∧ i = .int .i64 (k : Int) ∧ Blk wr w.heap.size 31 #[.int .i64 fg, .int .i64 bg, .int .i64 at_] ∧ Blk wr (w.heap.size + 1) 31 #[.int .i64 0, .int .i64 0, .int .i64 0] ∧
      Blk wr g7 31 #[.int .i64 f1, .int .i64 f2, .int .i64 f3] ∧ AttrMap wr (w.heap.size + 2) ∧ RowS wr A IT ∧ Tabs B wr ∧ Below w.heap.size w wr ∧ Hid (foldS (fg, bg, at_) (f1, f2, f3) (IT.drop k) = foldS (fg, bg, at_) (fg, bg, at_) IT)) (fun _ i _ => IT.length - (intOf i).toNat)
    case atStart => exact ⟨0, fg, bg, at_, Nat.zero_le _, rfl, rfl, hO4, hZ4, hN4, hM4, hR4, ht4, hbw4, rfl⟩
    case round =>
      obtain ⟨k, f1, f2, f3, hk, rfl, rfl, hO, hZ, hN, hM, hR, htr, hb, HF⟩ := hrel
      have hbs := hb.size
      have hRl := hR.lt
      have hNl := hN.lt
      clear hO4 hZ4 hN4 hM4 hR4 ht4 hbw4
      by_cases hlt : k < IT.length
      · have hit := List.getElem?_eq_getElem hlt
        have hcell := hR.cell k _ hit
        have hdr := List.drop_eq_getElem_cons hlt
        have hxl := hil _ (List.getElem_mem hlt)
        have hxs := hin.1 _ (List.getElem_mem hlt)
        rw [hdr] at HF
        generalize IT[k] = x at *
        have hTx := bs_tl x
        by_cases hd : x = tDefault
        · have HF2 : Hid (foldS (fg, bg, at_) (fg, bg, at_) (IT.drop (k + 1)) = foldS (fg, bg, at_) (fg, bg, at_) IT) := by
            have := HF.out
            rwa [hd, foldS_default] at this
          have hxd : (x == [100, 101, 102, 97, 117, 108, 116]) = true := by rw [hd]; rfl
          clear HF hd hdr hit
          go_wp2_with (first
            | (refine wpList_load_row rfl 31 _ rfl w.heap.size rfl _ _ _ _ hO Tryd.underlying31 rfl (by kernel_rfl) ?_)
            | (refine wpList_store_row2 rfl 31 (.tmp 7) (.tmp 27) rfl g7 #[.int .i64 fg, .int .i64 bg, .int .i64 at_] rfl rfl _ _ hN (by kernel_rfl) rfl (by kernel_rfl) ?_; intro w9 hN9 hb9 hk9 hs9))
          go_roundw
          case rel => exact ⟨k + 1, fg, bg, at_, by omega, rfl, by go_num, hO.keep (hk9 _ (by omega)), hZ.keep (hk9 _ (by omega)), hN9, hM.keep (hk9 _ (by omega)), hR.keep (hk9 _ (by omega)), htr.below (hb9 _ (by omega)), hb.trans (hb9 _ (by omega)), HF2⟩
          case measure => simp [intOf]; omega
        · have hxd : (x == [100, 101, 102, 97, 117, 108, 116]) = false := by simpa using (fun e => hd e : ¬ x = [100, 101, 102, 97, 117, 108, 116])
          have htu := turn_any f1 f2 f3 x hxl (w.heap.size + 2) wr htr (by omega) hM (by omega)
          obtain ⟨r, hr⟩ : ∃ r, turnS (f1, f2, f3) x = r := ⟨_, rfl⟩
          rw [hr] at htu
          cases r with
          | some t =>
            obtain ⟨t1, t2, t3⟩ := t
            have HF2 : Hid (foldS (fg, bg, at_) (t1, t2, t3) (IT.drop (k + 1)) = foldS (fg, bg, at_) (fg, bg, at_) IT) := by
              have := HF.out
              rwa [foldS_some _ _ _ _ _ hd hr] at this
            clear HF hd hr hdr hit
            go_wp2_with (refine wpList_load_row rfl 31 _ rfl g7 rfl _ _ _ _ hN Tryd.underlying31 rfl (by kernel_rfl) ?_)
            refine htu.mono ?_
            rintro e w5 ⟨rfl, hb5⟩
            have hO5 := hO.below hb5 (by omega)
            have hZ5 := hZ.below hb5 (by omega)
            have hN5 := hN.below hb5 (by omega)
            have hM5 := hM.below hb5 (by omega)
            have hR5 := hR.keep (hb5.block _ (by omega))
            have htr5 := htr.on (by omega) hb5
            have hb5w := hb.trans (hb5.mono (by omega))
            have hs5 := hb5.size
            clear hb5 hO hZ hM hR htr hb
            go_wp2_with (refine wpList_store_row2 rfl 31 (.tmp 7) (.tmp 33) rfl g7 #[.int .i64 t1, .int .i64 t2, .int .i64 t3] rfl rfl _ _ hN5 (by kernel_rfl) rfl (by kernel_rfl) ?_; intro w9 hN9 hb9 hk9 hs9)
            go_roundw
            case rel => exact ⟨k + 1, t1, t2, t3, by omega, rfl, by go_num, hO5.keep (hk9 _ (by omega)), hZ5.keep (hk9 _ (by omega)), hN9, hM5.keep (hk9 _ (by omega)), hR5.keep (hk9 _ (by omega)), htr5.below (hb9 _ (by omega)), hb5w.trans (hb9 _ (by omega)), HF2⟩
            case measure => simp [intOf]; omega
          | none =>
            have HE := HEN (by
              have := HF.out
              rw [foldS_none _ _ _ _ hd hr] at this
              exact this.symm)
            clear HF hd hr hdr hit HES HEN
            go_wp2_with (refine wpList_load_row rfl 31 _ rfl g7 rfl _ _ _ _ hN Tryd.underlying31 rfl (by kernel_rfl) ?_)
            refine htu.mono ?_
            rintro e w5 ⟨⟨t1, t2, t3, rfl⟩, hb5⟩
            have hZ5 := hZ.below hb5 (by omega)
            have hN5 := hN.below hb5 (by omega)
            have hb5w := hb.trans (hb5.mono (by omega))
            clear hb5 hO hZ hM hR htr hb
            go_wp2_with (first
              | (refine wpList_store_row2 rfl 31 (.tmp 7) (.tmp 33) rfl g7 #[.int .i64 t1, .int .i64 t2, .int .i64 t3] rfl rfl _ _ hN5 (by kernel_rfl) rfl (by kernel_rfl) ?_; intro w6 hN6 hb6 hk6 hs6; have hZ6 := hZ5.keep (hk6 _ (by omega)))
              | (refine wpList_store_blk rfl 31 (.tmp 4) (.tmp 37) rfl (w.heap.size + 1) #[.int .i64 0, .int .i64 0, .int .i64 0] rfl rfl _ _ hZ6 (by kernel_rfl) rfl (by kernel_rfl) ?_; intro w9 hblk9 hb9))
            exact bodyPost_ret (v := .tuple #[.agg #[.int .i64 0, .int .i64 0, .int .i64 0], .int .i64 4]) (results_cell_tmp (p := 4) (q := 5) (by kernel_rfl) _ w9 _ _ _ _ _ rfl hblk9 Tryd.underlying31 rfl (by kernel_rfl)) rfl ⟨by rw [HE.out], (hb5w.trans (hb6 _ (by omega))).trans (hb9 _ (by omega))⟩
      · obtain rfl : k = IT.length := by omega
        have HE := HES (f1, f2, f3) (by
          have := HF.out
          rw [List.drop_length] at this
          exact this.symm)
        clear HF HES HEN
        go_wp2_with (first
          | (refine wpList_load_row rfl 31 _ rfl g7 rfl _ _ _ _ hN Tryd.underlying31 rfl (by kernel_rfl) ?_)
          | (refine wpList_store_blk rfl 31 (.tmp 4) (.tmp 40) rfl (w.heap.size + 1) #[.int .i64 f1, .int .i64 f2, .int .i64 f3] rfl rfl _ _ hZ (by kernel_rfl) rfl (by kernel_rfl) ?_; intro w9 hblk9 hb9))
        exact bodyPost_ret (v := .tuple #[.agg #[.int .i64 f1, .int .i64 f2, .int .i64 f3], .int .i64 0]) (results_cell_tmp (p := 4) (q := 5) (by kernel_rfl) _ w9 _ _ _ _ _ rfl hblk9 Tryd.underlying31 rfl (by kernel_rfl)) rfl ⟨by rw [HE.out], hb.trans (hb9 _ (by omega))⟩
end Go.Proofs.YtajnlbfhcbkopaaDoor.Sty
