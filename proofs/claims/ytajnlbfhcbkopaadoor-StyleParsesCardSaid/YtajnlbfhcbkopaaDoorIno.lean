/- Package style's inOrder walked. -/
import Derived.Test.YtajnlbfhcbkopaaDoorOrd
namespace Go.Proofs.YtajnlbfhcbkopaaDoor.Sty
open Go.RowKit
open Go.Maps (Keyed)

theorem has_words : ∀ i : Nat, i < 8 → Maps.has attrD (.string (words.getD i [])) = true := by decide
theorem zero8 : (#[.string { data := #[] }, .string { data := #[] }, .string { data := #[] }, .string { data := #[] }, .string { data := #[] }, .string { data := #[] }, .string { data := #[] }, .string { data := #[] }] : Array Value) = strs (List.replicate 8 []) := by kernel_rfl
theorem strs_set (l : List Tx) (i : Nat) (x : Tx) : (strs l).setIfInBounds i (.string (bs x)) = strs (l.set i x) := by
  unfold strs
  rw [List.setIfInBounds_toArray, List.map_set]
theorem strs_get (l : List Tx) (i : Nat) (x : Tx) (h : l[i]? = some x) : (strs l)[i]? = some (.string (bs x)) := by
  unfold strs
  simp [h]
theorem strs_size (l : List Tx) : (strs l).size = l.length := by simp [strs]
theorem strs_one (l : List Tx) : (strs l).all (·.oneCell') = true := by
  unfold strs
  rw [Array.all_eq_true]
  intro i hi
  simp [Value.oneCell']
theorem size8 : (Tryd.prog.info? 50).map (·.size) = some 8 := by kernel_rfl

set_option maxRecDepth 100000 in
set_option maxHeartbeats 1000000 in
theorem inOrder_any {B : Nat} (a : Nat) (ha : a < 256) (w : World) (ht : Tabs B w) (hB : B ≤ w.heap.size) :
    Calls Tryd.prog 44 #[.int .i64 (a : Int)] w fun e w' => e = .returned (.agg (strs (ordered a))) ∧ Below w.heap.size w w' := by
  go_enter Tryd.func44, Tryd.ntmps44
  go_wp2_with fail
  refine (attributes_any _).mono ?_
  rintro e w1 ⟨rfl, hM, hb1⟩
  have hA := ((Blk.new w 50 #[.string { data := #[] }, .string { data := #[] }, .string { data := #[] }, .string { data := #[] }, .string { data := #[] }, .string { data := #[] }, .string { data := #[] }, .string { data := #[] }]).alloc (.cells #[.string { data := #[] }, .string { data := #[] }, .string { data := #[] }, .string { data := #[] }, .string { data := #[] }, .string { data := #[] }, .string { data := #[] }, .string { data := #[] }] 50)).below hb1 (by simp; omega)
  have hN := (Blk.new (w.alloc (.cells #[.string { data := #[] }, .string { data := #[] }, .string { data := #[] }, .string { data := #[] }, .string { data := #[] }, .string { data := #[] }, .string { data := #[] }, .string { data := #[] }] 50)) 50 #[.string { data := #[] }, .string { data := #[] }, .string { data := #[] }, .string { data := #[] }, .string { data := #[] }, .string { data := #[] }, .string { data := #[] }, .string { data := #[] }]).below hb1 (by simp)
  rw [size_alloc] at hN
  have hbw1 : Below w.heap.size w w1 := (((Below.refl _ _).alloc (Nat.le_refl _) _).alloc (by simp) _).trans (hb1.mono (by simp; omega))
  have egm : ((w.alloc (.cells #[.string { data := #[] }, .string { data := #[] }, .string { data := #[] }, .string { data := #[] }, .string { data := #[] }, .string { data := #[] }, .string { data := #[] }, .string { data := #[] }] 50)).alloc (.cells #[.string { data := #[] }, .string { data := #[] }, .string { data := #[] }, .string { data := #[] }, .string { data := #[] }, .string { data := #[] }, .string { data := #[] }, .string { data := #[] }] 50)).heap.size = w.heap.size + 2 := by simp
  rw [egm] at hM ⊢
  have ht1 := ht.on hB hbw1
  have hs1 := hM.lt
  clear hb1 egm
  rw [zero8] at hA hN
  go_wp2_with (at_range; refine wpList_range_own _ rfl _ 54 rfl 9 3 law Tryd.underlying54 (plainElem Tryd.prog 3) (w.heap.size + 2) 8 attrD rfl hM ?_; intro w2 hrg2 hg2 hs2)
  go_frame
  have hA2 := hA.keep (hg2.block _ hA.lt (by simp))
  have hN2 := hN.keep (hg2.block _ hN.lt (by simp))
  have hbw2 : Below w.heap.size w w2 := hbw1.grown hg2 hbw1.size (fun j hj => by cases hj)
  have ht2 := ht.on hB hbw2
  obtain ⟨r, hr⟩ : ∃ r, w1.heap.size = r := ⟨_, rfl⟩
  rw [hr] at hrg2 hs1 ⊢
  clear hM hA hN hg2 hs2 hbw1 ht1 hr
  go_loopw [] (fun wr => ∃ (left : Lit → Bool) (cnt : Nat), wr.ranges Tryd.prog 9 (plainElem Tryd.prog 3) (w.heap.size + 2) r 8 attrD left cnt ∧ Blk wr w.heap.size 50 (strs (List.replicate 8 [])) ∧ Blk wr (w.heap.size + 1) 50 (strs (gath a left)) ∧ Tabs B wr ∧ Below w.heap.size w wr)
    (fun wr => wr.rangeLeft (w.heap.size + 2) r)
  case atStart => exact ⟨_, _, hrg2, hA2, by rw [gath_none a _ has_words]; exact hN2, ht2, hbw2⟩
  case round =>
    obtain ⟨left, cnt, hrg, hA, hN, htr, hb⟩ := hrel
    clear hrg2 hA2 hN2 ht2 hbw2
    go_wp2_with (at_next; refine wpList_next_ranges _ rfl _ rfl 9 law (plainElem Tryd.prog 3) Value.string (Value.int .i64) (fun key kl hk => by obtain ⟨s, hs, _⟩ := WideMaps.string_of_keyOf Tryd.underlying9 hk; exact ⟨s, hs⟩) (fun v y hv => by obtain ⟨c, hc, _⟩ := plainElem_int_inv Tryd.underlying3 hv; exact ⟨c, hc⟩) (w.heap.size + 2) r 8 attrD left cnt rfl hrg ?_ ?_)
    · intro _ hl0
      have hN3 := hN
      rw [gath_all a left hl0] at hN3
      have HS := strs_size (ordered a)
      have hlen : (ordered a).length = 8 := by simp [ordered]
      rw [hlen] at HS
      have h8 : (Tryd.prog.info? 50).map (·.size) = some (strs (ordered a)).size := by rw [HS]; exact size8
      have h1 := strs_one (ordered a)
      have hold : (strs (List.replicate 8 [])).size = (strs (ordered a)).size := by rw [HS]; rfl
      have H8 := Lib.hid h8
      have H1 := Lib.hid h1
      have HO := Lib.hid hold
      clear hN HS hlen h8 h1 hold
      obtain ⟨C, hC⟩ : ∃ C, strs (ordered a) = C := ⟨_, rfl⟩
      rw [hC] at H8 H1 HO hN3
      have HC := Lib.hid hC
      clear hC
      go_wp2_with (first
        | (refine wpList_load_row rfl 50 _ rfl (w.heap.size + 1) rfl _ _ _ _ hN3 Tryd.underlying50 rfl H8.out ?_)
        | (refine wpList_store_blk rfl 50 (.tmp 2) (.tmp 22) rfl w.heap.size C rfl rfl _ _ hA H8.out HO.out H1.out ?_; intro w9 hblk9 hb9))
      exact bodyPost_ret (v := .agg C) (results_cell (p := 2) (by kernel_rfl) _ w9 _ _ _ _ _ rfl hblk9 Tryd.underlying50 rfl H8.out) rfl ⟨by rw [HC.out], hb.trans (hb9 _ (Nat.le_refl _))⟩
    · intro x c kl y yp w3 cnt3 hkey hlk hv hat hrg3 hlt hg3 hs3 hen
      obtain ⟨i, hi, rfl, rfl, rfl⟩ := entry_is x c kl (y, yp) hkey hv hat
      have hrb := hrg.lt
      have hbs := hb.size
      have hA3 := hA.keep (hg3.block _ hA.lt (by simp; omega))
      have hN3 := hN.keep (hg3.block _ hN.lt (by simp; omega))
      have hb3 : Below w.heap.size w w3 := hb.grown hg3 (by omega) (fun j hj => by cases hj; omega)
      have ht3 := ht.on hB hb3
      have hz := fun w h => zeros_any i hi w h (B := B)
      have hzr := hz w3 ht3
      have hbit := bit_on i hi a ha
      have hp : 2 ^ i ≤ 128 := by
        have : (2 : Nat) ^ i ≤ 2 ^ 7 := Nat.pow_le_pow_right (by omega) (by omega)
        simpa using this
      have hb0 : (0 : Int) ≤ ((2 ^ i : Nat) : Int) := Int.natCast_nonneg _
      have hb1 : ((2 ^ i : Nat) : Int) ≤ 128 := by exact_mod_cast hp
      have hgl := gath_len a left
      have hci := strs_get (gath a left) i _ (List.getElem?_eq_getElem (by omega))
      rw [← hN3.cell i] at hci
      have hfi := hN3.frozen i
      have hset := hN3.set_ i (.string (bs (words.getD i [])))
      rw [strs_set] at hset
      have hsetA := hA3.far (p := ⟨w.heap.size + 1, i, none⟩) (by simp) (.string (bs (words.getD i [])))
      have hgset : w3.grownBy (w3.setCell ⟨w.heap.size + 1, i, none⟩ (.string (bs (words.getD i [])))) (some (w.heap.size + 1)) := ⟨rfl, rfl, rfl, by simp [World.setCell], fun k hk hne => Below.heap_setCell _ _ _ _ (fun e => hne (by rw [e]))⟩
      have hrg4 := hrg3.kept hgset (by simp) (by simp; omega)
      have hb4 := hb3.setCell (p := ⟨w.heap.size + 1, i, none⟩) (by simp) (.string (bs (words.getD i [])))
      have ht4 := ht.on hB hb4
      have HON := fun h => Lib.hid (gath_on a left i hi h)
      have HOFF := fun h => Lib.hid (gath_off a left i h)
      clear hkey hv hat hlk hz hp hgset
      generalize ((2 ^ i : Nat) : Int) = bit at *
      cases ho : onN a i
      · have HG := HOFF ho
        rw [ho] at hbit
        clear HON HOFF ho
        go_wp2
        go_roundw
        case rel => exact ⟨_, cnt3, hrg3, hA3, by rw [HG.out]; exact hN3, ht3, hb3⟩
        case measure => rw [hrg3.left_eq, hrg.left_eq]; exact hlt
      · have HG := HON ho
        rw [ho] at hbit
        clear HON HOFF ho
        generalize words.getD i [] = wd at *
        go_wp2_with (go_at_call 62; refine hzr.mono ?_; rintro e w4 ⟨rfl, rfl⟩)
        go_roundw
        case rel => exact ⟨_, cnt3, hrg4, hsetA, by rw [HG.out]; exact hset, ht4, hb4⟩
        case measure => rw [hrg4.left_eq, hrg.left_eq]; exact hlt
end Go.Proofs.YtajnlbfhcbkopaaDoor.Sty
