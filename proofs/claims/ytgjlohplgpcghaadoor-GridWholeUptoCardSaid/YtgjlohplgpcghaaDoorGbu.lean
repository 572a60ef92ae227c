/- A builder of texts: a letter of seven bits written to it. -/
import Derived.Test.YtgjlohplgpcghaaDoorGdn
import Derived.Test.YtgjlohplgpcghaaDoorShelf
namespace Go.Proofs.YtgjlohplgpcghaaDoor.Grd
open Go.RowKit

set_option maxRecDepth 100000 in
set_option maxHeartbeats 1000000 in
theorem copyCheck_any (B b : Nat) (bs : List Value) (w : World) (h : Lib.IsBuilder 94 5 B b bs w) :
    Calls Tryd.prog 69 #[.pointer (some ⟨b, 0, none⟩)] w fun e w' => e = .returned (.tuple #[]) ∧ Lib.BuilderAt 94 5 B b (.pointer (some ⟨b, 0, none⟩)) bs w' ∧ Below B w w' := by
  have hsz : (Tryd.prog.info? 94).map (·.size) = some 2 := by kernel_rfl
  obtain ⟨j, hj, hjs⟩ := Option.map_eq_some_iff.1 hsz
  rcases h with h | h
  · have hc := h.cell0
    have hf := h.frozen0
    have hsh := h.shape
    have hu := h.used (.pointer (some ⟨b, 0, none⟩))
    have hb : Below B w (w.setCell ⟨b, 0, none⟩ (.pointer (some ⟨b, 0, none⟩))) := (Below.refl B w).setCell (p := ⟨b, 0, none⟩) h.1 _
    go_enter Tryd.func69, Tryd.ntmps69
    go_wp2
    rw [Lib.run_to_unsafe w ⟨b, 0, none⟩ Tryd.underlying91 Tryd.underlying130 hj (by rw [hjs]; decide) hsh (Nat.zero_lt_succ 1)]
    simp only [Result.andThen]
    rw [Oper.upon_value]
    go_wp2
    rw [run_callFunc_extern Tryd.func81 (by kernel_rfl) (by kernel_rfl) (by kernel_rfl) (e := Extern.AbiNoEscape.same) (by kernel_rfl), Lib.run_noEscape]
    simp only [Result.andThen]
    rw [Oper.upon_value]
    go_wp2
    rw [Lib.run_from_unsafe w ⟨b, 0, none⟩ Tryd.underlying130 Tryd.underlying91 hj hsh (by kernel_rfl)]
    simp only [Result.andThen]
    rw [Oper.upon_value]
    go_wp2
    exact body_end rfl rfl ⟨rfl, hu, hb⟩
  · have hc := h.cell0
    have hne : ∀ W : World, (binOp .neq 91 (.pointer (some ⟨b, 0, none⟩)) (.pointer (some ⟨b, 0, none⟩))).run Tryd.prog W = .ok (.bool false) W := fun W => Lib.run_neq_ptr_same W _ Tryd.underlying91 hj
    go_enter Tryd.func69, Tryd.ntmps69
    go_wp2
    exact body_end rfl rfl ⟨rfl, h, Below.refl _ _⟩
theorem info_byte : (Tryd.prog.info? 5).map (fun i => (i.zero, i.size, i.bytes)) = some (some (.int .u8 0), 1, 1) := by kernel_rfl
set_option maxRecDepth 100000 in
set_option maxHeartbeats 1000000 in
theorem appendRune_ascii (B n : Nat) (v : Value) (xs : List Value) (r : Int) (hr0 : 0 ≤ r) (hr1 : r < 128) (w : World) (hown : w.ownsRow B 5 1 v n xs) (hn : n ≤ 1000000) (hB : B ≤ w.heap.size) :
    Calls Tryd.prog 70 #[v, .int .i32 r] w fun e w' => ∃ v', e = .returned v' ∧ w'.ownsRow B 5 1 v' (n + 1) (xs ++ [.int .u8 r]) ∧ (∀ k, k < w.heap.size → v.ownBlock ≠ some k → w'.heap[k]? = w.heap[k]?) ∧ Below B w w' := by
  have j1 : IntKind.u32.wrap r = r := IntWalk.u32_in _ ⟨by omega, by omega⟩
  have j2 : IntKind.u8.wrap r = r := IntWalk.u8_in _ ⟨by omega, by omega⟩
  have hi := info_byte
  cases hq : Tryd.prog.info? 5 with
  | none => rw [hq] at hi; cases hi
  | some i =>
    rw [hq] at hi
    simp only [Option.map_some, Option.some.injEq, Prod.mk.injEq] at hi
    obtain ⟨hz, hsz, hby⟩ := hi
    have hob := hown.alloc (.cells #[.int .u8 r] 5)
    have hmx : maxLen = 9223372036854775807 := rfl
    go_enter Tryd.func70, Tryd.ntmps70
    go_wp2_with (at_builtin; refine wpList_append_own _ rfl (.tmp 8) (.tmp 11) 92 rfl B 5 i (.int .u8 0) 1 1 Tryd.underlying92 hq hz hsz hby rfl (by decide) v n xs rfl hob ⟨w.heap.size, 0, none⟩ 1 1 [.int .u8 r] rfl (by rfl) (by intro j u hj; match j, hj with | 0, hj => (simp at hj; subst hj; simp [Addr.add])) (by intro u hu; simp at hu; subst hu; rfl) (by omega) (by omega) (by simp; omega) ?_; intro v' w2 hown' hgr _)
    go_ret
    refine ⟨v', rfl, hown', fun k hk hne => ?_, ((Below.refl B w).alloc hB _).grown hgr (by simp; omega) (fun k hk => (hown.lt k hk).1)⟩
    rw [hgr.block k (by simp; omega) (fun e => hne e.symm)]
    exact Below.heap_alloc w _ k hk
set_option maxRecDepth 100000 in
set_option maxHeartbeats 1000000 in
theorem writeRune_ascii (B b : Nat) (bs : List Value) (r : Int) (hr0 : 0 ≤ r) (hr1 : r < 128) (w : World) (h : Lib.IsBuilder 94 5 B b bs w) (hn : bs.length ≤ 1000000) (hB : B ≤ w.heap.size) :
    Calls Tryd.prog 55 #[.pointer (some ⟨b, 0, none⟩), .int .i32 r] w fun e w' => (∃ k : Int, e = .returned (.tuple #[.int .i64 k, .nilIface])) ∧ Lib.IsBuilder 94 5 B b (bs ++ [.int .u8 r]) w' ∧ Below B w w' := by
  have hcc := copyCheck_any B b bs w h
  clear h
  go_enter Tryd.func55, Tryd.ntmps55
  go_wp2_with fail
  refine hcc.mono ?_
  rintro _ w1 ⟨rfl, h1, hb1⟩
  obtain ⟨hBb, v, hbk, hown, hne⟩ := h1
  have c1 : w1.cell? ⟨b, 1, none⟩ = some v := by rw [Lib.cell_of_heap hbk]; rfl
  have hlen : ∀ W : World, ∃ ao cap, v = .slice ao bs.length cap := fun _ => by
    rcases hown.2 with ⟨hv, h0⟩ | ⟨g, cap, cur, hv, _⟩
    · exact ⟨none, 0, by rw [hv, h0]⟩
    · exact ⟨_, _, hv⟩
  obtain ⟨ao, cap, hv⟩ := hlen w1
  have hblt : b < w1.heap.size := by
    rcases Nat.lt_or_ge b w1.heap.size with h' | h'
    · exact h'
    · simp [Array.getElem?_eq_none h'] at hbk
  have har := appendRune_ascii B bs.length v bs r hr0 hr1 w1 hown hn (by have := hb1.size; omega)
  subst hv
  go_wp2_with fail
  refine har.mono ?_
  rintro _ w2 ⟨v2, rfl, hown2, hkeep, hb2⟩
  have hbk2 := (hkeep b hblt hne).trans hbk
  have d1 : w2.cell? ⟨b, 1, none⟩ = some (.slice ao bs.length cap) := by rw [Lib.cell_of_heap hbk2]; rfl
  have f1 : w2.frozen? ⟨b, 1, none⟩ = false := Lib.frozen_of_heap hbk2 1
  obtain ⟨g, cap2, rfl⟩ : ∃ g cap2, v2 = .slice (some ⟨g, 0, none⟩) (bs.length + 1) cap2 := by
    rcases hown2.2 with ⟨_, h0⟩ | ⟨g, cap, cur, hv, _⟩
    · omega
    · exact ⟨g, cap, hv⟩
  go_wp2_with fail
  go_ret2
  refine ⟨⟨_, rfl⟩, .inr ?_, ?_⟩
  · exact Lib.BuilderAt.put (T := 94) (e := 5) hBb hbk2 (bs' := bs ++ [.int .u8 r]) (by simpa using hown2) (by decide)
  · exact (hb1.trans hb2).setCell (p := ⟨b, 1, none⟩) hBb _
end Go.Proofs.YtgjlohplgpcghaaDoor.Grd
/- A row's text, where its runes have seven bits. -/
namespace Go.Proofs.YtgjlohplgpcghaaDoor.Grd
open Go.RowKit

/-- The letters of cells, paddings left out. -/
def lettersL (l : List Ce) : List UInt8 := (l.filter fun c => c.2.1 != 0).map fun c => UInt8.ofNat c.1.toNat
theorem letters_snoc (l : List Ce) {k : Nat} (h : k < l.length) : lettersL (l.take (k + 1)) = if l[k].2.1 = 0 then lettersL (l.take k) else lettersL (l.take k) ++ [UInt8.ofNat l[k].1.toNat] := by
  unfold lettersL
  rw [List.take_succ_eq_append_getElem h, List.filter_append, List.map_append]
  by_cases h0 : l[k].2.1 = 0
  · rw [if_pos h0]; simp [h0]
  · rw [if_neg h0]; simp [h0]
theorem letters_len (l : List Ce) : (lettersL l).length ≤ l.length := by
  unfold lettersL
  rw [List.length_map]
  exact List.length_filter_le _ _
theorem builder_below {B b : Nat} {bs : List Value} {w w' : World} (h : Lib.IsBuilder 94 5 B b bs w) (hb : Below w.heap.size w w') : Lib.IsBuilder 94 5 B b bs w' := by
  have one : ∀ p, Lib.BuilderAt 94 5 B b p bs w → Lib.BuilderAt 94 5 B b p bs w' := fun p hp => by
    have hlt := hp.lt
    obtain ⟨h1, v, h2, h3, h4⟩ := hp
    refine ⟨h1, v, (hb.block b hlt).trans h2, ⟨h3.1, ?_⟩, h4⟩
    rcases h3.2 with e | ⟨g, cap, cur, e1, e2, e3, e4⟩
    · exact .inl e
    · refine .inr ⟨g, cap, cur, e1, e2, (hb.block g ?_).trans e3, e4⟩
      rcases Nat.lt_or_ge g w.heap.size with h' | h'
      · exact h'
      · rw [Array.getElem?_eq_none h'] at e3; cases e3
  exact h.imp (one _) (one _)
set_option maxRecDepth 100000 in
set_option maxHeartbeats 1000000 in
theorem text_of {w : World} {g : Nat} {y : Int} {m : MR} (h : ∀ w', Below w.heap.size w w' → RowIs w' g y m) (hm : CellsAt w m.b m.l m.cap) (hl : m.l.length ≤ 100000) (ha : ∀ c ∈ m.l, c.2.1 ≠ 0 → 0 ≤ c.1 ∧ c.1 < 128) :
    Calls Tryd.prog 33 #[.pointer (some ⟨g, 0, none⟩), .int .i64 y] w fun e w' => e = .returned (.string ⟨(Lib.trimRightB (lettersL m.l) 32).toArray⟩) ∧ Below w.heap.size w w' := by
  have hb0 : Below w.heap.size w (w.alloc (.cells #[.pointer none, .slice none 0 0] 94)) := (Below.refl _ _).alloc (Nat.le_refl _) _
  have h1 := h _ hb0
  have hBu : Lib.IsBuilder 94 5 w.heap.size w.heap.size [] (w.alloc (.cells #[.pointer none, .slice none 0 0] 94)) := .inl ⟨Nat.le_refl _, .slice none 0 0, heap_alloc_new w _, World.ownsRow_nil _ _ _ _, by simp [Value.ownBlock]⟩
  unfold RowIs rowV at h1
  have fd0 := field_cells (.slice (some ⟨m.b, 0, none⟩) m.l.length m.cap) (.bool m.wr)
  have hmb := hm.lt
  have hs0 := hb0.size
  obtain ⟨n, hn⟩ : ∃ n, m.l.length = n := ⟨_, rfl⟩
  have HN := Lib.hid hn
  rw [hn] at h1 fd0 hl
  clear h hn
  go_enter Tryd.func33, Tryd.ntmps33
  go_wp2_with (go_at_call 49; refine h1.mono ?_; rintro _ w1 ⟨rfl, hb1⟩; have hw1 := hb0.trans (hb1.mono hs0))
  have hB1 := builder_below hBu hb1
  have hm1 := hm.only (F := []) (Only.of_below hw1) (by simp)
  have hs1 := hb1.size
  clear hBu hb1 h1 hb0
  go_loopw [7, 13] (fun _ i wr => ∃ k : Nat, k ≤ n ∧ i = .int .i64 (k : Int) ∧ Lib.IsBuilder 94 5 w.heap.size w.heap.size (Lib.byteCells (lettersL (m.l.take k))) wr ∧ CellsAt wr m.b m.l m.cap ∧ Below w.heap.size w wr) (fun _ i _ => n - (intOf i).toNat)
  case atStart => exact ⟨0, Nat.zero_le _, rfl, hB1, hm1, hw1⟩
  case round =>
    obtain ⟨k, hk, rfl, hBu, hmr, hb⟩ := hrel
    clear hB1 hm1 hw1
    have hbs := hb.size
    by_cases hlt : k < n
    · have hkl : k < m.l.length := by have := HN.out; omega
      have hsn := letters_snoc m.l hkl
      have hac := ha m.l[k] (List.getElem_mem hkl)
      have hll := letters_len (m.l.take k)
      rw [List.length_take] at hll
      obtain ⟨⟨r, wd, s1, s2, s3⟩, hq⟩ : ∃ q, m.l[k] = q := ⟨_, rfl⟩
      rw [hq] at hsn hac
      simp only at hsn hac
      have HSN := Lib.hid hsn
      have hA := BL.new wr 35 [.int .i32 r, .int .i64 wd, .int .i64 s1, .int .i64 s2, .int .i64 s3]
      have hbA : Below wr.heap.size wr (wr.alloc (.cells #[.int .i32 r, .int .i64 wd, .int .i64 s1, .int .i64 s2, .int .i64 s3] 35)) := (Below.refl _ _).alloc (Nat.le_refl _) _
      have hBA := builder_below hBu hbA
      have hmA := hmr.alloc (.cells #[.int .i32 r, .int .i64 wd, .int .i64 s1, .int .i64 s2, .int .i64 s3] 35)
      have hbw := hb.trans (hbA.mono hbs)
      have hsA : (wr.alloc (.cells #[.int .i32 r, .int .i64 wd, .int .i64 s1, .int .i64 s2, .int .i64 s3] 35)).heap.size = wr.heap.size + 1 := size_alloc _ _
      have HQ := Lib.hid hq
      clear hsn hq hBu
      by_cases h0 : wd = 0
      · subst h0
        have hip := fun W => isPadding_any r 0 s1 s2 s3 W
        rw [show ((0 : Int) == 0) = true from rfl] at hip
        go_wp2_with (first
          | (refine wpList_load_cell rfl (.tmp 15) rfl m.b (k * 5) k m.cap m.l rfl hmr hkl (by omega) ?_; rw [HQ.out])
          | (refine wpList_load_row rfl 35 _ rfl wr.heap.size rfl _ _ _ _ hA Tryd.underlying35 rfl (by kernel_rfl) ?_)
          | (go_at_call 54; refine (hip _).mono ?_; rintro _ w2 ⟨rfl, hb2⟩; have hB2 := builder_below hBA hb2; have hm2 := hmA.only (F := []) (Only.of_below hb2) (by simp); have hbw2 := hbw.trans (hb2.mono (by omega))))
        go_roundw
        case rel => exact ⟨k + 1, by omega, by go_num, by rw [HSN.out, if_pos trivial]; exact hB2, hm2, hbw2⟩
        case measure => simp [intOf]; omega
      · obtain ⟨hr0, hr1⟩ := hac h0
        have hip := fun W => isPadding_any r wd s1 s2 s3 W
        rw [show (wd == 0) = false by simpa using h0] at hip
        go_wp2_with (first
          | (refine wpList_load_cell rfl (.tmp 15) rfl m.b (k * 5) k m.cap m.l rfl hmr hkl (by omega) ?_; rw [HQ.out])
          | (refine wpList_load_row rfl 35 _ rfl wr.heap.size rfl _ _ _ _ hA Tryd.underlying35 rfl (by kernel_rfl) ?_)
          | (go_at_call 54; refine (hip _).mono ?_; rintro _ w2 ⟨rfl, hb2⟩; have hB2 := builder_below hBA hb2; have hm2 := hmA.only (F := []) (Only.of_below hb2) (by simp); have hbw2 := hbw.trans (hb2.mono (by omega)); have hA2 := hA.only (F := []) (Only.of_below hb2) (by simp); have a0 : w2.cell? ⟨wr.heap.size, 0, none⟩ = some (.int .i32 r) := hA2.cell 0)
          | (go_at_call 55; refine (writeRune_ascii w.heap.size w.heap.size _ r hr0 hr1 _ hB2 (by unfold Lib.byteCells; rw [List.length_map]; omega) hbw2.size).mono ?_; rintro _ w3 ⟨⟨kk, rfl⟩, hB3, hb3⟩))
        have hbw3 := hbw2.trans hb3
        have hby : Lib.byteCells (lettersL (m.l.take k) ++ [UInt8.ofNat r.toNat]) = Lib.byteCells (lettersL (m.l.take k)) ++ [.int .u8 r] := by
          unfold Lib.byteCells
          rw [List.map_append]
          have e : ((UInt8.ofNat r.toNat).toNat : Int) = r := by
            have : (UInt8.ofNat r.toNat).toNat = r.toNat % 256 := UInt8.toNat_ofNat
            omega
          show _ ++ [Value.int .u8 ((UInt8.ofNat r.toNat).toNat : Int)] = _
          rw [e]
        have hS2 := HSN.out
        rw [if_neg h0] at hS2
        go_roundw
        case rel => exact ⟨k + 1, by omega, by go_num, by rw [hS2, hby]; exact hB3, hm.only (F := []) (Only.of_below hbw3) (by simp), hbw3⟩
        case measure => simp [intOf]; omega
    · obtain rfl : k = n := by omega
      have e : lettersL (m.l.take k) = lettersL m.l := by rw [← HN.out, List.take_length]
      rw [e] at hBu
      have hll := letters_len m.l
      have hszl : (⟨(lettersL m.l).toArray⟩ : ByteArray).size ≤ 9223372036854775807 := by
        show (lettersL m.l).toArray.size ≤ _
        rw [List.size_toArray]
        have := HN.out
        omega
      clear e
      go_wp2_with (first
        | (go_at_call 57; refine (Tryd.Builder_String_any w.heap.size w.heap.size (lettersL m.l) _ hBu hbs).mono ?_; rintro _ w2 ⟨rfl, hb2⟩)
        | (go_at_call 56; refine (Tryd.strings_TrimRight_one ⟨(lettersL m.l).toArray⟩ 32 (by decide) _ hszl).mono ?_; rintro _ w3 ⟨rfl, rfl⟩))
      go_ret
      exact ⟨rfl, hb.trans hb2⟩
end Go.Proofs.YtgjlohplgpcghaaDoor.Grd
/- The law's own pick, letter and plain look; a number held within a size. -/
namespace Go.Proofs.YtgjlohplgpcghaaDoor.Grd
open Go.RowKit

def pickS (n m : Int) : Int := (if n < 0 then -(n + 1) else n) % m
theorem pickS_le (n m : Int) (hm : 0 < m) : 0 ≤ pickS n m ∧ pickS n m < m := ⟨Int.emod_nonneg _ (by omega), Int.emod_lt_of_pos _ hm⟩
set_option maxRecDepth 100000 in
theorem pick_any (n m : Int) (h0 : -9223372036854775808 ≤ n) (h1 : n ≤ 9223372036854775807) (hm0 : 0 < m) (hm1 : m ≤ 16777216) (w : World) :
    Calls Tryd.prog 10 #[.int .i64 n, .int .i64 m] w fun e w' => e = .returned (.int .i64 (pickS n m)) ∧ w = w' := by
  by_cases hn : n < 0
  · have HE : Hid (pickS n m = -((n + 1).tmod m)) := by show _ = _; unfold pickS; rw [if_pos hn, ← Int.neg_tmod, Int.tmod_eq_emod_of_nonneg (by omega)]
    have hmz : m ≠ 0 := by omega
    go_enter Tryd.func10, Tryd.ntmps10
    go_wp2_with fail
    go_ret
    exact ⟨by rw [HE.out]; rfl, rfl⟩
  · have HE : Hid (pickS n m = n % m) := by show _ = _; unfold pickS; rw [if_neg hn]
    have hmz : m ≠ 0 := by omega
    go_enter Tryd.func10, Tryd.ntmps10
    go_wp2_with fail
    go_ret
    exact ⟨by rw [HE.out]; rfl, rfl⟩
set_option maxRecDepth 100000 in
theorem refPlain_any (w : World) :
    Calls Tryd.prog 24 #[] w fun e w' => e = .returned (.agg #[.int .i64 (-1), .int .i64 (-1), .int .i64 0]) ∧ Below w.heap.size w w' := by
  go_enter Tryd.func24, Tryd.ntmps24
  go_wp2
  exact bodyPost_ret (v := .agg #[.int .i64 (-1), .int .i64 (-1), .int .i64 0]) (by simp [results, Tryd.results24, go_sem]) rfl ⟨rfl, (Below.refl _ _).alloc (Nat.le_refl _) _⟩
set_option maxRecDepth 100000 in
theorem letter_any (r wd : Int) (w : World) :
    Calls Tryd.prog 25 #[.int .i32 r, .int .i64 wd] w fun e w' => e = .returned (.agg #[.int .i32 r, .int .i64 wd, .int .i64 (-1), .int .i64 (-1), .int .i64 0]) ∧ Below w.heap.size w w' := by
  have hZ := BL.new w 35 [.int .i32 0, .int .i64 0, .int .i64 0, .int .i64 0, .int .i64 0]
  have hb0 : Below w.heap.size w (w.alloc (.cells #[.int .i32 0, .int .i64 0, .int .i64 0, .int .i64 0, .int .i64 0] 35)) := (Below.refl _ _).alloc (Nat.le_refl _) _
  have hs0 := hb0.size
  go_enter Tryd.func25, Tryd.ntmps25
  go_wp2_with (first
    | (go_at_call 24; refine (refPlain_any _).mono ?_; rintro _ w1 ⟨rfl, hb1⟩; have hZ1 := hZ.only (F := []) (Only.of_below hb1) (by simp); have hw1 := hb0.trans (hb1.mono hs0))
    | (refine wpList_store_bl rfl 35 (.tmp 4) (.tmp 8) rfl w.heap.size 0 [.int .i32 r, .int .i64 wd, .int .i64 (-1), .int .i64 (-1), .int .i64 0] rfl rfl _ _ hZ1 (by kernel_rfl) (by simp) (by kernel_rfl) ?_; intro w3 hZ3 hw3))
  exact bodyPost_ret (v := .agg #[.int .i32 r, .int .i64 wd, .int .i64 (-1), .int .i64 (-1), .int .i64 0]) (results_cell (p := 4) (by kernel_rfl) _ w3 w.heap.size _ _ _ _ rfl hZ3 Tryd.underlying35 rfl (by kernel_rfl)) rfl ⟨rfl, hw1.trans (hw3.only.below (by have := hw1.size; omega) (by simp))⟩
set_option maxRecDepth 100000 in
theorem within_any (n size : Nat) (hn : n < size) (hs : size ≤ 1000000) (w : World) :
    Calls Tryd.prog 45 #[.int .i64 (n : Int), .int .i64 (size : Int)] w fun e w' => e = .returned (.int .i64 (n : Int)) ∧ w = w' := by
  have i1 : (n : Int) ≤ (size : Int) - 1 := by omega
  have i2 : (0 : Int) ≤ (n : Int) := Int.natCast_nonneg _
  go_enter Tryd.func45, Tryd.ntmps45
  go_wp2
  all_goals
    go_ret
    exact ⟨congrArg Ending.returned (congrArg (Value.int .i64) (by omega)), rfl⟩
end Go.Proofs.YtgjlohplgpcghaaDoor.Grd
