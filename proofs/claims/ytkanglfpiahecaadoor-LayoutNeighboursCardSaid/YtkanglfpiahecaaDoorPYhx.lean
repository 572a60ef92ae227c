/- Numbers as texts: the library's tables, decimal, and base 16. -/
import Derived.Test.YtkanglfpiahecaaDoorPYrm
import Derived.Test.YtkanglfpiahecaaDoorPShelf
import Derived.Lib.AppendIntMem
import Derived.Laws.BitsLemmas
import Derived.Laws.Bits64
import Derived.Lib.ItoaLen
namespace Go.Proofs.YtkanglfpiahecaaDoor.Lyt
open Go.RowKit

abbrev Tx := List UInt8
/-- A list of bytes as a text. -/
def bs (l : Tx) : ByteArray := ⟨l.toArray⟩
theorem bs_app (a b : Tx) : bs a ++ bs b = bs (a ++ b) := by
  unfold bs
  exact ByteArray.ext (by simp)
theorem bs_list (l : Tx) : (bs l).data.toList = l := by simp [bs]
theorem bs_size (l : Tx) : (bs l).size = l.length := by show (bs l).data.size = _; rw [← Array.length_toList, bs_list]
theorem bs_of (s : ByteArray) : s = bs s.data.toList := by cases s; simp [bs]
theorem bs_inj {a b : Tx} (h : bs a = bs b) : a = b := by rw [← bs_list a, h, bs_list]
def dbl : List Nat := [0, 1, 56, 2, 57, 49, 28, 3, 61, 58, 42, 50, 38, 29, 17, 4, 62, 47, 59, 36, 45, 43, 51, 22, 53, 39, 33, 30, 24, 18, 12, 5, 63, 55, 48, 27, 60, 41, 37, 16, 46, 35, 44, 21, 52, 32, 23, 11, 54, 26, 40, 15, 34, 20, 31, 10, 25, 14, 19, 9, 13, 8, 7, 6]
def dbCells : Array Value := (dbl.map fun k => Value.int .u8 ((k : Nat) : Int)).toArray
def u10Cells : Array Value := (Lib.pow10Tab.map fun z => Value.int .u64 z).toArray
/-- The library's two tables lie below block B. -/
structure Tab (B : Nat) (w : World) : Prop where
  low : 0 < B ∧ 3 < B
  u10 : ∃ t fr, w.heap[0]? = some (.cells u10Cells t fr)
  db : ∃ t fr, w.heap[3]? = some (.cells dbCells t fr)
theorem Tab.below {B : Nat} {w w' : World} (h : Tab B w) (hb : Below B w w') : Tab B w' := by
  obtain ⟨l, ⟨t2, f2, h2⟩, ⟨t3, f3, h3⟩⟩ := h
  exact ⟨l, ⟨t2, f2, (hb.block _ l.1).trans h2⟩, ⟨t3, f3, (hb.block _ l.2).trans h3⟩⟩
theorem Tab.on {B : Nat} {w w' : World} (h : Tab B w) (hB : B ≤ w.heap.size) (hb : Below w.heap.size w w') : Tab B w' := h.below (hb.mono hB)
theorem gU10 : Tryd.prog.globalNamed "internal/strconv.uint64pow10" = some 0 := by kernel_rfl
theorem Tab.tabIs {B : Nat} {w : World} (h : Tab B w) : Lib.TabIs Tryd.prog w "internal/strconv.uint64pow10" .u64 Lib.pow10Tab := by
  obtain ⟨t, fr, h2⟩ := h.u10
  unfold Lib.TabIs World.var?
  rw [gU10]
  simp only [Option.bind_some, h2]
  rfl
theorem itoa_at {B : Nat} (n : Int) (h0 : -9223372036854775808 ≤ n) (h1 : n ≤ 9223372036854775807) (w : World) (ht : Tab B w) :
    Calls Tryd.prog 45 #[.int .i64 n] w fun e w' => e = .returned (.string (bs (Lib.itoa n))) ∧ Below w.heap.size w w' :=
  (Tryd.strconv_Itoa n h0 h1 w ht.tabIs).mono fun e w' ⟨he, k, os, hw⟩ => ⟨he, by rw [hw]; exact Lib.below_grow _ _ (Nat.le_refl _) _ _⟩
theorem zeros_4 {B : Nat} (w : World) (ht : Tab B w) :
    Calls Tryd.prog 87 #[.int .u64 16] w fun e w' => e = .returned (.int .i64 4) ∧ w = w' := by
  obtain ⟨t, fr, h1⟩ := ht.db
  have hc : w.cell? ⟨3, 15, none⟩ = some (.int .u8 4) := cell_of_row w _ 15 _ t fr h1
  clear h1 ht
  have b0 : IntKind.u64.wrap (-16) = 18446744073709551600 := by kernel_rfl
  have b1 : bits .and .u64 16 18446744073709551600 = 16 := by kernel_rfl
  have b2 : IntKind.u64.wrap 4573923408821661840 = 4573923408821661840 := by kernel_rfl
  go_enter Tryd.func87, Tryd.ntmps87
  go_wp2
  go_ret
  exact ⟨rfl, rfl⟩
/-- A block that is just these cells. -/
def Blk (w : World) (g : Nat) (t : TypeId) (cs : Array Value) : Prop := w.heap[g]? = some (.cells cs t (0, 0))
section
variable {w w' : World} {g : Nat} {t : TypeId} {cs : Array Value}
theorem Blk.lt (h : Blk w g t cs) : g < w.heap.size := by
  rcases Nat.lt_or_ge g w.heap.size with hlt | hge
  · exact hlt
  · unfold Blk at h; rw [Array.getElem?_eq_none hge] at h; cases h
theorem Blk.cell (h : Blk w g t cs) (i : Nat) : w.cell? ⟨g, i, none⟩ = cs[i]? := cell_of_row w g i cs t (0, 0) h
theorem Blk.frozen (h : Blk w g t cs) (i : Nat) : w.frozen? ⟨g, i, none⟩ = false := by
  unfold Blk at h
  simp [World.frozen?, h]
theorem Blk.new (w : World) (t : TypeId) (cs : Array Value) : Blk (w.alloc (.cells cs t)) w.heap.size t cs := heap_alloc_new w _
theorem Blk.alloc (h : Blk w g t cs) (o : Obj) : Blk (w.alloc o) g t cs := (Below.heap_alloc w o g h.lt).trans h
theorem Blk.set_ (h : Blk w g t cs) (i : Nat) (u : Value) : Blk (w.setCell ⟨g, i, none⟩ u) g t (cs.setIfInBounds i u) := by
  unfold Blk at h ⊢
  simp [World.setCell, Array.getElem?_modify, h]
theorem Blk.far (h : Blk w g t cs) {p : Addr} (hp : g ≠ p.block) (u : Value) : Blk (w.setCell p u) g t cs := (Below.heap_setCell w p u g hp).trans h
theorem Blk.below {B : Nat} (h : Blk w g t cs) (hb : Below B w w') (hg : g < B) : Blk w' g t cs := (hb.block g hg).trans h
end
/-- One digit to the base 16. -/
def hx (d : Nat) : UInt8 := UInt8.ofNat (if d < 10 then 48 + d else 87 + d)
/-- The k lowest digits to the base 16, the highest ahead. -/
def hexk : Nat → Nat → Tx
  | 0, _ => []
  | k + 1, n => hx (n / 16 ^ k % 16) :: hexk k n
theorem hexk_length (k n : Nat) : (hexk k n).length = k := by induction k with | zero => rfl | succ k ih => simp [hexk, ih]
/-- A number's digits to the base 16. -/
def hexT (n : Nat) : Tx := if n < 16 then hexk 1 n else if n < 256 then hexk 2 n else if n < 4096 then hexk 3 n else hexk 4 n
theorem hexT_len (n : Nat) : 1 ≤ (hexT n).length ∧ (hexT n).length ≤ 4 := by
  unfold hexT
  repeat' split
  all_goals rw [hexk_length]; omega
abbrev lits : ByteArray := { data := #[48, 49, 50, 51, 52, 53, 54, 55, 56, 57, 97, 98, 99, 100, 101, 102, 103, 104, 105, 106, 107, 108, 109, 110, 111, 112, 113, 114, 115, 116, 117, 118, 119, 120, 121, 122] }
theorem lits_at (d : Nat) (hd : d < 16) (h : d < lits.size) : (lits[d]'h).toNat = (hx d).toNat := by
  have : ∀ d, d < 16 → ∀ h : d < lits.size, (lits[d]'h).toNat = (hx d).toNat := by decide
  exact this d hd h
theorem u64_small (n : Int) (h₀ : 0 ≤ n) (h₁ : n < 2 ^ 63) : IntKind.u64.wrap n = n := by rw [IntKind.wrap_u64]; omega
theorem low4 (x : Nat) (h : x < 16777216) : bits .and .u64 (x : Int) 15 = ((x % 16 : Nat) : Int) := by
  have h := bits_mask .u64 63 (by decide) u64_small 4 (by decide) (x : Int) (by omega) (by omega)
  have e : ((2 : Int) ^ 4 - 1) = 15 := by decide
  have e2 : ((2 : Int) ^ 4) = 16 := by decide
  rw [e, e2] at h
  rw [h]
  omega

/-- The array behind j digits. -/
def hexCells (j n : Nat) : Array Value := (List.replicate (65 - j) (Value.int .u8 0) ++ (hexk j n).map fun b => Value.int .u8 (b.toNat : Int)).toArray
theorem hexCells_size (j n : Nat) (hj : j ≤ 65) : (hexCells j n).size = 65 := by
  simp [hexCells, hexk_length]; omega
theorem hexCells_step (j n : Nat) (hj : j < 65) : (hexCells j n).setIfInBounds (64 - j) (.int .u8 ((hx (n / 16 ^ j % 16)).toNat : Int)) = hexCells (j + 1) n := by
  unfold hexCells
  obtain ⟨m, hm⟩ : ∃ m, 65 - j = m + 1 := ⟨64 - j, by omega⟩
  have e1 : 64 - j = m := by omega
  have e2 : 65 - (j + 1) = m := by omega
  rw [hm, e1, e2, hexk, List.replicate_succ']
  rw [List.setIfInBounds_toArray]
  congr 1
  rw [List.append_assoc, List.set_append_right _ _ (by simp)]
  simp
theorem hexCells_get (j n i : Nat) (x : UInt8) (hx : (hexk j n)[i]? = some x) : (hexCells j n)[65 - j + i]? = some (.int .u8 (x.toNat : Int)) := by
  unfold hexCells
  rw [List.getElem?_toArray, List.getElem?_append_right (by simp)]
  simp [hx]
theorem pow_div (n j : Nat) : n / 16 ^ j / 16 = n / 16 ^ (j + 1) := by rw [Nat.div_div_eq_div_mul, Nat.pow_succ]
theorem pos16 (w : World) : Calls Tryd.prog 86 #[.int .i64 16] w fun e w' => e = .returned (.bool true) ∧ w = w' := by
  have b1 : bits .and .i64 16 15 = 0 := by kernel_rfl
  go_enter Tryd.func86, Tryd.ntmps86
  go_wp2
  go_ret
  exact ⟨rfl, rfl⟩

set_option maxRecDepth 100000 in
set_option maxHeartbeats 800000 in
theorem formatBits_16 {B : Nat} (n : Nat) (hn : n < 16777216) (w : World) (ht : Tab B w) (hB : B ≤ w.heap.size) :
    Calls Tryd.prog 79 #[.slice none 0 0, .int .u64 n, .int .i64 16, .bool false, .bool false] w fun e w' =>
      (∃ j, j < 6 ∧ n / 16 ^ j < 16 ∧ (∀ i, i < j → 16 ≤ n / 16 ^ i) ∧ e = .returned (.tuple #[.slice none 0 0, .string (bs (hexk (j + 1) n))])) ∧ Below w.heap.size w w' := by
  go_enter Tryd.func79, Tryd.ntmps79
  go_wp2_with (first
    | (go_at_call 86; refine (pos16 _).mono ?_; rintro e w' ⟨rfl, rfl⟩)
    | (go_at_call 87; refine (zeros_4 _ (ht.on hB ((Below.refl _ _).alloc (Nat.le_refl _) _))).mono ?_; rintro e w' ⟨rfl, rfl⟩))
  go_loopw [1, 13] (fun u i wr => ∃ j m : Nat, j < 6 ∧ m + 1 + j = 65 ∧ u = .int .u64 ((n / 16 ^ j : Nat) : Int) ∧ i = .int .i64 ((m : Int) + 1) ∧ n / 16 ^ j < 16 ^ (6 - j) ∧ Hid (∀ i, i < j → 16 ≤ n / 16 ^ i) ∧ Blk wr w.heap.size 123 (hexCells j n) ∧ Below w.heap.size w wr) (fun u _ _ => (intOf u).toNat)
  case atStart => exact ⟨0, 64, by omega, by omega, by simp, rfl, by simpa using hn, Lib.hid (fun i hi => absurd hi (Nat.not_lt_zero i)), Blk.new w _ _, (Below.refl _ _).alloc (Nat.le_refl _) _⟩
  case round =>
    obtain ⟨j, m, hj, hm, rfl, rfl, hlt, hmin, hblk, hb⟩ := hrel
    have hbs := hb.size
    have hlt2 := hblk.lt
    have hstep := hexCells_step j n (by omega)
    have e64 : 64 - j = m := by omega
    rw [e64] at hstep
    have hle : n / 16 ^ j < 16777216 := Nat.lt_of_le_of_lt (Nat.div_le_self _ _) hn
    have hpd := pow_div n j
    have hc0 : wr.cell? ⟨w.heap.size, m, none⟩ = some ((hexCells j n)[m]'(by rw [hexCells_size _ _ (by omega)]; omega)) := by rw [hblk.cell m]; exact Array.getElem?_eq_getElem _
    have hf0 := hblk.frozen m
    have hset := hblk.set_ m (.int .u8 ((hx (n / 16 ^ j % 16)).toNat : Int))
    rw [hstep] at hset
    generalize hq : n / 16 ^ j = q at *
    generalize hq2 : n / 16 ^ (j + 1) = q2 at *
    have HQ := Lib.hid hq
    have HQ2 := Lib.hid hq2
    have HPD := Lib.hid hpd
    clear hq hq2 hpd hstep
    by_cases h16 : 16 ≤ q
    · have hl4 := low4 q hle
      have hix := lits_at (q % 16) (by omega) (Nat.lt_of_lt_of_le (Nat.mod_lt _ (by omega)) (by decide : 16 ≤ lits.size))
      go_wp2
      go_roundw
      case rel =>
        have hj5 : j = 0 ∨ j = 1 ∨ j = 2 ∨ j = 3 ∨ j = 4 ∨ j = 5 := by omega
        have hj1 : j + 1 < 6 ∧ q / 16 < 16 ^ (6 - (j + 1)) := by
          rcases hj5 with rfl | rfl | rfl | rfl | rfl | rfl <;> simp at hlt ⊢ <;> omega
        refine ⟨j + 1, m - 1, hj1.1, by omega, ?_, ?_, ?_, Lib.hid (fun i hi => ?_), hset, hb.setCell (by simp) _⟩
        · rw [HQ2.out, ← HPD.out]; go_num
        · go_num
        · rw [HQ2.out, ← HPD.out]; exact hj1.2
        · rcases Nat.lt_or_ge i j with h | h
          · exact hmin.out i h
          · obtain rfl : i = j := by omega
            rw [HQ.out]; exact h16
      case measure => simp [intOf]; omega
    · have hm16 : q % 16 = q := by omega
      have hix := lits_at q (by omega) (Nat.lt_of_lt_of_le (by omega : q < 16) (by decide : 16 ≤ lits.size))
      rw [hm16] at hset
      have hv : ∀ i (hi : i < (hexk (j + 1) n).length), (wr.setCell { block := w.heap.size, off := m } (Value.int IntKind.u8 ↑(hx q).toNat)).cell? (Addr.add ⟨w.heap.size, m, none⟩ i) = some (.int .u8 (((hexk (j + 1) n)[i]).toNat : Int)) := fun i hi => by
        have e2 : (⟨w.heap.size, m, none⟩ : Addr).add i = ⟨w.heap.size, m + i, none⟩ := by unfold Addr.add; split <;> simp_all
        rw [e2, hset.cell]
        have := hexCells_get (j + 1) n i _ (List.getElem?_eq_getElem hi)
        rwa [show 65 - (j + 1) + i = m + i by omega] at this
      have hcv := run_convert_bytes_back (P := Tryd.prog) _ 97 9 5 ⟨w.heap.size, m, none⟩ (65 - m) (hexk (j + 1) n) Tryd.underlying97 Tryd.underlying5 Tryd.underlying9 hv
      rw [hexk_length] at hcv
      clear hv hset
      have hq2 : n / 16 ^ j < 16 := by rw [HQ.out]; omega
      have hbb := hb.setCell (p := ⟨w.heap.size, m, none⟩) (by simp) (Value.int IntKind.u8 ↑(hx q).toNat)
      have HQ3 := Lib.hid hq2
      clear hq2
      have hj6 : j = 0 ∨ j = 1 ∨ j = 2 ∨ j = 3 ∨ j = 4 ∨ j = 5 := by omega
      rcases hj6 with rfl | rfl | rfl | rfl | rfl | rfl
      · obtain rfl : m = 64 := by omega
        go_wp2
        go_ret2
        exact ⟨⟨0, by omega, HQ3.out, hmin.out, rfl⟩, hbb⟩
      · obtain rfl : m = 63 := by omega
        go_wp2
        go_ret2
        exact ⟨⟨1, by omega, HQ3.out, hmin.out, rfl⟩, hbb⟩
      · obtain rfl : m = 62 := by omega
        go_wp2
        go_ret2
        exact ⟨⟨2, by omega, HQ3.out, hmin.out, rfl⟩, hbb⟩
      · obtain rfl : m = 61 := by omega
        go_wp2
        go_ret2
        exact ⟨⟨3, by omega, HQ3.out, hmin.out, rfl⟩, hbb⟩
      · obtain rfl : m = 60 := by omega
        go_wp2
        go_ret2
        exact ⟨⟨4, by omega, HQ3.out, hmin.out, rfl⟩, hbb⟩
      · obtain rfl : m = 59 := by omega
        go_wp2
        go_ret2
        exact ⟨⟨5, by omega, HQ3.out, hmin.out, rfl⟩, hbb⟩
set_option maxRecDepth 100000 in
set_option maxHeartbeats 800000 in
theorem hex_at {B : Nat} (n : Nat) (hn : n < 65536) (w : World) (ht : Tab B w) (hB : B ≤ w.heap.size) :
    Calls Tryd.prog 49 #[.int .i64 n, .int .i64 16] w fun e w' => e = .returned (.string (bs (hexT n))) ∧ Below w.heap.size w w' := by
  have hk : Calls Tryd.prog 79 #[.slice none 0 0, .int .u64 n, .int .i64 16, .bool false, .bool false] w fun e w' => e = .returned (.tuple #[.slice none 0 0, .string (bs (hexT n))]) ∧ Below w.heap.size w w' := (formatBits_16 n (by omega) w ht hB).mono (by
    rintro e w' ⟨⟨j, hj, h1, h2, rfl⟩, hb⟩
    refine ⟨?_, hb⟩
    have hj6 : j = 0 ∨ j = 1 ∨ j = 2 ∨ j = 3 ∨ j = 4 ∨ j = 5 := by omega
    have q0 := h2 0
    have q1 := h2 1
    have q2 := h2 2
    have q3 := h2 3
    rcases hj6 with rfl | rfl | rfl | rfl | rfl | rfl <;> simp at h1 q0 q1 q2 q3
    · unfold hexT; rw [if_pos h1]
    · unfold hexT; rw [if_neg (by omega), if_pos (by omega)]
    · unfold hexT; rw [if_neg (by omega), if_neg (by omega), if_pos (by omega)]
    · unfold hexT; rw [if_neg (by omega), if_neg (by omega), if_neg (by omega)]
    · omega
    · omega)
  have j1 : IntKind.u64.wrap (n : Int) = (n : Int) := u64_small n (by omega) (by omega)
  have HK := Lib.hid hk
  clear hk
  have hi : Calls Tryd.prog 69 #[.int .i64 n, .int .i64 16] w fun e w' => e = .returned (.string (bs (hexT n))) ∧ Below w.heap.size w w' := by
    go_enter Tryd.func69, Tryd.ntmps69
    go_wp2_with (first
      | (go_at_call 79; refine HK.out.mono ?_; rintro e w' ⟨rfl, hb⟩))
    go_ret
    exact ⟨rfl, hb⟩
  have HI := Lib.hid hi
  clear hi HK
  go_enter Tryd.func49, Tryd.ntmps49
  go_wp2_with (first
    | (go_at_call 69; refine HI.out.mono ?_; rintro e w' ⟨rfl, hb⟩))
  go_ret
  exact ⟨rfl, hb⟩
end Go.Proofs.YtkanglfpiahecaaDoor.Lyt
/- A tree's text: plain words. -/
namespace Go.Proofs.YtkanglfpiahecaaDoor.Lyt
open Go.RowKit

/-- A split's size along a way. -/
def F.valN (a al : Int) (ks : F) : Int := if al = a then (ks.vals a (szA a)).sum + ((ks.len : Int) - 1) else maxL (ks.vals a (szA a))
/-- What a text begins with: the size, the place. -/
def headP (v0 v1 x y : Int) : Tx := Lib.itoa v0 ++ [120] ++ Lib.itoa v1 ++ [44] ++ Lib.itoa x ++ [44] ++ Lib.itoa y
def foldP (al : Int) (h all : Tx) : Tx := if al = 0 then h ++ [123] ++ all ++ [125] else h ++ [91] ++ all ++ [93]
/-- The text of each of some trees, if it lies there. -/
def F.txl : F → Int → Int → List Tx
  | .nil, _, _ => []
  | .leaf _ p s0 s1 r, x, y => (headP s0 s1 x y ++ [44] ++ Lib.itoa p) :: r.txl x y
  | .node _ _ _ al ks r, x, y => foldP al (headP (F.valN 0 al ks) (F.valN 1 al ks) x y) (Lib.join ((List.range ks.len).map fun i => (ks.txl (ks.kx al x y i).1 (ks.kx al x y i).2).getD i []) [44]) :: r.txl x y
theorem F.txl_len : ∀ (f : F) (x y : Int), (f.txl x y).length = f.len
  | .nil, _, _ => rfl
  | .leaf _ _ _ _ r, x, y => by simp [F.txl, F.len, F.txl_len r]
  | .node _ _ _ _ _ r, x, y => by simp [F.txl, F.len, F.txl_len r]
theorem join_le (xs : List Tx) : (Lib.join xs [44]).length ≤ (xs.map fun t => t.length + 1).sum := by
  cases xs with
  | nil => simp [Lib.join_nil]
  | cons x r =>
    rw [Lib.join_cons, List.length_append, List.map_cons, List.sum_cons]
    have : (Lib.joinTail [44] r).length = (r.map fun t => t.length + 1).sum := by
      unfold Lib.joinTail
      induction r with
      | nil => rfl
      | cons y r ih => rw [List.map_cons, List.flatten_cons, List.length_append, ih, List.map_cons, List.sum_cons, List.length_append, List.length_cons, List.length_nil]; omega
    omega
/-- How long their texts are at the most, with a comma. -/
def F.szs : F → List Nat
  | .nil => []
  | .leaf _ _ _ _ r => 120 :: r.szs
  | .node _ _ _ _ ks r => (100 + ks.szs.sum) :: r.szs
theorem F.szs_len : ∀ f : F, f.szs.length = f.len
  | .nil => rfl
  | .leaf _ _ _ _ r => by simp [F.szs, F.len, F.szs_len r]
  | .node _ _ _ _ _ r => by simp [F.szs, F.len, F.szs_len r]
theorem F.szs_sum : ∀ f : F, f.szs.sum ≤ 120 * f.blks.length
  | .nil => by simp [F.szs]
  | .leaf _ _ _ _ r => by have := F.szs_sum r; simp [F.szs, F.blks]; omega
  | .node _ _ _ _ ks r => by have := F.szs_sum ks; have := F.szs_sum r; simp [F.szs, F.blks]; omega
theorem map_le (l : List Nat) (g : Nat → Nat) (h : ∀ i c, l[i]? = some c → g i ≤ c) : ((List.range l.length).map g).sum ≤ l.sum := by
  induction l generalizing g with
  | nil => simp
  | cons c l ih =>
    rw [List.length_cons, List.range_succ_eq_map, List.map_cons, List.sum_cons, List.sum_cons, List.map_map]
    have h0 := h 0 c rfl
    have h1 := ih (fun i => g (i + 1)) fun i d hd => h (i + 1) d (by simpa using hd)
    have e : (List.range l.length).map (g ∘ Nat.succ) = (List.range l.length).map fun i => g (i + 1) := rfl
    rw [e]
    omega
theorem head_le {v0 v1 x y : Int} (h0 : 0 ≤ v0 ∧ v0 ≤ 1000000000000) (h1 : 0 ≤ v1 ∧ v1 ≤ 1000000000000) (hx : 0 ≤ x ∧ x ≤ 1000000000000) (hy : 0 ≤ y ∧ y ≤ 1000000000000) : (headP v0 v1 x y).length ≤ 87 := by
  have a0 := Lib.itoa_length_le v0 (by omega) (by omega)
  have a1 := Lib.itoa_length_le v1 (by omega) (by omega)
  have a2 := Lib.itoa_length_le x (by omega) (by omega)
  have a3 := Lib.itoa_length_le y (by omega) (by omega)
  unfold headP
  simp only [List.length_append, List.length_cons, List.length_nil]
  omega
theorem val_nn {ks : F} (h : ks.Ok) (hl : 1 ≤ ks.len) (a al : Int) : 0 ≤ ks.valN a al := by
  have n0 := (small_le (a := a) (g := szA a) h.one (F.all_mono (fun p s0 s1 h => by unfold szA; split <;> omega) h.siz) h.few).1
  have := sum_nn n0
  have := maxL_in n0
  unfold F.valN
  split <;> omega
theorem F.txl_le : ∀ (f : F), f.Ok → ∀ (i : Nat) (x y v0 v1 : Int) (t : Tx) (c : Nat), (f.vals 0 (szA 0))[i]? = some v0 → (f.vals 1 (szA 1))[i]? = some v1 → Within x y v0 v1 → (f.txl x y)[i]? = some t → f.szs[i]? = some c → t.length + 1 ≤ c
  | .nil, _, i, x, y, v0, v1, t, c, h, _, _, _, _ => by simp [F.vals] at h
  | .leaf b p s0 s1 r, ok, i, x, y, v0, v1, t, c, h0, h1, hw, ht, hc => by
    cases i with
    | succ i => exact F.txl_le r ok.rest i x y v0 v1 t c h0 h1 hw ht hc
    | zero =>
      obtain rfl : headP s0 s1 x y ++ [44] ++ Lib.itoa p = t := by simpa [F.txl] using ht
      obtain rfl : 120 = c := by simpa [F.szs] using hc
      obtain rfl : s0 = v0 := by simpa [F.vals, szA] using h0
      obtain rfl : s1 = v1 := by simpa [F.vals, szA] using h1
      have hs := ok.siz.1
      have hp := ok.pan.1
      unfold Within at hw
      have a0 := head_le (v0 := s0) (v1 := s1) (x := x) (y := y) (by omega) (by omega) (by omega) (by omega)
      have a1 := Lib.itoa_length_le p (by omega) (by omega)
      simp only [List.length_append, List.length_cons, List.length_nil]
      omega
  | .node b kb cap al ks r, ok, i, x, y, v0, v1, t, c, h0, h1, hw, ht, hc => by
    cases i with
    | succ i => exact F.txl_le r ok.rest2 i x y v0 v1 t c h0 h1 hw ht hc
    | zero =>
      have kok := ok.kids
      obtain rfl : foldP al (headP (F.valN 0 al ks) (F.valN 1 al ks) x y) (Lib.join ((List.range ks.len).map fun i => (ks.txl (ks.kx al x y i).1 (ks.kx al x y i).2).getD i []) [44]) = t := by simpa [F.txl] using ht
      obtain rfl : 100 + ks.szs.sum = c := by simpa [F.szs] using hc
      have hz0 : F.valN 0 al ks = v0 := by simpa [F.vals, F.valN] using h0
      have hz1 : F.valN 1 al ks = v1 := by simpa [F.vals, F.valN] using h1
      have hn0 := val_nn kok ok.one.1 0 al
      have hn1 := val_nn kok ok.one.1 1 al
      rw [hz0] at hn0 ⊢
      rw [hz1] at hn1 ⊢
      have hww := hw
      unfold Within at hw
      have a0 := head_le (v0 := v0) (v1 := v1) (x := x) (y := y) (by omega) (by omega) (by omega) (by omega)
      have hj := join_le ((List.range ks.len).map fun i => (ks.txl (ks.kx al x y i).1 (ks.kx al x y i).2).getD i [])
      rw [List.map_map] at hj
      have hk := map_le ks.szs (fun i => ((ks.txl (ks.kx al x y i).1 (ks.kx al x y i).2).getD i []).length + 1) fun i d hd => by
        have hi : i < ks.len := by rw [← F.szs_len ks]; exact (List.getElem?_eq_some_iff.1 hd).1
        have q0 : i < (ks.vals 0 (szA 0)).length := by rw [F.vals_len]; exact hi
        have q1 : i < (ks.vals 1 (szA 1)).length := by rw [F.vals_len]; exact hi
        have q2 : i < (ks.txl (ks.kx al x y i).1 (ks.kx al x y i).2).length := by rw [F.txl_len]; exact hi
        refine F.txl_le ks kok i (ks.kx al x y i).1 (ks.kx al x y i).2 _ _ _ d (List.getElem?_eq_getElem q0) (List.getElem?_eq_getElem q1) (kid_within ok.way.1 kok.one kok.siz kok.few hz0 hz1 (List.getElem?_eq_getElem q0) (List.getElem?_eq_getElem q1) hww) ?_ hd
        rw [List.getD_eq_getElem?_getD, List.getElem?_eq_getElem q2]
        rfl
      rw [F.szs_len] at hk
      have hjk := Nat.le_trans hj hk
      generalize Lib.join ((List.range ks.len).map fun i => (ks.txl (ks.kx al x y i).1 (ks.kx al x y i).2).getD i []) [44] = J at *
      unfold foldP
      split
      · simp only [List.length_append, List.length_cons, List.length_nil]; omega
      · simp only [List.length_append, List.length_cons, List.length_nil]; omega
end Go.Proofs.YtkanglfpiahecaaDoor.Lyt
/- A text's sum as a text. -/
namespace Go.Proofs.YtkanglfpiahecaaDoor.Lyt
open Go.RowKit

def padP (l : Tx) : Tx := [48, 48, 48] ++ hexT (sumP l).toNat
theorem cut_ext (l : Tx) (a b : Nat) : (bs l).extract a b = bs ((l.take b).drop a) := by
  have h1 : ((bs l).extract a b).data.toList = (l.take b).drop a := by
    rw [ByteArray.data_extract]
    have : (bs l).data = l.toArray := rfl
    rw [this, List.extract_toArray, List.extract_eq_take_drop]
    simp only [List.drop_take]
  rw [bs_of ((bs l).extract a b), h1]
/-- A text's sum, written. -/
def sumX (l : Tx) : Tx := (padP l).drop ((padP l).length - 4)
set_option maxRecDepth 100000 in
set_option maxHeartbeats 4000000 in
theorem sumText_at {B : Nat} (l : Tx) (w : World) (hl : l.length ≤ 1000000000) (ht : Tab B w) (hB : B ≤ w.heap.size) :
    Calls Tryd.prog 22 #[.string (bs l)] w fun e w' => e = .returned (.string (bs (sumX l))) ∧ Below w.heap.size w w' := by
  have hs := Sum_at (bs l) w (by rw [bs_size]; exact hl)
  rw [bs_list] at hs
  have hz := sumP_in l
  have hx := hex_at (sumP l).toNat (by omega) w ht hB
  rw [Int.toNat_of_nonneg hz.1] at hx
  have hlen := hexT_len (sumP l).toNat
  have hsx : sumX l = ([48, 48, 48] ++ hexT (sumP l).toNat).drop (([48, 48, 48] ++ hexT (sumP l).toNat).length - 4) := rfl
  have HS := Lib.hid hs
  have HX := Lib.hid hx
  have HSX := Lib.hid hsx
  clear hs hx hsx ht hB
  generalize sumX l = S at *
  generalize hexT (sumP l).toNat = h at *
  generalize sumP l = z at *
  have j1 : IntKind.i64.wrap z = z := IntWalk.i64_in _ ⟨by omega, by omega⟩
  go_enter Tryd.func22, Tryd.ntmps22
  go_wp2_with fail
  refine HS.out.mono ?_
  rintro _ w1 ⟨rfl, rfl⟩
  go_wp2_with fail
  refine HX.out.mono ?_
  rintro _ w2 ⟨rfl, hb2⟩
  have e3 : ({ data := #[48, 48, 48] } : ByteArray) ++ bs h = bs ([48, 48, 48] ++ h) := bs_app [48, 48, 48] h
  obtain ⟨n, hn⟩ : ∃ n, n = h.length + 3 := ⟨_, rfl⟩
  have hP : (bs ([48, 48, 48] ++ h)).size = n := by rw [bs_size, hn]; simp
  have hxt : (bs ([48, 48, 48] ++ h)).extract (n - 4) n = bs S := by
    rw [cut_ext, HSX.out, List.take_of_length_le (by simp [hn])]
    congr 2
    simp [hn]
  have h3 : (bs h).size = h.length := bs_size h
  have j2 : IntKind.i64.wrap ((n : Int) - 4) = (n : Int) - 4 := IntWalk.i64_in _ ⟨by omega, by omega⟩
  have j3 : ((n : Int) - 4).toNat = n - 4 := by omega
  have j4 : (0 : Int) ≤ (n : Int) - 4 := by omega
  have j5 : (n : Int) - 4 ≤ (n : Int) := by omega
  have j6 : ¬ 9223372036854775807 < 3 + h.length := by omega
  clear HSX hn
  generalize bs ([48, 48, 48] ++ h) = P at *
  generalize bs h = H at *
  go_wp2_with fail
  go_ret
  exact ⟨rfl, hb2⟩
end Go.Proofs.YtkanglfpiahecaaDoor.Lyt
/- A tree's text: a kid's, gathered. -/
namespace Go.Proofs.YtkanglfpiahecaaDoor.Lyt
open Go.RowKit

theorem info_str : (Tryd.prog.info? 9).map (fun i => (i.zero, i.size, i.bytes)) = some (some (.string ⟨#[]⟩), 1, 16) := by kernel_rfl
def strC (l : List Tx) : List Value := l.map fun t => .string (bs t)
section
variable {W : World} {n0 B : Nat} {v u : Value} {x y : Int} {acc : List Tx} {l : Tx}
set_option maxRecDepth 100000 in
set_option maxHeartbeats 4000000 in
theorem body1_at (h0 : BL W n0 85 [u]) (hB : n0 < B) (hBW : B ≤ W.heap.size) (hu : W.ownsRow B 9 1 u acc.length (strC acc)) (hn : acc.length ≤ 1000000)
    (hk : ∀ V, Below W.heap.size W V → Calls Tryd.prog 21 #[v, .agg #[.int .i64 x, .int .i64 y]] V fun e V' => e = .returned (.string (bs l)) ∧ Below V.heap.size V V') :
    Calls Tryd.prog 47 #[v, .agg #[.int .i64 x, .int .i64 y], pV n0] W fun e W' => e = .returned (.tuple #[]) ∧
      ∃ u', BL W' n0 85 [u'] ∧ W'.ownsRow B 9 1 u' (acc ++ [l]).length (strC (acc ++ [l])) ∧ OnlyB B [n0] W W' := by
  have hb0 : Below W.heap.size W (W.alloc (.cells #[.int .i64 x, .int .i64 y] 49)) := (Below.refl _ _).alloc (Nat.le_refl _) _
  have hA := BL.new W 49 [.int .i64 x, .int .i64 y]
  have hone : ∀ q ∈ [Value.string (bs l)], q.oneCell' = true := by
    intro q hq
    rw [List.mem_singleton] at hq
    rw [hq]
    rfl
  have hnlt := h0.lt
  have H0 := Lib.hid h0
  have HU := Lib.hid hu
  have HK := Lib.hid hk
  have HONE := Lib.hid hone
  have hsc : strC (acc ++ [l]) = strC acc ++ [.string (bs l)] := by simp [strC]
  have HSC := Lib.hid hsc
  clear h0 hu hk hone hsc
  unfold pV
  go_enter Tryd.func47, Tryd.ntmps47
  go_upto_region 1 with fail
  generalize W.alloc (.cells #[.int .i64 x, .int .i64 y] 49) = X at *
  have hd : Below W.heap.size W X.drew := hb0.drew
  have d0 : X.drew.cell? ⟨n0, 0, none⟩ = some u := (H0.out.only (F := []) (Only.of_below hd) (by simp)).cell 0
  have a0 : X.drew.cell? ⟨W.heap.size, 0, none⟩ = some (.int .i64 x) := hA.drew.cell 0
  have a1 : X.drew.cell? ⟨W.heap.size, 1, none⟩ = some (.int .i64 y) := hA.drew.cell 1
  have hsX : W.heap.size + 1 ≤ X.drew.heap.size := by have := hA.drew.lt; omega
  have HA := Lib.hid hA.drew
  have HD := Lib.hid hd
  clear hA hb0 hd
  go_region_law
    (first
      | (go_simp; go_at_call 21; refine (HK.out _ HD.out).mono ?_; rintro _ w3 ⟨rfl, hb3⟩; have hbd3 := HD.out.trans (hb3.mono HD.out.size); have z0 := (H0.out.only (F := []) (Only.of_below hbd3) (by simp)).cell 0; have y0 := (HA.out.only (F := []) (Only.of_below hb3) (by simp)).cell 0; have y1 := (HA.out.only (F := []) (Only.of_below hb3) (by simp)).cell 1; have hsw := hbd3.size; have hbe3 : Below W.heap.size W (w3.alloc (.cells #[.string (bs l)] 9)) := hbd3.alloc hsw _; have z0' := (H0.out.only (F := []) (Only.of_below hbe3) (by simp)).cell 0)
      | (refine step_app info_str Tryd.underlying85 rfl (by decide) (by decide) rfl (.tmp 5) (.tmp 9) rfl B u acc.length (strC acc) w3.heap.size 1 1 [.string (bs l)] rfl (own_below HU.out hbe3) rfl rfl (cell_one_new _ _ _) HONE.out (by omega) (by have := hbe3.size; omega) (by omega) ?_; intro g4 c4 w4 hown4 hb4 hw4 _; have h04 := (H0.out.only (F := []) (Only.of_below hbe3) (by simp)).keep (hb4.block n0 (by assumption)); have s2 := h04.cell 0; have s2f := h04.frozen 0; have H04 := Lib.hid h04; clear h04))
  all_goals
    have h2b := H04.out.set_ 0 (.slice (some ⟨g4, 0, none⟩) (acc.length + 1) c4)
    have o2 : OnlyB B [n0] W (w4.setCell ⟨n0, 0, none⟩ (.slice (some ⟨g4, 0, none⟩) (acc.length + 1) c4)) :=
      ((OnlyB.of_below (hbe3.mono (by omega))).trans (OnlyB.of_below hb4)).trans (((Only.refl [n0] w4).setCell (p := ⟨n0, 0, none⟩) (.inl (by simp)) _).toB (by have := hb4.size; have := hbe3.size; omega))
    refine body_end rfl rfl ⟨rfl, _, h2b, ?_, o2⟩
    rw [List.length_append, HSC.out]
    refine own_only (G := [n0]) hown4 ((Only.refl _ _).setCell (p := ⟨n0, 0, none⟩) (.inl (by simp)) _) fun k hk => ?_
    have : g4 = k := Option.some.inj hk
    have := (hown4.lt g4 rfl).1
    simp; omega
end
end Go.Proofs.YtkanglfpiahecaaDoor.Lyt
/- A tree's text: what it begins with; a leaf's. -/
namespace Go.Proofs.YtkanglfpiahecaaDoor.Lyt
open Go.RowKit

/-- A number's text. -/
def IsT (n : Int) (T : ByteArray) : Prop := T = bs (Lib.itoa n) ∧ T.size ≤ 21 ∧ -1000000000000 ≤ n ∧ n ≤ 1000000000000
theorem is_itoa (n : Int) (h : -1000000000000 ≤ n ∧ n ≤ 1000000000000) : IsT n (bs (Lib.itoa n)) := ⟨rfl, by rw [bs_size]; exact Lib.itoa_length_le n (by omega) (by omega), h⟩
set_option maxRecDepth 100000 in
set_option maxHeartbeats 4000000 in
theorem body_leaf {B b : Nat} {p v0 v1 x y : Int} {w : World} (hb : 0 ≤ x ∧ x ≤ 1000000000000 ∧ 0 ≤ y ∧ y ≤ 1000000000000 ∧ 0 ≤ v0 ∧ v0 ≤ 1000000000000 ∧ 0 ≤ v1 ∧ v1 ≤ 1000000000000 ∧ 0 ≤ p ∧ p ≤ 1000000000000)
    (ht : Tab B w) (hB : B ≤ w.heap.size) (hN : BN w b (leafC p v0 v1))
    (h0 : ∀ V, Below w.heap.size w V → Calls Tryd.prog 46 #[pV b, .int .i64 0] V fun e W' => e = .returned (.int .i64 v0) ∧ Below V.heap.size V W')
    (h1 : ∀ V, Below w.heap.size w V → Calls Tryd.prog 46 #[pV b, .int .i64 1] V fun e W' => e = .returned (.int .i64 v1) ∧ Below V.heap.size V W') :
    Calls Tryd.prog 21 #[pV b, .agg #[.int .i64 x, .int .i64 y]] w fun e w' => e = .returned (.string (bs (headP v0 v1 x y ++ [44] ++ Lib.itoa p))) ∧ Below w.heap.size w w' := by
  have hb0 : Below w.heap.size w (w.alloc (.cells #[.int .i64 x, .int .i64 y] 49)) := (Below.refl _ _).alloc (Nat.le_refl _) _
  have hA := BL.new w 49 [.int .i64 x, .int .i64 y]
  obtain ⟨T0, hT0⟩ : ∃ T, IsT v0 T := ⟨_, is_itoa v0 (by omega)⟩
  obtain ⟨T1, hT1⟩ : ∃ T, IsT v1 T := ⟨_, is_itoa v1 (by omega)⟩
  obtain ⟨Tx, hTx⟩ : ∃ T, IsT x T := ⟨_, is_itoa x (by omega)⟩
  obtain ⟨Ty, hTy⟩ : ∃ T, IsT y T := ⟨_, is_itoa y (by omega)⟩
  have hki : ∀ (n : Int) (T : ByteArray), IsT n T → ∀ V, Below w.heap.size w V → Calls Tryd.prog 45 #[.int .i64 n] V fun e w' => e = .returned (.string T) ∧ Below V.heap.size V w' := fun n T hn V hV => by
    rw [hn.1]
    exact itoa_at n (by have := hn.2.2; omega) (by have := hn.2.2; omega) V (ht.on hB hV)
  have hlit : ∀ b : UInt8, ({ data := #[b] } : ByteArray) = bs [b] := fun _ => rfl
  have hsz : ∀ a b : ByteArray, (a ++ b).size = a.size + b.size := fun a b => ByteArray.size_append
  have hs1 : ∀ b : UInt8, ({ data := #[b] } : ByteArray).size = 1 := fun _ => rfl
  obtain ⟨U1, hU1⟩ : ∃ U, T0 ++ ({ data := #[120] } : ByteArray) = U := ⟨_, rfl⟩
  obtain ⟨U2, hU2⟩ : ∃ U, U1 ++ T1 = U := ⟨_, rfl⟩
  obtain ⟨U3, hU3⟩ : ∃ U, U2 ++ ({ data := #[44] } : ByteArray) = U := ⟨_, rfl⟩
  obtain ⟨U4, hU4⟩ : ∃ U, U3 ++ Tx = U := ⟨_, rfl⟩
  obtain ⟨U5, hU5⟩ : ∃ U, U4 ++ ({ data := #[44] } : ByteArray) = U := ⟨_, rfl⟩
  obtain ⟨U6, hU6⟩ : ∃ U, U5 ++ Ty = U := ⟨_, rfl⟩
  have z0 := hT0.2.1
  have z1 := hT1.2.1
  have zx := hTx.2.1
  have zy := hTy.2.1
  have zs1 : U1.size ≤ 22 := by rw [← hU1, hsz, hs1]; omega
  have zs2 : U2.size ≤ 43 := by rw [← hU2, hsz]; omega
  have zs3 : U3.size ≤ 44 := by rw [← hU3, hsz, hs1]; omega
  have zs4 : U4.size ≤ 65 := by rw [← hU4, hsz]; omega
  have zs5 : U5.size ≤ 66 := by rw [← hU5, hsz, hs1]; omega
  have zs6 : U6.size ≤ 87 := by rw [← hU6, hsz]; omega
  have c1 : ¬ 9223372036854775807 < T0.size + 1 := by omega
  have c2 : ¬ 9223372036854775807 < U1.size + T1.size := by omega
  have c3 : ¬ 9223372036854775807 < U2.size + 1 := by omega
  have c4 : ¬ 9223372036854775807 < U3.size + Tx.size := by omega
  have c5 : ¬ 9223372036854775807 < U4.size + 1 := by omega
  have c6 : ¬ 9223372036854775807 < U5.size + Ty.size := by omega
  have hU : U6 = bs (headP v0 v1 x y) := by
    rw [← hU6, ← hU5, ← hU4, ← hU3, ← hU2, ← hU1, hT0.1, hT1.1, hTx.1, hTy.1, hlit, hlit]
    unfold headP
    simp only [bs_app]
  obtain ⟨Tp, hTp⟩ : ∃ T, IsT p T := ⟨_, is_itoa p (by omega)⟩
  have zp := hTp.2.1
  obtain ⟨U7, hU7⟩ : ∃ U, U6 ++ ({ data := #[44] } : ByteArray) = U := ⟨_, rfl⟩
  obtain ⟨R, hU8⟩ : ∃ U, U7 ++ Tp = U := ⟨_, rfl⟩
  have zs7 : U7.size ≤ 88 := by rw [← hU7, hsz, hs1]; omega
  have c7 : ¬ 9223372036854775807 < U6.size + 1 := by omega
  have c8 : ¬ 9223372036854775807 < U7.size + Tp.size := by omega
  have hR : R = bs (headP v0 v1 x y ++ [44] ++ Lib.itoa p) := by
    rw [← hU8, ← hU7, hU, hTp.1, hlit]
    simp only [bs_app]
  clear hlit hsz hs1 zs1 zs2 zs3 zs4 zs5 zs6 zs7 z0 z1 zx zy zp hU
  rw [← hR]
  have HI := Lib.hid hki
  have K0 := Lib.hid h0
  have K1 := Lib.hid h1
  have HN := Lib.hid hN
  clear hki h0 h1 ht hb hN hR
  unfold pV at K0 K1 ⊢
  go_enter Tryd.func21, Tryd.ntmps21
  go_upto_region 1 with fail
  have hs0 : (w.alloc (.cells #[.int .i64 x, .int .i64 y] 49)).heap.size = w.heap.size + 1 := by simp
  generalize w.alloc (.cells #[.int .i64 x, .int .i64 y] 49) = X at *
  have SS : ∀ V, Below w.heap.size w V → Below X.heap.size X V → (V.cell? ⟨w.heap.size, 0, none⟩ = some (.int .i64 x) ∧ V.cell? ⟨w.heap.size, 1, none⟩ = some (.int .i64 y) ∧ Below X.heap.size X V ∧ Below w.heap.size w V) := fun V hV hX => by
    have := hA.only (Only.of_below (F := []) hX) (by simp)
    exact ⟨this.cell 0, this.cell 1, hX, hV⟩
  have hdX : Below X.heap.size X X.drew := (Below.refl _ _).drew
  have hdw : Below w.heap.size w X.drew := hb0.drew
  go_cut [5] (fun s5 wx => s5 = .string U6 ∧ Below w.heap.size w wx ∧ Below X.heap.size X wx)
  case first =>
    go_region_held3 (fun V => V.cell? ⟨w.heap.size, 0, none⟩ = some (.int .i64 x) ∧ V.cell? ⟨w.heap.size, 1, none⟩ = some (.int .i64 y) ∧ Below X.heap.size X V ∧ Below w.heap.size w V)
      (first
        | (refine SS _ ?_ ?_ <;> assumption)
        | fail)
      (first
        | (go_at_call 46; obtain ⟨_, _, kx, kw⟩ := (by assumption : _ ∧ _ ∧ Below X.heap.size X _ ∧ Below w.heap.size w _); first | (refine (K0.out _ kw).mono ?_; rintro _ w2 ⟨rfl, hb2⟩; have hbx := kx.trans (hb2.mono kx.size); have hbw := kw.trans (hb2.mono kw.size)) | (refine (K1.out _ kw).mono ?_; rintro _ w2 ⟨rfl, hb2⟩; have hbx := kx.trans (hb2.mono kx.size); have hbw := kw.trans (hb2.mono kw.size)))
        | (go_at_call 45; obtain ⟨_, _, kx, kw⟩ := (by assumption : _ ∧ _ ∧ Below X.heap.size X _ ∧ Below w.heap.size w _); refine (HI.out _ _ (by assumption) _ kw).mono ?_; rintro _ w2 ⟨rfl, hb2⟩; have hbx := kx.trans (hb2.mono kx.size); have hbw := kw.trans (hb2.mono kw.size))
        | fail)
    all_goals go_wp2_with fail
    all_goals go_meet
    all_goals exact ⟨rfl, hbw, hbx⟩
  case rest =>
    obtain ⟨rfl, hbw, hbx⟩ := hcut
    have hNc := HN.out.only (Only.of_below (F := []) hbw) (by simp)
    have e4 : wc.cell? ⟨b, 4, none⟩ = some (.slice none 0 0) := hNc.cell 4
    have e0 : wc.cell? ⟨b, 0, none⟩ = some (.int .i64 p) := hNc.cell 0
    clear SS hA hNc HN K0 K1
    go_wp2_with fail
    refine (isLeaf_at b 0 0 none _ e4).mono ?_
    rintro _ w9 ⟨rfl, rfl⟩
    go_wp2_with fail
    refine (HI.out _ _ hTp _ hbw).mono ?_
    rintro _ w8 ⟨rfl, hb8⟩
    go_wp2_with fail
    go_ret
    exact ⟨rfl, hbw.trans (hb8.mono hbw.size)⟩
end Go.Proofs.YtkanglfpiahecaaDoor.Lyt
/- A tree's text: all of it. -/
namespace Go.Proofs.YtkanglfpiahecaaDoor.Lyt
open Go.RowKit

theorem strC_get {acc : List Tx} {j : Nat} {x : ByteArray} (h : (acc.map bs)[j]? = some x) : (strC acc)[j]? = some (.string x) := by
  unfold strC
  rw [List.getElem?_map] at h ⊢
  cases hq : acc[j]? with
  | none => rw [hq] at h; cases h
  | some t => rw [hq] at h; obtain rfl := Option.some.inj h; rfl
theorem join_own {w : World} {B : Nat} {u : Value} {acc : List Tx} (h : w.ownsRow B 9 1 u acc.length (strC acc)) (hn : 0 < acc.length) (hl : (Lib.join acc [44]).length ≤ 1000000000) (hn2 : acc.length ≤ 1000000) :
    ∃ g c, u = .slice (some ⟨g, 0, none⟩) acc.length c ∧ Calls Tryd.prog 48 #[.slice (some ⟨g, 0, none⟩) acc.length c, .string ⟨#[44]⟩] w fun e w' => e = .returned (.string (bs (Lib.join acc [44]))) ∧ Below w.heap.size w w' := by
  obtain ⟨g, c, rfl, hg⟩ := own_some h hn
  refine ⟨g, c, rfl, ?_⟩
  have hm : (acc.map bs).map (fun t => t.data.toList) = acc := by
    rw [List.map_map]
    conv => rhs; rw [← List.map_id acc]
    exact List.map_congr_left fun t _ => bs_list t
  have hc : acc.length ≤ c := by
    rcases h.2 with ⟨_, h0⟩ | ⟨g', cap, cur, he, _, _, h3, _⟩
    · omega
    · injection he with _ _ he; omega
  have hk := Tryd.strings_Join g 0 c (acc.map bs) ⟨#[44]⟩ w (fun j x hj => by
    have := h.cells (g := g) rfl j _ (strC_get hj)
    have e2 : (⟨g, 0, none⟩ : Addr).add j = ⟨g, 0 + j, none⟩ := by unfold Addr.add; split <;> simp_all
    rwa [e2] at this) (h.lt g rfl).2 (by simp; omega) (by simpa using hc) (by rw [hm]; exact Nat.le_trans hl (by decide))
  rw [hm, List.length_map] at hk
  exact hk
set_option maxRecDepth 100000 in
set_option maxHeartbeats 8000000 in
theorem body_node {B b kb cap : Nat} {al v0 v1 x y : Int} {ks : F} {w : World} (hb : 0 ≤ x ∧ x ≤ 1000000 ∧ 0 ≤ y ∧ y ≤ 1000000 ∧ 0 ≤ v0 ∧ v0 ≤ 1000000000000 ∧ 0 ≤ v1 ∧ v1 ≤ 1000000000000)
    (hal : al = 0 ∨ al = 1) (hk1 : 1 ≤ ks.len) (ok : ks.Ok) (ht : Tab B w) (hB : B ≤ w.heap.size) (hin : (F.node b kb cap al ks .nil).In w) (g : Nat → Tx)
    (h0 : ∀ V, Below w.heap.size w V → Calls Tryd.prog 46 #[pV b, .int .i64 0] V fun e W' => e = .returned (.int .i64 v0) ∧ Below V.heap.size V W')
    (h1 : ∀ V, Below w.heap.size w V → Calls Tryd.prog 46 #[pV b, .int .i64 1] V fun e W' => e = .returned (.int .i64 v1) ∧ Below V.heap.size V W')
    (hkid : ∀ V, Tab B V → B ≤ V.heap.size → ks.In V → ∀ (i : Nat) v, i < ks.len → ks.ptrs[i]? = some v → Calls Tryd.prog 21 #[v, .agg #[.int .i64 (ks.kx al x y i).1, .int .i64 (ks.kx al x y i).2]] V fun e V' => e = .returned (.string (bs (g i))) ∧ Below V.heap.size V V')
    (hJl : (Lib.join ((List.range ks.len).map g) [44]).length ≤ 1000000000) :
    Calls Tryd.prog 21 #[pV b, .agg #[.int .i64 x, .int .i64 y]] w fun e w' => e = .returned (.string (bs (foldP al (headP v0 v1 x y) (Lib.join ((List.range ks.len).map g) [44])))) ∧ Below w.heap.size w w' := by
  have hb0 : Below w.heap.size w (w.alloc (.cells #[.int .i64 x, .int .i64 y] 49)) := (Below.refl _ _).alloc (Nat.le_refl _) _
  have hA := BL.new w 49 [.int .i64 x, .int .i64 y]
  obtain ⟨T0, hT0⟩ : ∃ T, IsT v0 T := ⟨_, is_itoa v0 (by omega)⟩
  obtain ⟨T1, hT1⟩ : ∃ T, IsT v1 T := ⟨_, is_itoa v1 (by omega)⟩
  obtain ⟨Tx, hTx⟩ : ∃ T, IsT x T := ⟨_, is_itoa x (by omega)⟩
  obtain ⟨Ty, hTy⟩ : ∃ T, IsT y T := ⟨_, is_itoa y (by omega)⟩
  have hki : ∀ (n : Int) (T : ByteArray), IsT n T → ∀ V, Below w.heap.size w V → Calls Tryd.prog 45 #[.int .i64 n] V fun e w' => e = .returned (.string T) ∧ Below V.heap.size V w' := fun n T hn V hV => by
    rw [hn.1]
    exact itoa_at n (by have := hn.2.2; omega) (by have := hn.2.2; omega) V (ht.on hB hV)
  have hlit : ∀ b : UInt8, ({ data := #[b] } : ByteArray) = bs [b] := fun _ => rfl
  have hsz : ∀ a b : ByteArray, (a ++ b).size = a.size + b.size := fun a b => ByteArray.size_append
  have hs1 : ∀ b : UInt8, ({ data := #[b] } : ByteArray).size = 1 := fun _ => rfl
  obtain ⟨U1, hU1⟩ : ∃ U, T0 ++ ({ data := #[120] } : ByteArray) = U := ⟨_, rfl⟩
  obtain ⟨U2, hU2⟩ : ∃ U, U1 ++ T1 = U := ⟨_, rfl⟩
  obtain ⟨U3, hU3⟩ : ∃ U, U2 ++ ({ data := #[44] } : ByteArray) = U := ⟨_, rfl⟩
  obtain ⟨U4, hU4⟩ : ∃ U, U3 ++ Tx = U := ⟨_, rfl⟩
  obtain ⟨U5, hU5⟩ : ∃ U, U4 ++ ({ data := #[44] } : ByteArray) = U := ⟨_, rfl⟩
  obtain ⟨U6, hU6⟩ : ∃ U, U5 ++ Ty = U := ⟨_, rfl⟩
  have z0 := hT0.2.1
  have z1 := hT1.2.1
  have zx := hTx.2.1
  have zy := hTy.2.1
  have zs1 : U1.size ≤ 22 := by rw [← hU1, hsz, hs1]; omega
  have zs2 : U2.size ≤ 43 := by rw [← hU2, hsz]; omega
  have zs3 : U3.size ≤ 44 := by rw [← hU3, hsz, hs1]; omega
  have zs4 : U4.size ≤ 65 := by rw [← hU4, hsz]; omega
  have zs5 : U5.size ≤ 66 := by rw [← hU5, hsz, hs1]; omega
  have zs6 : U6.size ≤ 87 := by rw [← hU6, hsz]; omega
  have c1 : ¬ 9223372036854775807 < T0.size + 1 := by omega
  have c2 : ¬ 9223372036854775807 < U1.size + T1.size := by omega
  have c3 : ¬ 9223372036854775807 < U2.size + 1 := by omega
  have c4 : ¬ 9223372036854775807 < U3.size + Tx.size := by omega
  have c5 : ¬ 9223372036854775807 < U4.size + 1 := by omega
  have c6 : ¬ 9223372036854775807 < U5.size + Ty.size := by omega
  have hU : U6 = bs (headP v0 v1 x y) := by
    rw [← hU6, ← hU5, ← hU4, ← hU3, ← hU2, ← hU1, hT0.1, hT1.1, hTx.1, hTy.1, hlit, hlit]
    unfold headP
    simp only [bs_app]
  obtain ⟨J, hJ⟩ : ∃ U, bs (Lib.join ((List.range ks.len).map g) [44]) = U := ⟨_, rfl⟩
  have zJ : J.size ≤ 1000000000 := by rw [← hJ, bs_size]; exact hJl
  obtain ⟨U7, hU7⟩ : ∃ U, U6 ++ ({ data := #[123] } : ByteArray) = U := ⟨_, rfl⟩
  obtain ⟨U8, hU8⟩ : ∃ U, U7 ++ J = U := ⟨_, rfl⟩
  obtain ⟨U9, hU9⟩ : ∃ U, U8 ++ ({ data := #[125] } : ByteArray) = U := ⟨_, rfl⟩
  obtain ⟨V7, hV7⟩ : ∃ U, U6 ++ ({ data := #[91] } : ByteArray) = U := ⟨_, rfl⟩
  obtain ⟨V8, hV8⟩ : ∃ U, V7 ++ J = U := ⟨_, rfl⟩
  obtain ⟨V9, hV9⟩ : ∃ U, V8 ++ ({ data := #[93] } : ByteArray) = U := ⟨_, rfl⟩
  have zs7 : U7.size ≤ 88 := by rw [← hU7, hsz, hs1]; omega
  have zs8 : U8.size ≤ 1000000088 := by rw [← hU8, hsz]; omega
  have zv7 : V7.size ≤ 88 := by rw [← hV7, hsz, hs1]; omega
  have zv8 : V8.size ≤ 1000000088 := by rw [← hV8, hsz]; omega
  have c7 : ¬ 9223372036854775807 < U6.size + 1 := by omega
  have c8 : ¬ 9223372036854775807 < U7.size + J.size := by omega
  have c9 : ¬ 9223372036854775807 < U8.size + 1 := by omega
  have d8 : ¬ 9223372036854775807 < V7.size + J.size := by omega
  have d9 : ¬ 9223372036854775807 < V8.size + 1 := by omega
  obtain ⟨R, hRd⟩ : ∃ R, bs (foldP al (headP v0 v1 x y) (Lib.join ((List.range ks.len).map g) [44])) = R := ⟨_, rfl⟩
  have hR : (al = 0 → U9 = R) ∧ (al = 1 → V9 = R) := by
    constructor
    · rintro rfl
      rw [← hU9, ← hU8, ← hU7, hU, ← hJ, hlit, hlit, ← hRd]
      simp only [bs_app, foldP, if_true]
    · rintro rfl
      rw [← hV9, ← hV8, ← hV7, hU, ← hJ, hlit, hlit, ← hRd]
      simp only [bs_app, foldP]
      rw [if_neg (by decide)]
  clear hlit hsz hs1 zs1 zs2 zs3 zs4 zs5 zs6 zs7 zs8 zv7 zv8 z0 z1 zx zy zJ hU
  rw [hRd]
  have hpl := F.ptrs_len ks
  have hnf : decide (ks.len = 0) = false := decide_eq_false (by omega)
  have hlenc := F.len_cnt ks ok.one
  have hfew := ok.few
  have HI := Lib.hid hki
  have K0 := Lib.hid h0
  have K1 := Lib.hid h1
  have HIN := Lib.hid hin
  have HKID := Lib.hid hkid
  have HR := Lib.hid hR
  have HOK := Lib.hid ok
  have HJ := Lib.hid hJ
  have HJL := Lib.hid hJl
  have HBD := Lib.hid hb
  have HT := Lib.hid ht
  clear hki h0 h1 ht hb hin hkid hR ok hJ hRd hJl
  unfold pV at K0 K1 ⊢
  go_enter Tryd.func21, Tryd.ntmps21
  go_upto_region 1 with fail
  have hs0 : (w.alloc (.cells #[.int .i64 x, .int .i64 y] 49)).heap.size = w.heap.size + 1 := by simp
  generalize w.alloc (.cells #[.int .i64 x, .int .i64 y] 49) = X at *
  have SS : ∀ V, Below w.heap.size w V → Below X.heap.size X V → (V.cell? ⟨w.heap.size, 0, none⟩ = some (.int .i64 x) ∧ V.cell? ⟨w.heap.size, 1, none⟩ = some (.int .i64 y) ∧ Below X.heap.size X V ∧ Below w.heap.size w V) := fun V hV hX => by
    have := hA.only (Only.of_below (F := []) hX) (by simp)
    exact ⟨this.cell 0, this.cell 1, hX, hV⟩
  have hdX : Below X.heap.size X X.drew := (Below.refl _ _).drew
  have hdw : Below w.heap.size w X.drew := hb0.drew
  go_cut [5] (fun s5 wx => s5 = .string U6 ∧ Below w.heap.size w wx ∧ Below X.heap.size X wx)
  case first =>
    go_region_held3 (fun V => V.cell? ⟨w.heap.size, 0, none⟩ = some (.int .i64 x) ∧ V.cell? ⟨w.heap.size, 1, none⟩ = some (.int .i64 y) ∧ Below X.heap.size X V ∧ Below w.heap.size w V)
      (first
        | (refine SS _ ?_ ?_ <;> assumption)
        | fail)
      (first
        | (go_at_call 46; obtain ⟨_, _, kx, kw⟩ := (by assumption : _ ∧ _ ∧ Below X.heap.size X _ ∧ Below w.heap.size w _); first | (refine (K0.out _ kw).mono ?_; rintro _ w2 ⟨rfl, hb2⟩; have hbx := kx.trans (hb2.mono kx.size); have hbw := kw.trans (hb2.mono kw.size)) | (refine (K1.out _ kw).mono ?_; rintro _ w2 ⟨rfl, hb2⟩; have hbx := kx.trans (hb2.mono kx.size); have hbw := kw.trans (hb2.mono kw.size)))
        | (go_at_call 45; obtain ⟨_, _, kx, kw⟩ := (by assumption : _ ∧ _ ∧ Below X.heap.size X _ ∧ Below w.heap.size w _); refine (HI.out _ _ (by assumption) _ kw).mono ?_; rintro _ w2 ⟨rfl, hb2⟩; have hbx := kx.trans (hb2.mono kx.size); have hbw := kw.trans (hb2.mono kw.size))
        | fail)
    all_goals go_wp2_with fail
    all_goals go_meet
    all_goals exact ⟨rfl, hbw, hbx⟩
  case rest =>
    obtain ⟨rfl, hbw, hbx⟩ := hcut
    have il := isLeaf_at b ks.len cap (some ⟨kb, 0, none⟩) wc ((HIN.out.1.only (Only.of_below (F := []) hbw) (by simp)).cell 4)
    rw [hnf] at il
    have hAc := hA.only (Only.of_below (F := []) hbx) (by simp)
    have hsw := hbw.size
    have hsx := hbx.size
    clear SS hA K0 K1 HI
    go_wp2_with fail
    refine il.mono ?_
    rintro _ w1 ⟨rfl, rfl⟩
    go_upto_region 5 with fail
    have hbY : Below w.heap.size w (wc.alloc (.cells #[.slice none 0 0] 85)) := hbw.alloc (by omega) _
    have hA2 := hAc.alloc (.cells #[.slice none 0 0] 85)
    have hN := BL.new wc 85 [.slice none 0 0]
    have hsY : (wc.alloc (.cells #[.slice none 0 0] 85)).heap.size = wc.heap.size + 1 := by simp
    generalize wc.heap.size = n0 at *
    generalize wc.alloc (.cells #[.slice none 0 0] 85) = Y at *
    have hlt := HIN.out.lt
    have ke := eachAt_at (w := Y) (b := b) (kb := kb) (cap := cap) (kv := 47) (al := al) (x := x) (y := y) (ks := ks) (caps := #[pV n0]) (G := [n0])
      (I := fun i V => ∃ u, BL V n0 85 [u] ∧ V.ownsRow (n0 + 4) 9 1 u ((List.range i).map g).length (strC ((List.range i).map g)))
      (enters_of Tryd.func47 (by kernel_rfl) rfl) hal HOK.out.one HOK.out.siz HOK.out.few
      (HIN.out.1.only (Only.of_below (F := []) hbY) (by simp)) (HIN.out.2.1.only (Only.of_below (F := []) hbY) (by simp)) (HIN.out.2.2.1.below hbY) (fun k hk => by simp at hk; omega)
      (fun k hk hm => by
        have : k < w.heap.size := hlt k (by
          rcases List.mem_cons.1 hk with rfl | hk
          · simp [F.blks]
          · rcases List.mem_cons.1 hk with rfl | hk
            · simp [F.blks]
            · simp [F.blks, hk])
        simp at hm; omega)
      (by have := HBD.out; omega)
      ⟨_, hN, World.ownsRow_nil _ _ _ _⟩
      (fun i V V' ⟨u, q1, q2⟩ ho => ⟨u, q1.only ho (by simp; omega), own_only q2 ho fun k hk => by have := (q2.lt k hk).1; simp; omega⟩)
      (fun i V v hv ⟨u, q1, q2⟩ ho hsv => by
        have hi : i < ks.len := by rw [← hpl]; exact (List.getElem?_eq_some_iff.1 hv).1
        have hrs : (List.range (i + 1)).map g = (List.range i).map g ++ [g i] := by rw [List.range_succ, List.map_append]; rfl
        have k1 := body1_at (v := v) (x := (ks.kx al x y i).1) (y := (ks.kx al x y i).2) (l := g i) (acc := (List.range i).map g) (B := n0 + 4) q1 (by omega) (by omega) q2 (by simp; omega)
          (fun V' hV' => by
            have o2 : OnlyB Y.heap.size [n0] Y V' := ho.trans ((OnlyB.of_below hV').mono (by omega) fun k hk => hk)
            have hb2 : Below w.heap.size w V' := hbY.trans (o2.below (by omega) (by simp; omega))
            exact HKID.out V' (HT.out.on hB hb2) (Nat.le_trans hB hb2.size) (HIN.out.2.2.1.below hb2) i v hi hv)
        refine k1.mono ?_
        rintro e V' ⟨rfl, u', r1, r2, ro⟩
        refine ⟨rfl, ⟨u', r1, ?_⟩, by rw [hsY]; exact ro⟩
        rw [hrs]
        exact r2)
    have KE := Lib.hid ke
    have c0 := hA2.cell 0
    have c1 := hA2.cell 1
    clear ke hA2 hN il hAc
    unfold pV at KE
    go_wp2_with fail
    refine KE.out.mono ?_
    rintro _ w2 ⟨rfl, ⟨u, q1, q2⟩, ro⟩
    have d1 := q1.cell 0
    have hb2 : Below w.heap.size w w2 := hbY.trans (ro.below (B := w.heap.size) (by omega) (by simp; omega))
    obtain ⟨gg, cc, rfl, hjo⟩ := join_own q2 (by simp; omega) HJL.out (by simp; omega)
    rw [HJ.out] at hjo
    generalize ((List.range ks.len).map g).length = m at *
    have e3 : w2.cell? ⟨b, 3, none⟩ = some (.int .i64 al) := (HIN.out.1.only (Only.of_below (F := []) hb2) (by simp)).cell 3
    have HJO := Lib.hid hjo
    clear q1 q2 KE hjo e3
    go_wp2_with fail
    refine HJO.out.mono ?_
    rintro _ w3 ⟨rfl, hb3⟩
    have hb33 : Below w.heap.size w w3 := hb2.trans (hb3.mono hb2.size)
    have e3 : w3.cell? ⟨b, 3, none⟩ = some (.int .i64 al) := (HIN.out.1.only (Only.of_below (F := []) hb33) (by simp)).cell 3
    clear HIN HJO
    rcases hal with rfl | rfl
    · have hRR := HR.out.1 rfl
      clear HR
      subst hRR
      go_wp2_with fail
      go_ret
      exact ⟨rfl, hb33⟩
    · have hRR := HR.out.2 rfl
      clear HR
      subst hRR
      go_wp2_with fail
      go_ret
      exact ⟨rfl, hb33⟩
end Go.Proofs.YtkanglfpiahecaaDoor.Lyt
/- A tree's text, with its sum. -/
namespace Go.Proofs.YtkanglfpiahecaaDoor.Lyt
open Go.RowKit

theorem body_at {B : Nat} (f : F) : f.Ok → ∀ w, Tab B w → B ≤ w.heap.size → f.In w → ∀ (i : Nat) v x y v0 v1 t, f.ptrs[i]? = some v → (f.vals 0 (szA 0))[i]? = some v0 → (f.vals 1 (szA 1))[i]? = some v1 → (f.txl x y)[i]? = some t → Within x y v0 v1 →
    Calls Tryd.prog 21 #[v, .agg #[.int .i64 x, .int .i64 y]] w fun e w' => e = .returned (.string (bs t)) ∧ Below w.heap.size w w' := by
  induction f with
  | nil => intro _ w _ _ _ i v x y v0 v1 t hv; simp [F.ptrs] at hv
  | leaf b p s0 s1 r ih =>
    intro ok w ht hB hin i v x y v0 v1 t hv hv0 hv1 hl hw
    cases i with
    | succ i => exact ih ok.rest w ht hB hin.2 i v x y v0 v1 t hv hv0 hv1 hl hw
    | zero =>
      have k0 := fun V (hV : Below w.heap.size w V) => has_at (a := 0) (.inl rfl) ok.one ok.siz ok.few (hin.below hV) hv hv0
      have k1 := fun V (hV : Below w.heap.size w V) => has_at (a := 1) (.inr rfl) ok.one ok.siz ok.few (hin.below hV) hv hv1
      obtain rfl : pV b = v := by simpa [F.ptrs] using hv
      obtain rfl : headP s0 s1 x y ++ [44] ++ Lib.itoa p = t := by simpa [F.txl] using hl
      obtain rfl : s0 = v0 := by simpa [F.vals, szA] using hv0
      obtain rfl : s1 = v1 := by simpa [F.vals, szA] using hv1
      have hs := ok.siz.1
      have hp := ok.pan.1
      unfold Within at hw
      exact body_leaf (by omega) ht hB hin.1 k0 k1
  | node b kb cap al ks r ihk ihr =>
    intro ok w ht hB hin i v x y v0 v1 t hv hv0 hv1 hl hw
    cases i with
    | succ i => exact ihr ok.rest2 w ht hB hin.2.2.2 i v x y v0 v1 t hv hv0 hv1 hl hw
    | zero =>
      have k0 := fun V (hV : Below w.heap.size w V) => has_at (a := 0) (.inl rfl) ok.one ok.siz ok.few (hin.below hV) hv hv0
      have k1 := fun V (hV : Below w.heap.size w V) => has_at (a := 1) (.inr rfl) ok.one ok.siz ok.few (hin.below hV) hv hv1
      have kok := ok.kids
      have hle := F.txl_le _ ok 0 x y v0 v1 t _ hv0 hv1 hw hl rfl
      have hbig : (100 + ks.szs.sum) ≤ 200000000 := by have := F.szs_sum ks; have := kok.big; omega
      obtain rfl : pV b = v := by simpa [F.ptrs] using hv
      obtain rfl : foldP al (headP (F.valN 0 al ks) (F.valN 1 al ks) x y) (Lib.join ((List.range ks.len).map fun i => (ks.txl (ks.kx al x y i).1 (ks.kx al x y i).2).getD i []) [44]) = t := by simpa [F.txl] using hl
      have hz0 : F.valN 0 al ks = v0 := by simpa [F.vals, F.valN] using hv0
      have hz1 : F.valN 1 al ks = v1 := by simpa [F.vals, F.valN] using hv1
      have hn0 := val_nn kok ok.one.1 0 al
      have hn1 := val_nn kok ok.one.1 1 al
      have hww := hw
      unfold Within at hw
      rw [hz0] at hn0 hle ⊢
      rw [hz1] at hn1 hle ⊢
      refine body_node (g := fun i => (ks.txl (ks.kx al x y i).1 (ks.kx al x y i).2).getD i []) (by omega) ok.way.1 ok.one.1 kok ht hB ⟨hin.1, hin.2.1, hin.2.2.1, trivial⟩ k0 k1 ?_ ?_
      · intro V hT hBV hV i v hi hv
        have q0 : i < (ks.vals 0 (szA 0)).length := by rw [F.vals_len]; exact hi
        have q1 : i < (ks.vals 1 (szA 1)).length := by rw [F.vals_len]; exact hi
        have q2 : i < (ks.txl (ks.kx al x y i).1 (ks.kx al x y i).2).length := by rw [F.txl_len]; exact hi
        have e : (ks.txl (ks.kx al x y i).1 (ks.kx al x y i).2).getD i [] = (ks.txl (ks.kx al x y i).1 (ks.kx al x y i).2)[i] := by
          rw [List.getD_eq_getElem?_getD, List.getElem?_eq_getElem q2]; rfl
        show Calls _ _ _ _ fun e V' => e = .returned (.string (bs ((ks.txl (ks.kx al x y i).1 (ks.kx al x y i).2).getD i []))) ∧ _
        rw [e]
        exact ihk kok V hT hBV hV i v (ks.kx al x y i).1 (ks.kx al x y i).2 _ _ _ hv (List.getElem?_eq_getElem q0) (List.getElem?_eq_getElem q1) (List.getElem?_eq_getElem q2) (kid_within ok.way.1 kok.one kok.siz kok.few hz0 hz1 (List.getElem?_eq_getElem q0) (List.getElem?_eq_getElem q1) hww)
      · generalize Lib.join ((List.range ks.len).map fun i => (ks.txl (ks.kx al x y i).1 (ks.kx al x y i).2).getD i []) [44] = J at *
        have : J.length ≤ (foldP al (headP v0 v1 x y) J).length := by
          unfold foldP
          split <;> (simp only [List.length_append]; omega)
        omega
theorem mem_le_sum {l : List Nat} {x : Nat} (h : x ∈ l) : x ≤ l.sum := by
  induction l with
  | nil => cases h
  | cons y l ih =>
    rw [List.sum_cons]
    rcases List.mem_cons.1 h with rfl | h
    · omega
    · have := ih h; omega
/-- What is printed: the sum, a comma, the text. -/
def printP (t : Tx) : Tx := sumX t ++ [44] ++ t
set_option maxRecDepth 100000 in
set_option maxHeartbeats 4000000 in
theorem Print_at {B tb : Nat} {f : F} {w : World} {v0 v1 : Int} {t : Tx} (ok : f.Ok) (ht : Tab B w) (hB : B ≤ w.heap.size) (hin : f.In w) (hv : f.ptrs[0]? = some (pV tb)) (h0 : (f.vals 0 (szA 0))[0]? = some v0) (h1 : (f.vals 1 (szA 1))[0]? = some v1) (hl : (f.txl 0 0)[0]? = some t) (hw : Within 0 0 v0 v1) :
    Calls Tryd.prog 9 #[pV tb] w fun e w' => e = .returned (.string (bs (printP t))) ∧ Below w.heap.size w w' := by
  have hk := body_at f ok w ht hB hin 0 _ 0 0 v0 v1 t hv h0 h1 hl hw
  have htl : t.length ≤ 200000000 := by
    have hc : 0 < f.szs.length := by
      rw [F.szs_len, ← F.ptrs_len]
      exact (List.getElem?_eq_some_iff.1 hv).1
    have h1 := F.txl_le f ok 0 0 0 v0 v1 t _ h0 h1 hw hl (List.getElem?_eq_getElem hc)
    have h2 := F.szs_sum f
    have h3 := ok.big
    have h4 := mem_le_sum (List.getElem_mem hc)
    omega
  have hs := fun V (hV : Below w.heap.size w V) => sumText_at t V (by omega) (ht.on hB hV) (Nat.le_trans hB hV.size)
  have hx : (sumX t).length ≤ 7 := by
    have := hexT_len (sumP t).toNat
    unfold sumX padP
    rw [List.length_drop]
    simp only [List.length_append, List.length_cons, List.length_nil]
    omega
  have hsz : ∀ a b : ByteArray, (a ++ b).size = a.size + b.size := fun a b => ByteArray.size_append
  obtain ⟨T, hT⟩ : ∃ T, T = bs t := ⟨_, rfl⟩
  obtain ⟨S, hS⟩ : ∃ S, S = bs (sumX t) := ⟨_, rfl⟩
  have z1 : S.size ≤ 7 := by rw [hS, bs_size]; exact hx
  have z2 : T.size ≤ 200000000 := by rw [hT, bs_size]; exact htl
  obtain ⟨U1, hU1⟩ : ∃ U, S ++ ({ data := #[44] } : ByteArray) = U := ⟨_, rfl⟩
  obtain ⟨U2, hU2⟩ : ∃ U, U1 ++ T = U := ⟨_, rfl⟩
  have z3 : U1.size ≤ 8 := by rw [← hU1, hsz]; have : ({ data := #[44] } : ByteArray).size = 1 := rfl; omega
  have c1 : ¬ 9223372036854775807 < S.size + 1 := by omega
  have c2 : ¬ 9223372036854775807 < U1.size + T.size := by omega
  have hR : bs (printP t) = U2 := by
    rw [← hU2, ← hU1, hS, hT, show ({ data := #[44] } : ByteArray) = bs [44] from rfl]
    simp only [bs_app]
    rfl
  rw [hR]
  rw [← hT] at hk
  rw [← hT, ← hS] at hs
  have HK := Lib.hid hk
  have HS := Lib.hid hs
  clear hk hs hR hS hT z1 z2 z3 hx htl hsz ht hin hv h0 h1 hl hw ok
  unfold pV at HK ⊢
  go_enter Tryd.func9, Tryd.ntmps9
  go_wp2_with fail
  refine HK.out.mono ?_
  rintro _ w1 ⟨rfl, hb1⟩
  go_wp2_with fail
  refine (HS.out _ hb1).mono ?_
  rintro _ w2 ⟨rfl, hb2⟩
  go_wp2_with fail
  go_ret
  exact ⟨rfl, hb1.trans (hb2.mono hb1.size)⟩
end Go.Proofs.YtkanglfpiahecaaDoor.Lyt
