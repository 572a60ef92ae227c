/- The variables that layer 3 reads: the names of the colours, and the library's tables and errors. -/
import Derived.Test.YtajnlbfhcbkopaaDoorRig
import Derived.Test.YtajnlbfhcbkopaaDoorShelf
import Derived.Lib.AppendIntMem
namespace Go.Proofs.YtajnlbfhcbkopaaDoor.Sty
open Go.RowKit

/-- A list of bytes as a text. -/
def bs (l : Tx) : ByteArray := ⟨l.toArray⟩
theorem bs_app (a b : Tx) : bs a ++ bs b = bs (a ++ b) := by
  unfold bs
  exact ByteArray.ext (by simp)
theorem bs_list (l : Tx) : (bs l).data.toList = l := by simp [bs]
theorem bs_tl (l : Tx) : (bs l).toList = l := by unfold bs; simp
theorem bs_size (l : Tx) : (bs l).size = l.length := by show (bs l).data.size = _; rw [← Array.length_toList, bs_list]
theorem bs_of (s : ByteArray) : s = bs s.data.toList := by cases s; simp [bs]
theorem bs_inj {a b : Tx} (h : bs a = bs b) : a = b := by rw [← bs_list a, h, bs_list]
def namedCells : Array Value := (eight.map fun l => Value.string (bs l)).toArray
def dbl : List Nat := [0, 1, 56, 2, 57, 49, 28, 3, 61, 58, 42, 50, 38, 29, 17, 4, 62, 47, 59, 36, 45, 43, 51, 22, 53, 39, 33, 30, 24, 18, 12, 5, 63, 55, 48, 27, 60, 41, 37, 16, 46, 35, 44, 21, 52, 32, 23, 11, 54, 26, 40, 15, 34, 20, 31, 10, 25, 14, 19, 9, 13, 8, 7, 6]
def dbCells : Array Value := (dbl.map fun k => Value.int .u8 ((k : Nat) : Int)).toArray
def u10Cells : Array Value := (Lib.pow10Tab.map fun z => Value.int .u64 z).toArray
/-- Where they lie, and what they hold: all below block B. -/
structure Tabs (B : Nat) (w : World) : Prop where
  low : 0 < B ∧ 1 < B ∧ 3 < B ∧ 4 < B ∧ 5 < B
  named : ∃ t fr, w.heap[0]? = some (.cells namedCells t fr)
  u10 : ∃ t fr, w.heap[1]? = some (.cells u10Cells t fr)
  db : ∃ t fr, w.heap[3]? = some (.cells dbCells t fr)
  syn : ∃ te pe, w.cell? ⟨4, 0, none⟩ = some (.iface te pe)
  rng : ∃ te pe, w.cell? ⟨5, 0, none⟩ = some (.iface te pe)
theorem Tabs.below {B : Nat} {w w' : World} (h : Tabs B w) (hb : Below B w w') : Tabs B w' := by
  obtain ⟨l, ⟨t1, f1, h1⟩, ⟨t2, f2, h2⟩, ⟨t3, f3, h3⟩, ⟨t4, f4, h4⟩, ⟨t5, f5, h5⟩⟩ := h
  refine ⟨l, ⟨t1, f1, ?_⟩, ⟨t2, f2, ?_⟩, ⟨t3, f3, ?_⟩, ⟨t4, f4, ?_⟩, ⟨t5, f5, ?_⟩⟩
  · exact (hb.block _ l.1).trans h1
  · exact (hb.block _ l.2.1).trans h2
  · exact (hb.block _ l.2.2.1).trans h3
  · exact (hb.cell (p := ⟨4, 0, none⟩) l.2.2.2.1).trans h4
  · exact (hb.cell (p := ⟨5, 0, none⟩) l.2.2.2.2).trans h5
/-- From a later world, all that was there being as it was. -/
theorem Tabs.on {B : Nat} {w w' : World} (h : Tabs B w) (hB : B ≤ w.heap.size) (hb : Below w.heap.size w w') : Tabs B w' := h.below (hb.mono hB)
theorem gU10 : Tryd.prog.globalNamed "internal/strconv.uint64pow10" = some 1 := by kernel_rfl
theorem Tabs.tabIs {B : Nat} {w : World} (h : Tabs B w) : Lib.TabIs Tryd.prog w "internal/strconv.uint64pow10" .u64 Lib.pow10Tab := by
  obtain ⟨t, fr, h2⟩ := h.u10
  unfold Lib.TabIs World.var?
  rw [gU10]
  simp only [Option.bind_some, h2]
  rfl
theorem Tabs.name {B : Nat} {w : World} (h : Tabs B w) (i : Nat) (hi : i < 8) : w.cell? ⟨0, i, none⟩ = some (.string (bs (eight.getD i []))) := by
  obtain ⟨t, fr, h1⟩ := h.named
  rw [cell_of_row w _ i _ t fr h1]
  match i, hi with
  | 0, _ => rfl
  | 1, _ => rfl
  | 2, _ => rfl
  | 3, _ => rfl
  | 4, _ => rfl
  | 5, _ => rfl
  | 6, _ => rfl
  | 7, _ => rfl
  | n + 8, hi => exact absurd hi (by omega)
theorem itoa_any {B : Nat} (n : Nat) (hn : n < 1000) (w : World) (ht : Tabs B w) :
    Calls Tryd.prog 34 #[.int .i64 n] w fun e w' => e = .returned (.string (bs (dec n))) ∧ Below w.heap.size w w' :=
  (Tryd.strconv_Itoa n (by omega) (by omega) w ht.tabIs).mono fun e w' ⟨he, k, os, hw⟩ => by
    refine ⟨?_, ?_⟩
    · rw [he, itoa_dec n hn]; rfl
    · rw [hw]; exact Lib.below_grow _ _ (Nat.le_refl _) _ _

/-! ### How many noughts stand at the end of a power of two -/
theorem zeros_0 {B : Nat} (w : World) (ht : Tabs B w) :
    Calls Tryd.prog 62 #[.int .u64 1] w fun e w' => e = .returned (.int .i64 0) ∧ w = w' := by
  obtain ⟨t, fr, h1⟩ := ht.db
  have hc : w.cell? ⟨3, 0, none⟩ = some (.int .u8 0) := cell_of_row w _ 0 _ t fr h1
  clear h1 ht
  have b0 : IntKind.u64.wrap (-1) = 18446744073709551615 := by kernel_rfl
  have b1 : bits .and .u64 1 18446744073709551615 = 1 := by kernel_rfl
  have b2 : IntKind.u64.wrap 285870213051353865 = 285870213051353865 := by kernel_rfl
  go_enter Tryd.func62, Tryd.ntmps62
  go_wp2
  go_ret
  exact ⟨rfl, rfl⟩
theorem zeros_1 {B : Nat} (w : World) (ht : Tabs B w) :
    Calls Tryd.prog 62 #[.int .u64 2] w fun e w' => e = .returned (.int .i64 1) ∧ w = w' := by
  obtain ⟨t, fr, h1⟩ := ht.db
  have hc : w.cell? ⟨3, 1, none⟩ = some (.int .u8 1) := cell_of_row w _ 1 _ t fr h1
  clear h1 ht
  have b0 : IntKind.u64.wrap (-2) = 18446744073709551614 := by kernel_rfl
  have b1 : bits .and .u64 2 18446744073709551614 = 2 := by kernel_rfl
  have b2 : IntKind.u64.wrap 571740426102707730 = 571740426102707730 := by kernel_rfl
  go_enter Tryd.func62, Tryd.ntmps62
  go_wp2
  go_ret
  exact ⟨rfl, rfl⟩
theorem zeros_2 {B : Nat} (w : World) (ht : Tabs B w) :
    Calls Tryd.prog 62 #[.int .u64 4] w fun e w' => e = .returned (.int .i64 2) ∧ w = w' := by
  obtain ⟨t, fr, h1⟩ := ht.db
  have hc : w.cell? ⟨3, 3, none⟩ = some (.int .u8 2) := cell_of_row w _ 3 _ t fr h1
  clear h1 ht
  have b0 : IntKind.u64.wrap (-4) = 18446744073709551612 := by kernel_rfl
  have b1 : bits .and .u64 4 18446744073709551612 = 4 := by kernel_rfl
  have b2 : IntKind.u64.wrap 1143480852205415460 = 1143480852205415460 := by kernel_rfl
  go_enter Tryd.func62, Tryd.ntmps62
  go_wp2
  go_ret
  exact ⟨rfl, rfl⟩
theorem zeros_3 {B : Nat} (w : World) (ht : Tabs B w) :
    Calls Tryd.prog 62 #[.int .u64 8] w fun e w' => e = .returned (.int .i64 3) ∧ w = w' := by
  obtain ⟨t, fr, h1⟩ := ht.db
  have hc : w.cell? ⟨3, 7, none⟩ = some (.int .u8 3) := cell_of_row w _ 7 _ t fr h1
  clear h1 ht
  have b0 : IntKind.u64.wrap (-8) = 18446744073709551608 := by kernel_rfl
  have b1 : bits .and .u64 8 18446744073709551608 = 8 := by kernel_rfl
  have b2 : IntKind.u64.wrap 2286961704410830920 = 2286961704410830920 := by kernel_rfl
  go_enter Tryd.func62, Tryd.ntmps62
  go_wp2
  go_ret
  exact ⟨rfl, rfl⟩
theorem zeros_4 {B : Nat} (w : World) (ht : Tabs B w) :
    Calls Tryd.prog 62 #[.int .u64 16] w fun e w' => e = .returned (.int .i64 4) ∧ w = w' := by
  obtain ⟨t, fr, h1⟩ := ht.db
  have hc : w.cell? ⟨3, 15, none⟩ = some (.int .u8 4) := cell_of_row w _ 15 _ t fr h1
  clear h1 ht
  have b0 : IntKind.u64.wrap (-16) = 18446744073709551600 := by kernel_rfl
  have b1 : bits .and .u64 16 18446744073709551600 = 16 := by kernel_rfl
  have b2 : IntKind.u64.wrap 4573923408821661840 = 4573923408821661840 := by kernel_rfl
  go_enter Tryd.func62, Tryd.ntmps62
  go_wp2
  go_ret
  exact ⟨rfl, rfl⟩
theorem zeros_5 {B : Nat} (w : World) (ht : Tabs B w) :
    Calls Tryd.prog 62 #[.int .u64 32] w fun e w' => e = .returned (.int .i64 5) ∧ w = w' := by
  obtain ⟨t, fr, h1⟩ := ht.db
  have hc : w.cell? ⟨3, 31, none⟩ = some (.int .u8 5) := cell_of_row w _ 31 _ t fr h1
  clear h1 ht
  have b0 : IntKind.u64.wrap (-32) = 18446744073709551584 := by kernel_rfl
  have b1 : bits .and .u64 32 18446744073709551584 = 32 := by kernel_rfl
  have b2 : IntKind.u64.wrap 9147846817643323680 = 9147846817643323680 := by kernel_rfl
  go_enter Tryd.func62, Tryd.ntmps62
  go_wp2
  go_ret
  exact ⟨rfl, rfl⟩
theorem zeros_6 {B : Nat} (w : World) (ht : Tabs B w) :
    Calls Tryd.prog 62 #[.int .u64 64] w fun e w' => e = .returned (.int .i64 6) ∧ w = w' := by
  obtain ⟨t, fr, h1⟩ := ht.db
  have hc : w.cell? ⟨3, 63, none⟩ = some (.int .u8 6) := cell_of_row w _ 63 _ t fr h1
  clear h1 ht
  have b0 : IntKind.u64.wrap (-64) = 18446744073709551552 := by kernel_rfl
  have b1 : bits .and .u64 64 18446744073709551552 = 64 := by kernel_rfl
  have b2 : IntKind.u64.wrap 18295693635286647360 = 18295693635286647360 := by kernel_rfl
  go_enter Tryd.func62, Tryd.ntmps62
  go_wp2
  go_ret
  exact ⟨rfl, rfl⟩
theorem zeros_7 {B : Nat} (w : World) (ht : Tabs B w) :
    Calls Tryd.prog 62 #[.int .u64 128] w fun e w' => e = .returned (.int .i64 7) ∧ w = w' := by
  obtain ⟨t, fr, h1⟩ := ht.db
  have hc : w.cell? ⟨3, 62, none⟩ = some (.int .u8 7) := cell_of_row w _ 62 _ t fr h1
  clear h1 ht
  have b0 : IntKind.u64.wrap (-128) = 18446744073709551488 := by kernel_rfl
  have b1 : bits .and .u64 128 18446744073709551488 = 128 := by kernel_rfl
  have b2 : IntKind.u64.wrap 36591387270573294720 = 18144643196863743104 := by kernel_rfl
  go_enter Tryd.func62, Tryd.ntmps62
  go_wp2
  go_ret
  exact ⟨rfl, rfl⟩
end Go.Proofs.YtajnlbfhcbkopaaDoor.Sty
