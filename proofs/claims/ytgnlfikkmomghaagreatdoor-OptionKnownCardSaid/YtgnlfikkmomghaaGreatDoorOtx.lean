/- The variables that layer 8 reads: the library's tables and errors, the names of the colours; texts cut at a byte. -/
import Derived.Test.YtgnlfikkmomghaaGreatDoorOul
import Derived.Test.YtgnlfikkmomghaaGreatDoorShelf
import Derived.Lib.AppendIntMem
import Derived.Lib.IndexLaws
import Derived.Lib.AtoiErrMem
import Derived.Shelf.Strings.SlTrimAscii
namespace Go.Proofs.YtgnlfikkmomghaaGreatDoor.Opt
open Go.RowKit

def eight : List Tx := [[98, 108, 97, 99, 107], [114, 101, 100], [103, 114, 101, 101, 110], [121, 101, 108, 108, 111, 119], [98, 108, 117, 101], [109, 97, 103, 101, 110, 116, 97], [99, 121, 97, 110], [119, 104, 105, 116, 101]]
def namedCells : Array Value := (eight.map fun l => Value.string (bs l)).toArray
def dbl : List Nat := [0, 1, 56, 2, 57, 49, 28, 3, 61, 58, 42, 50, 38, 29, 17, 4, 62, 47, 59, 36, 45, 43, 51, 22, 53, 39, 33, 30, 24, 18, 12, 5, 63, 55, 48, 27, 60, 41, 37, 16, 46, 35, 44, 21, 52, 32, 23, 11, 54, 26, 40, 15, 34, 20, 31, 10, 25, 14, 19, 9, 13, 8, 7, 6]
def dbCells : Array Value := (dbl.map fun k => Value.int .u8 ((k : Nat) : Int)).toArray
def u10Cells : Array Value := (Lib.pow10Tab.map fun z => Value.int .u64 z).toArray
/-- Where they lie, and what they hold: all below block B. -/
structure Tabs (B : Nat) (w : World) : Prop where
  low : 3 < B ∧ 6 < B ∧ 8 < B ∧ 0 < B ∧ 1 < B
  named : ∃ t fr, w.heap[3]? = some (.cells namedCells t fr)
  u10 : ∃ t fr, w.heap[6]? = some (.cells u10Cells t fr)
  db : ∃ t fr, w.heap[8]? = some (.cells dbCells t fr)
  syn : ∃ te pe, w.cell? ⟨0, 0, none⟩ = some (.iface te pe)
  rng : ∃ te pe, w.cell? ⟨1, 0, none⟩ = some (.iface te pe)
theorem Tabs.below {B : Nat} {w w' : World} (h : Tabs B w) (hb : Below B w w') : Tabs B w' := by
  obtain ⟨l, ⟨t1, f1, h1⟩, ⟨t2, f2, h2⟩, ⟨t3, f3, h3⟩, ⟨t4, f4, h4⟩, ⟨t5, f5, h5⟩⟩ := h
  refine ⟨l, ⟨t1, f1, ?_⟩, ⟨t2, f2, ?_⟩, ⟨t3, f3, ?_⟩, ⟨t4, f4, ?_⟩, ⟨t5, f5, ?_⟩⟩
  · exact (hb.block _ l.1).trans h1
  · exact (hb.block _ l.2.1).trans h2
  · exact (hb.block _ l.2.2.1).trans h3
  · exact (hb.cell (p := ⟨0, 0, none⟩) l.2.2.2.1).trans h4
  · exact (hb.cell (p := ⟨1, 0, none⟩) l.2.2.2.2).trans h5
/-- From a later world, all that was there being as it was. -/
theorem Tabs.on {B : Nat} {w w' : World} (h : Tabs B w) (hB : B ≤ w.heap.size) (hb : Below w.heap.size w w') : Tabs B w' := h.below (hb.mono hB)
theorem gU10 : Tryz.prog.globalNamed "internal/strconv.uint64pow10" = some 6 := by kernel_rfl
theorem Tabs.tabIs {B : Nat} {w : World} (h : Tabs B w) : Lib.TabIs Tryz.prog w "internal/strconv.uint64pow10" .u64 Lib.pow10Tab := by
  obtain ⟨t, fr, h2⟩ := h.u10
  unfold Lib.TabIs World.var?
  rw [gU10]
  simp only [Option.bind_some, h2]
  rfl
theorem itoa_any {B : Nat} (n : Int) (h0 : -9223372036854775808 ≤ n) (h1 : n ≤ 9223372036854775807) (w : World) (ht : Tabs B w) :
    Calls Tryz.prog 86 #[.int .i64 n] w fun e w' => e = .returned (.string (bs (Lib.itoa n))) ∧ Below w.heap.size w w' :=
  (Tryz.strconv_Itoa n h0 h1 w ht.tabIs).mono fun e w' ⟨he, k, os, hw⟩ => ⟨he, by rw [hw]; exact Lib.below_grow _ _ (Nat.le_refl _) _ _⟩
/-- What Atoi hands back: the number; is there an error? -/
def atoiP (l : Tx) : Int × Bool := match Lib.atoiAll l with
  | .ok v => (v, false)
  | .syntax => (0, true)
  | .range => (Lib.atoiSat l, true)
theorem atoi_any {B : Nat} (l : Tx) (hl : l.length ≤ 281474976710656) (w : World) (ht : Tabs B w) :
    Calls Tryz.prog 78 #[.string (bs l)] w fun e w' => (∃ ev, e = .returned (.tuple #[.int .i64 (atoiP l).1, ev]) ∧ (if (atoiP l).2 = true then ∃ t p, ev = .iface t p else ev = .nilIface)) ∧ Below w.heap.size w w' := by
  obtain ⟨te, pe, hs⟩ := ht.syn
  obtain ⟨tr, pr, hr⟩ := ht.rng
  have hsz : (bs l).size ≤ 281474976710656 := by rw [bs_size]; exact hl
  have hA : Lib.atoiAll (bs l).data.toList = Lib.atoiAll l := by rw [bs_list]
  have hS : Lib.atoiSat (bs l).data.toList = Lib.atoiSat l := by rw [bs_list]
  cases ha : Lib.atoiAll l with
  | ok v =>
    have e1 : atoiP l = (v, false) := by unfold atoiP; rw [ha]
    rw [e1]
    refine (Tryz.strconv_Atoi_ok (bs l) (by omega) v (hA.trans ha) w).mono fun e w' h => ?_
    obtain ⟨rfl, hw⟩ := h
    refine ⟨⟨_, rfl, by simp⟩, ?_⟩
    rcases hw with rfl | ⟨t, rfl⟩
    · exact Below.refl _ _
    · exact Lib.bytesWorld_below _ _ _
  | «syntax» =>
    have e1 : atoiP l = (0, true) := by unfold atoiP; rw [ha]
    rw [e1]
    refine (Tryz.strconv_Atoi_syntax (bs l) hsz (hA.trans ha) _ w hs (.inr ⟨_, _, rfl⟩)).mono fun e w' h => ?_
    obtain ⟨N, rfl, _, _, hb⟩ := h
    exact ⟨⟨_, rfl, by simp⟩, hb⟩
  | range =>
    have e1 : atoiP l = (Lib.atoiSat l, true) := by unfold atoiP; rw [ha]
    rw [e1]
    refine (Tryz.strconv_Atoi_range (bs l) hsz (hA.trans ha) _ w hr (.inr ⟨_, _, rfl⟩)).mono fun e w' h => ?_
    obtain ⟨N, rfl, _, _, hb⟩ := h
    rw [hS]
    exact ⟨⟨_, rfl, by simp⟩, hb⟩
end Go.Proofs.YtgnlfikkmomghaaGreatDoor.Opt
