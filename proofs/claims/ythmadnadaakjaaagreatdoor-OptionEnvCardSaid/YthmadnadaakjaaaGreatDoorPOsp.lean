/- Blocks that are known whole; what a call may turn. -/
import Derived.Test.YthmadnadaakjaaaGreatDoorProg
import Derived.WalkKit
import Derived.WalkLawsBesides
import Derived.WalkSpells
import Derived.WalkSmall
import Derived.Lib.Hide
import Derived.Outline
import Derived.Maps.AppendAt
import Derived.Deep.AppendLies
import Derived.Deep.Draws
import Derived.Deep.QuietTactic
import Derived.Deep.MidRow
import Derived.Deep.RegionWith
import Derived.Deep.RegionHeld3
import Derived.Deep.DeepCutAuto
import Derived.Deep.CutRange
import Derived.BigQuiet
import Derived.RangeFuncNested
import Derived.RangeFuncBound
import Derived.RangeFuncCalls
import Derived.RangeFuncLeaves
import Derived.Shelf.Abstract
import Derived.Shelf.RegionOpen
import Derived.OwnWalkIn
import Derived.TacticsInMore
import Derived.LoopNIn
import Derived.LoopIn
import Derived.Great.BuildSlice
import Derived.Maps.OwnOps
import Derived.Maps.OwnIn
import Derived.Maps.OwnSet
import Derived.Laws.CopyRow
import Derived.Laws.MakeOwn
import Derived.Maps.Views
import Derived.StringKeys
import Derived.Deep.LoopGhost
import Derived.Test.YthmadnadaakjaaaGreatDoorPShelf
import Derived.Lib.AppendIntMem
import Derived.Lib.IndexLaws
import Derived.Lib.AtoiErrMem
import Derived.Shelf.Strings.SlTrimAscii
namespace Go.Proofs.YthmadnadaakjaaaGreatDoor.Opt
open Go.RowKit
/-! ### A block that is known whole -/
def BL (w : World) (b : Nat) (t : TypeId) (xs : List Value) : Prop := w.heap[b]? = some (.cells xs.toArray t (0, 0))
section
variable {w w' : World} {b : Nat} {t : TypeId} {xs : List Value}
theorem BL.lt (h : BL w b t xs) : b < w.heap.size := by
  rcases Nat.lt_or_ge b w.heap.size with hlt | hge
  · exact hlt
  · unfold BL at h; rw [Array.getElem?_eq_none hge] at h; cases h
theorem BL.cell (h : BL w b t xs) (i : Nat) : w.cell? ⟨b, i, none⟩ = xs[i]? := by
  have := cell_of_row w b i xs.toArray t (0, 0) h
  simpa using this
theorem BL.frozen (h : BL w b t xs) (i : Nat) : w.frozen? ⟨b, i, none⟩ = false := by
  unfold BL at h
  simp [World.frozen?, h]
theorem BL.new (w : World) (t : TypeId) (xs : List Value) : BL (w.alloc (.cells xs.toArray t)) w.heap.size t xs := heap_alloc_new w _
theorem BL.keep (h : BL w b t xs) (e : w'.heap[b]? = w.heap[b]?) : BL w' b t xs := e.trans h
theorem BL.alloc (h : BL w b t xs) (o : Obj) : BL (w.alloc o) b t xs := (Below.heap_alloc w o b h.lt).trans h
theorem BL.drew (h : BL w b t xs) : BL w.drew b t xs := h
theorem BL.set_ (h : BL w b t xs) (i : Nat) (u : Value) : BL (w.setCell ⟨b, i, none⟩ u) b t (xs.set i u) := by
  unfold BL at h ⊢
  simp [World.setCell, Array.getElem?_modify, h]
theorem BL.range (h : BL w b t xs) {o : Nat} {vs : List Value} (hv : ∀ j v, vs[j]? = some v → xs[o + j]? = some v) : w.rangeAt b o vs := fun j v hj => by
  rw [h.cell]; exact hv j v hj
theorem BL.there (h : BL w b t xs) {o n : Nat} (hn : o + n ≤ xs.length) : w.there b o n := fun j hj => by
  refine ⟨?_, h.frozen _⟩
  rw [h.cell, List.getElem?_eq_getElem (by omega)]
  rfl
end
/-! ### What a call may turn -/
/-- No block but those of F has turned; none has gone; the streams are as they were. -/
structure Only (F : List Nat) (w w' : World) : Prop where
  os : w'.os = w.os
  tape : w'.tape = w.tape
  output : w'.output = w.output
  size : w.heap.size ≤ w'.heap.size
  block : ∀ k, k < w.heap.size → k ∉ F → w'.heap[k]? = w.heap[k]?
theorem Only.refl (F : List Nat) (w : World) : Only F w w := ⟨rfl, rfl, rfl, Nat.le_refl _, fun _ _ _ => rfl⟩
theorem Only.trans {F : List Nat} {a b c : World} (h : Only F a b) (k : Only F b c) : Only F a c :=
  ⟨k.os.trans h.os, k.tape.trans h.tape, k.output.trans h.output, Nat.le_trans h.size k.size, fun i hi hn => (k.block i (Nat.lt_of_lt_of_le hi h.size) hn).trans (h.block i hi hn)⟩
/-- Behind a call that may turn other blocks, those that were not there yet among them. -/
theorem Only.trans2 {F G : List Nat} {a b c : World} (h : Only F a b) (k : Only G b c) (hG : ∀ x ∈ G, x ∈ F ∨ a.heap.size ≤ x) : Only F a c :=
  ⟨k.os.trans h.os, k.tape.trans h.tape, k.output.trans h.output, Nat.le_trans h.size k.size, fun i hi hn => (k.block i (Nat.lt_of_lt_of_le hi h.size) (fun hg => by rcases hG i hg with x | x; exact hn x; omega)).trans (h.block i hi hn)⟩
theorem Only.mono {F G : List Nat} {a b : World} (h : Only F a b) (hG : ∀ x ∈ F, x ∈ G) : Only G a b := ⟨h.os, h.tape, h.output, h.size, fun k hk hn => h.block k hk (fun x => hn (hG k x))⟩
theorem Only.alloc {F : List Nat} {a w : World} (h : Only F a w) (o : Obj) : Only F a (w.alloc o) :=
  h.trans ⟨rfl, rfl, rfl, by simp, fun k hk _ => Below.heap_alloc _ _ _ hk⟩
theorem Only.drew {F : List Nat} {a w : World} (h : Only F a w) : Only F a w.drew := ⟨h.os, h.tape, h.output, h.size, h.block⟩
theorem Only.setCell {F : List Nat} {a w : World} (h : Only F a w) {p : Addr} (hb : p.block ∈ F ∨ a.heap.size ≤ p.block) (u : Value) : Only F a (w.setCell p u) :=
  ⟨h.os, h.tape, h.output, by simp [World.setCell]; exact h.size, fun k hk hn => by
    rw [Below.heap_setCell w p u k (fun e => by subst e; rcases hb with x | x; exact hn x; omega)]; exact h.block k hk hn⟩
/-- A call that only makes new blocks. -/
theorem Only.of_below {F : List Nat} {a b : World} (h : Below a.heap.size a b) : Only F a b := ⟨h.os, h.tape, h.output, h.size, fun k hk _ => h.block k hk⟩
theorem Only.below {F : List Nat} {B : Nat} {a b : World} (h : Only F a b) (hB : B ≤ a.heap.size) (hF : ∀ x ∈ F, B ≤ x) : Below B a b := ⟨h.os, h.tape, h.output, h.size, fun k hk => h.block k (by omega) (fun x => by have := hF k x; omega)⟩
theorem Only.nil_below {a b : World} (h : Only [] a b) : Below a.heap.size a b := h.below (Nat.le_refl _) (fun _ h => by cases h)
theorem BL.only {w w' : World} {b : Nat} {t : TypeId} {xs : List Value} {F : List Nat} (h : BL w b t xs) (ho : Only F w w') (hb : b ∉ F) : BL w' b t xs := h.keep (ho.block b h.lt hb)

/-! ### Rows of cells -/
abbrev slV (b o n c : Nat) : Value := .slice (some ⟨b, o, none⟩) n c

/-! ### Texts -/
abbrev Tx := List UInt8
/-- A list of bytes as a text. -/
def bs (l : Tx) : ByteArray := ⟨l.toArray⟩
theorem bs_app (a b : Tx) : bs a ++ bs b = bs (a ++ b) := by
  unfold bs
  exact ByteArray.ext (by simp)
theorem bs_list (l : Tx) : (bs l).data.toList = l := by simp [bs]
theorem bs_size (l : Tx) : (bs l).size = l.length := by show (bs l).data.size = _; rw [← Array.length_toList, bs_list]
theorem bs_of (s : ByteArray) : s = bs s.data.toList := by cases s; simp [bs]
theorem bs_inj {a b : Tx} (h : bs a = bs b) : a = b := by rw [← bs_list a, h, bs_list]
/-! ### The table -/
structure Op8 where
  name : Tx
  scope : Int
  kind : Tx
  first : Tx
  least : Int
  most : Int
  choices : Tx
deriving DecidableEq
def optL (o : Op8) : List Value := [.string (bs o.name), .int .i64 o.scope, .string (bs o.kind), .string (bs o.first), .int .i64 o.least, .int .i64 o.most, .string (bs o.choices)]
def optV (o : Op8) : Value := .agg (optL o).toArray
/-- As the literal has it: without its scope. -/
def opt0 (o : Op8) : List Value := [.string (bs o.name), .int .i64 0, .string (bs o.kind), .string (bs o.first), .int .i64 o.least, .int .i64 o.most, .string (bs o.choices)]
def srvL : List Op8 := [
  ⟨[98, 117, 102, 102, 101, 114, 45, 108, 105, 109, 105, 116], 1, [110, 117, 109, 98, 101, 114], [50, 48], 1, 20, []⟩,
  ⟨[99, 111, 109, 109, 97, 110, 100, 45, 97, 108, 105, 97, 115], 1, [97, 114, 114, 97, 121], [], 0, 0, []⟩,
  ⟨[100, 101, 102, 97, 117, 108, 116, 45, 116, 101, 114, 109, 105, 110, 97, 108], 1, [115, 116, 114, 105, 110, 103], [115, 99, 114, 101, 101, 110], 0, 0, []⟩,
  ⟨[101, 115, 99, 97, 112, 101, 45, 116, 105, 109, 101], 1, [110, 117, 109, 98, 101, 114], [53, 48, 48], 0, 10000, []⟩,
  ⟨[101, 120, 105, 116, 45, 101, 109, 112, 116, 121], 1, [102, 108, 97, 103], [111, 110], 0, 0, []⟩,
  ⟨[101, 120, 105, 116, 45, 117, 110, 97, 116, 116, 97, 99, 104, 101, 100], 1, [102, 108, 97, 103], [111, 102, 102], 0, 0, []⟩,
  ⟨[102, 111, 99, 117, 115, 45, 101, 118, 101, 110, 116, 115], 1, [102, 108, 97, 103], [111, 102, 102], 0, 0, []⟩,
  ⟨[109, 101, 115, 115, 97, 103, 101, 45, 108, 105, 109, 105, 116], 1, [110, 117, 109, 98, 101, 114], [49, 48, 48], 0, 1000, []⟩,
  ⟨[115, 101, 116, 45, 99, 108, 105, 112, 98, 111, 97, 114, 100], 1, [99, 104, 111, 105, 99, 101], [101, 120, 116, 101, 114, 110, 97, 108], 0, 0, [111, 102, 102, 44, 101, 120, 116, 101, 114, 110, 97, 108, 44, 111, 110]⟩,
  ⟨[117, 115, 101, 114, 45, 107, 101, 121, 115], 1, [97, 114, 114, 97, 121], [], 0, 0, []⟩]
def sesL : List Op8 := [
  ⟨[98, 97, 115, 101, 45, 105, 110, 100, 101, 120], 2, [110, 117, 109, 98, 101, 114], [48], 0, 9999, []⟩,
  ⟨[100, 101, 102, 97, 117, 108, 116, 45, 99, 111, 109, 109, 97, 110, 100], 2, [115, 116, 114, 105, 110, 103], [], 0, 0, []⟩,
  ⟨[100, 101, 102, 97, 117, 108, 116, 45, 115, 104, 101, 108, 108], 2, [115, 116, 114, 105, 110, 103], [47, 98, 105, 110, 47, 115, 104], 0, 0, []⟩,
  ⟨[100, 101, 115, 116, 114, 111, 121, 45, 117, 110, 97, 116, 116, 97, 99, 104, 101, 100], 2, [102, 108, 97, 103], [111, 102, 102], 0, 0, []⟩,
  ⟨[100, 101, 116, 97, 99, 104, 45, 111, 110, 45, 100, 101, 115, 116, 114, 111, 121], 2, [102, 108, 97, 103], [111, 110], 0, 0, []⟩,
  ⟨[100, 105, 115, 112, 108, 97, 121, 45, 116, 105, 109, 101], 2, [110, 117, 109, 98, 101, 114], [55, 53, 48], 0, 100000, []⟩,
  ⟨[104, 105, 115, 116, 111, 114, 121, 45, 108, 105, 109, 105, 116], 2, [110, 117, 109, 98, 101, 114], [50, 48, 48, 48], 0, 2000, []⟩,
  ⟨[107, 101, 121, 45, 116, 97, 98, 108, 101], 2, [115, 116, 114, 105, 110, 103], [114, 111, 111, 116], 0, 0, []⟩,
  ⟨[109, 101, 115, 115, 97, 103, 101, 45, 115, 116, 121, 108, 101], 2, [115, 116, 121, 108, 101], [102, 103, 61, 98, 108, 97, 99, 107, 44, 98, 103, 61, 121, 101, 108, 108, 111, 119], 0, 0, []⟩,
  ⟨[109, 111, 117, 115, 101], 2, [102, 108, 97, 103], [111, 102, 102], 0, 0, []⟩,
  ⟨[112, 114, 101, 102, 105, 120], 2, [115, 116, 114, 105, 110, 103], [67, 45, 98], 0, 0, []⟩,
  ⟨[112, 114, 101, 102, 105, 120, 50], 2, [115, 116, 114, 105, 110, 103], [78, 111, 110, 101], 0, 0, []⟩,
  ⟨[114, 101, 110, 117, 109, 98, 101, 114, 45, 119, 105, 110, 100, 111, 119, 115], 2, [102, 108, 97, 103], [111, 102, 102], 0, 0, []⟩,
  ⟨[114, 101, 112, 101, 97, 116, 45, 116, 105, 109, 101], 2, [110, 117, 109, 98, 101, 114], [53, 48, 48], 0, 10000, []⟩,
  ⟨[115, 101, 116, 45, 116, 105, 116, 108, 101, 115], 2, [102, 108, 97, 103], [111, 102, 102], 0, 0, []⟩,
  ⟨[115, 101, 116, 45, 116, 105, 116, 108, 101, 115, 45, 115, 116, 114, 105, 110, 103], 2, [115, 116, 114, 105, 110, 103], [35, 83, 58, 35, 73, 58, 35, 87], 0, 0, []⟩,
  ⟨[115, 116, 97, 116, 117, 115], 2, [102, 108, 97, 103], [111, 110], 0, 0, []⟩,
  ⟨[115, 116, 97, 116, 117, 115, 45, 105, 110, 116, 101, 114, 118, 97, 108], 2, [110, 117, 109, 98, 101, 114], [49, 53], 0, 3600, []⟩,
  ⟨[115, 116, 97, 116, 117, 115, 45, 106, 117, 115, 116, 105, 102, 121], 2, [99, 104, 111, 105, 99, 101], [108, 101, 102, 116], 0, 0, [108, 101, 102, 116, 44, 99, 101, 110, 116, 114, 101, 44, 114, 105, 103, 104, 116]⟩,
  ⟨[115, 116, 97, 116, 117, 115, 45, 107, 101, 121, 115], 2, [99, 104, 111, 105, 99, 101], [101, 109, 97, 99, 115], 0, 0, [101, 109, 97, 99, 115, 44, 118, 105]⟩,
  ⟨[115, 116, 97, 116, 117, 115, 45, 108, 101, 102, 116], 2, [115, 116, 114, 105, 110, 103], [91, 35, 83, 93, 32], 0, 0, []⟩,
  ⟨[115, 116, 97, 116, 117, 115, 45, 108, 101, 102, 116, 45, 108, 101, 110, 103, 116, 104], 2, [110, 117, 109, 98, 101, 114], [49, 48], 0, 250, []⟩,
  ⟨[115, 116, 97, 116, 117, 115, 45, 112, 111, 115, 105, 116, 105, 111, 110], 2, [99, 104, 111, 105, 99, 101], [98, 111, 116, 116, 111, 109], 0, 0, [116, 111, 112, 44, 98, 111, 116, 116, 111, 109]⟩,
  ⟨[115, 116, 97, 116, 117, 115, 45, 114, 105, 103, 104, 116], 2, [115, 116, 114, 105, 110, 103], [32, 35, 84], 0, 0, []⟩,
  ⟨[115, 116, 97, 116, 117, 115, 45, 114, 105, 103, 104, 116, 45, 108, 101, 110, 103, 116, 104], 2, [110, 117, 109, 98, 101, 114], [52, 48], 0, 250, []⟩,
  ⟨[115, 116, 97, 116, 117, 115, 45, 115, 116, 121, 108, 101], 2, [115, 116, 121, 108, 101], [102, 103, 61, 98, 108, 97, 99, 107, 44, 98, 103, 61, 103, 114, 101, 101, 110], 0, 0, []⟩,
  ⟨[117, 112, 100, 97, 116, 101, 45, 101, 110, 118, 105, 114, 111, 110, 109, 101, 110, 116], 2, [97, 114, 114, 97, 121], [68, 73, 83, 80, 76, 65, 89, 44, 83, 83, 72, 95, 65, 71, 69, 78, 84, 95, 80, 73, 68], 0, 0, []⟩,
  ⟨[119, 111, 114, 100, 45, 115, 101, 112, 97, 114, 97, 116, 111, 114, 115], 2, [115, 116, 114, 105, 110, 103], [32, 45, 95, 64], 0, 0, []⟩]
def winL : List Op8 := [
  ⟨[97, 103, 103, 114, 101, 115, 115, 105, 118, 101, 45, 114, 101, 115, 105, 122, 101], 3, [102, 108, 97, 103], [111, 102, 102], 0, 0, []⟩,
  ⟨[97, 108, 108, 111, 119, 45, 114, 101, 110, 97, 109, 101], 3, [102, 108, 97, 103], [111, 110], 0, 0, []⟩,
  ⟨[97, 117, 116, 111, 109, 97, 116, 105, 99, 45, 114, 101, 110, 97, 109, 101], 3, [102, 108, 97, 103], [111, 102, 102], 0, 0, []⟩,
  ⟨[109, 97, 105, 110, 45, 112, 97, 110, 101, 45, 104, 101, 105, 103, 104, 116], 3, [110, 117, 109, 98, 101, 114], [50, 52], 1, 120, []⟩,
  ⟨[109, 97, 105, 110, 45, 112, 97, 110, 101, 45, 119, 105, 100, 116, 104], 3, [110, 117, 109, 98, 101, 114], [56, 48], 1, 250, []⟩,
  ⟨[109, 111, 100, 101, 45, 107, 101, 121, 115], 3, [99, 104, 111, 105, 99, 101], [101, 109, 97, 99, 115], 0, 0, [101, 109, 97, 99, 115, 44, 118, 105]⟩,
  ⟨[109, 111, 100, 101, 45, 115, 116, 121, 108, 101], 3, [115, 116, 121, 108, 101], [102, 103, 61, 98, 108, 97, 99, 107, 44, 98, 103, 61, 121, 101, 108, 108, 111, 119], 0, 0, []⟩,
  ⟨[109, 111, 110, 105, 116, 111, 114, 45, 97, 99, 116, 105, 118, 105, 116, 121], 3, [102, 108, 97, 103], [111, 102, 102], 0, 0, []⟩,
  ⟨[109, 111, 110, 105, 116, 111, 114, 45, 98, 101, 108, 108], 3, [102, 108, 97, 103], [111, 110], 0, 0, []⟩,
  ⟨[112, 97, 110, 101, 45, 97, 99, 116, 105, 118, 101, 45, 98, 111, 114, 100, 101, 114, 45, 115, 116, 121, 108, 101], 3, [115, 116, 121, 108, 101], [102, 103, 61, 103, 114, 101, 101, 110], 0, 0, []⟩,
  ⟨[112, 97, 110, 101, 45, 98, 97, 115, 101, 45, 105, 110, 100, 101, 120], 3, [110, 117, 109, 98, 101, 114], [48], 0, 9999, []⟩,
  ⟨[112, 97, 110, 101, 45, 98, 111, 114, 100, 101, 114, 45, 115, 116, 121, 108, 101], 3, [115, 116, 121, 108, 101], [100, 101, 102, 97, 117, 108, 116], 0, 0, []⟩,
  ⟨[115, 121, 110, 99, 104, 114, 111, 110, 105, 122, 101, 45, 112, 97, 110, 101, 115], 3, [102, 108, 97, 103], [111, 102, 102], 0, 0, []⟩,
  ⟨[119, 105, 110, 100, 111, 119, 45, 115, 116, 97, 116, 117, 115, 45, 99, 117, 114, 114, 101, 110, 116, 45, 102, 111, 114, 109, 97, 116], 3, [115, 116, 114, 105, 110, 103], [35, 73, 58, 35, 87, 35, 70], 0, 0, []⟩,
  ⟨[119, 105, 110, 100, 111, 119, 45, 115, 116, 97, 116, 117, 115, 45, 99, 117, 114, 114, 101, 110, 116, 45, 115, 116, 121, 108, 101], 3, [115, 116, 121, 108, 101], [100, 101, 102, 97, 117, 108, 116], 0, 0, []⟩,
  ⟨[119, 105, 110, 100, 111, 119, 45, 115, 116, 97, 116, 117, 115, 45, 102, 111, 114, 109, 97, 116], 3, [115, 116, 114, 105, 110, 103], [35, 73, 58, 35, 87, 35, 70], 0, 0, []⟩,
  ⟨[119, 105, 110, 100, 111, 119, 45, 115, 116, 97, 116, 117, 115, 45, 115, 101, 112, 97, 114, 97, 116, 111, 114], 3, [115, 116, 114, 105, 110, 103], [32], 0, 0, []⟩,
  ⟨[119, 105, 110, 100, 111, 119, 45, 115, 116, 97, 116, 117, 115, 45, 115, 116, 121, 108, 101], 3, [115, 116, 121, 108, 101], [100, 101, 102, 97, 117, 108, 116], 0, 0, []⟩,
  ⟨[119, 114, 97, 112, 45, 115, 101, 97, 114, 99, 104], 3, [102, 108, 97, 103], [111, 110], 0, 0, []⟩]
def panL : List Op8 := [
  ⟨[97, 108, 108, 111, 119, 45, 112, 97, 115, 115, 116, 104, 114, 111, 117, 103, 104], 4, [99, 104, 111, 105, 99, 101], [111, 102, 102], 0, 0, [111, 102, 102, 44, 111, 110, 44, 97, 108, 108]⟩,
  ⟨[97, 108, 116, 101, 114, 110, 97, 116, 101, 45, 115, 99, 114, 101, 101, 110], 4, [102, 108, 97, 103], [111, 110], 0, 0, []⟩,
  ⟨[99, 117, 114, 115, 111, 114, 45, 99, 111, 108, 111, 117, 114], 4, [99, 111, 108, 111, 117, 114], [100, 101, 102, 97, 117, 108, 116], 0, 0, []⟩,
  ⟨[114, 101, 109, 97, 105, 110, 45, 111, 110, 45, 101, 120, 105, 116], 4, [102, 108, 97, 103], [111, 102, 102], 0, 0, []⟩,
  ⟨[119, 105, 110, 100, 111, 119, 45, 97, 99, 116, 105, 118, 101, 45, 115, 116, 121, 108, 101], 4, [115, 116, 121, 108, 101], [100, 101, 102, 97, 117, 108, 116], 0, 0, []⟩,
  ⟨[119, 105, 110, 100, 111, 119, 45, 115, 116, 121, 108, 101], 4, [115, 116, 121, 108, 101], [100, 101, 102, 97, 117, 108, 116], 0, 0, []⟩]
def tabL : List Op8 := srvL ++ (sesL ++ (winL ++ panL))
theorem tabL_len : tabL.length = 63 := by decide
/-- The cells of rows, one behind the other. -/
def rowsC (os : List Op8) : List Value := (os.map opt0).flatten
theorem opt0_len (o : Op8) : (opt0 o).length = 7 := rfl
theorem rowsC_len (os : List Op8) : (rowsC os).length = 7 * os.length := by
  unfold rowsC
  induction os with
  | nil => rfl
  | cons o os ih => simp only [List.map_cons, List.flatten_cons, List.length_append, List.length_cons, opt0_len]; omega
theorem rowsC_at {os : List Op8} {i : Nat} (h : i < os.length) (j : Nat) (hj : j < 7) : (rowsC os)[7 * i + j]? = (opt0 os[i])[j]? := by
  induction os generalizing i with
  | nil => cases h
  | cons o os ih =>
    have e : rowsC (o :: os) = opt0 o ++ rowsC os := rfl
    cases i with
    | zero => rw [e, List.getElem?_append_left (by rw [opt0_len]; omega)]; simp
    | succ i =>
      rw [e, List.getElem?_append_right (by rw [opt0_len]; omega), opt0_len, show 7 * (i + 1) + j - 7 = 7 * i + j by omega, ih (by simpa using h)]
      simp
end Go.Proofs.YthmadnadaakjaaaGreatDoor.Opt
/- What a walk over the table tells, option by option. -/
namespace Go.Proofs.YthmadnadaakjaaaGreatDoor.Opt
open Go.RowKit Go.Shelf
attribute [local go_sem] Oper.semAt_some

section
variable {F : Fence} {n : Nat} {P : Program} {ops : Array Oper} {rest : List Oper} {op : Oper} {a : Act} {w : World} {Q : Exit → Act → World → Prop}
theorem wpListIn_load_mid (hgd : op.guard = none) (ty : TypeId) (x : Operand) (ho : op.op = .load ty x)
    (b o : Nat) (hx : a.eval x = .pointer (some ⟨b, o, none⟩)) (cs : List Value) (d : TypeDesc) (hc : w.rangeAt b o cs)
    (hu : P.underlying ty = some d) (hd : d.isRow = true) (hi : (P.info? ty).map (·.size) = some cs.length)
    (h : wpListIn F n P ops Q rest (a.put op.dst (.agg cs.toArray)) w) : wpListIn F n P ops Q (op :: rest) a w := by
  refine wpListIn_plain hgd fun K' hK' => ?_
  unfold Oper.wpIn
  refine ⟨by simp [Oper.about, ho], ?_⟩
  rw [Oper.semAt_plain F _ _ (by rw [ho]; intro c hc'; cases hc')]
  simp only [execOp, ho, hx, Instr.loadAt, Instr.sureAddr, Sem.run_bind, Sem.run_pure, Result.andThen_ok, run_loadVar_mid w b o ty cs d hc hu hd hi]
  exact hK' _ _ h
end

theorem room_of_none {F : Fence} (hd : F.depth = none) (k : Nat) : F.room k := fun d h => by rw [hd] at h; cases h
theorem RoundIn.anyDepth {F : Fence} (hd : F.depth = none) {m m' : Nat} {P : Program} {l : Nat} {f : FuncId} {tmps : Array Value} {assign body : Code} {w : World} {R : Ending → World → Prop}
    (h : RoundIn F m P l f tmps assign body w R) : RoundIn F m' P l f tmps assign body w R := ⟨h.1, fun c cs _ => h.2 c cs (room_of_none hd _)⟩
theorem YieldAt.anyDepth {F : Fence} (hd : F.depth = none) {m : Nat} (m' : Nat) {P : Program} {l : Nat} {args : Array Value} {W : World} {R : Ending → World → Prop} (h : YieldAt F m P l args W R) : YieldAt F m' P l args W R := by
  obtain ⟨fn, tmps, assign, body, hy, hR⟩ := h
  exact ⟨fn, tmps, assign, body, hy, RoundIn.anyDepth hd hR⟩

/-- What a round keeps: every block whose second cell is nought. -/
structure KT (A B : World) : Prop where
  size : A.heap.size ≤ B.heap.size
  same : ∀ b t xs, BL A b t xs → xs[1]? = some (.int .i64 0) → BL B b t xs
theorem KT.refl (A : World) : KT A A := ⟨Nat.le_refl _, fun _ _ _ h _ => h⟩
theorem KT.trans {A B C : World} (h : KT A B) (k : KT B C) : KT A C := ⟨Nat.le_trans h.size k.size, fun b t xs hb h0 => k.same b t xs (h.same b t xs hb h0) h0⟩
theorem KT.only {A B : World} (h : Only [] A B) : KT A B := ⟨h.size, fun _ _ _ hb _ => hb.only h (by simp)⟩
theorem KT.putObj (W : World) (l : Nat) (o o' : Obj) (h : W.heap[l]? = some o) (hc : o.isCells = false) : KT W (W.putObj l o') :=
  ⟨by simp, fun b t xs hb _ => (World.putObj_heap_other (by
    intro e; subst e; unfold BL at hb; rw [h] at hb; cases hb; cases hc)).trans hb⟩

theorem Only.grownBy {A B : World} (h : Only [] A B) : A.grownBy B none := ⟨h.os, h.tape, h.output, h.size, fun k hk _ => h.block k hk (by simp)⟩

set_option maxRecDepth 100000 in
set_option maxHeartbeats 2000000 in
theorem each_in (n l N B0 : Nat) (J Jx : List Op8 → World → Prop) (hJ : AbidesFrom B0 J)
    (hY : ∀ m pre x W, x.scope ≠ 0 → J pre W → pre.length < N → YieldAt Fence.wide m Tryz.prog l #[optV x] W fun e W' =>
      (e = .returned (.bool true) ∧ J (pre ++ [x]) W' ∧ KT W W') ∨ (e = .returned (.bool false) ∧ Jx (pre ++ [x]) W'))
    (sc : Int) (hs0 : sc ≠ 0) (os : List Op8) (hsc : ∀ o ∈ os, o.scope = sc) (b : Nat) (t : TypeId) (pre : List Op8) (W : World) (hrow : BL W b t (rowsC os)) (h0 : J pre W) (hN : pre.length + os.length ≤ N) (hos : 0 < os.length) (hbig : os.length ≤ 1000) :
    CallsIn Fence.wide n Tryz.prog 189 #[.int .i64 sc, .slice (some ⟨b, 0, none⟩) os.length os.length, .func (.yield l) #[] #[]] W fun e W' =>
      (e = .returned (.bool true) ∧ J (pre ++ os) W') ∨ (e = .returned (.bool false) ∧ ∃ q, q <+: os ∧ Jx (pre ++ q) W') := by
  have HJ := Lib.hid hJ
  have HY := Lib.hid hY
  have HSC := Lib.hid hsc
  have HR := Lib.hid hrow
  have HH := Lib.hid h0
  have HN := Lib.hid hN
  have HS0 := Lib.hid hs0
  clear hs0 hJ hY hsc hrow h0 hN
  refine callsIn_of_wp Tryz.func189 rfl trivial ?_ rfl
  simp only [Tryz.ntmps189, List.size_toArray, List.length_cons, List.length_nil, Nat.reduceAdd, Nat.reduceSub, Array.replicate_succ, Array.replicate_zero, List.push_toArray, List.append_toArray, List.nil_append, List.cons_append]
  gi_wp2
  gi_loopw [11] (fun i wr => ∃ j : Nat, j ≤ os.length ∧ i = .int .i64 (j : Int) ∧ BL wr b t (rowsC os) ∧ J (pre ++ os.take j) wr) (fun i _ => os.length - (intOf i).toNat)
  case atStart => exact ⟨0, Nat.zero_le _, rfl, HR.out, by simpa using HH.out⟩
  case round =>
    obtain ⟨j, hj, rfl, hbl, hI⟩ := hrel
    have HB := Lib.hid hbl
    have HI := Lib.hid hI
    clear hbl hI
    have j0 : (0 : Int) ≤ (j : Int) := Int.natCast_nonneg _
    by_cases hlt : j < os.length
    · have j1 : (j : Int) < (os.length : Int) := by omega
      obtain ⟨x, hx⟩ : ∃ x, x = os[j] := ⟨_, rfl⟩
      have hra : wr.rangeAt b (j * 7) (opt0 x) := HB.out.range (fun k v hk => by
        have h7 : k < 7 := by rw [← opt0_len x]; exact (List.getElem?_eq_some_iff.1 hk).1
        rw [show j * 7 + k = 7 * j + k by omega, rowsC_at hlt k h7, ← hx]; exact hk)
      have HRA := Lib.hid hra
      have hsx : x.scope = sc := HSC.out x (hx ▸ List.getElem_mem _)
      have HX := Lib.hid hx
      clear hra hx
      obtain ⟨nm, scp, kd, fi, le, mo, ch⟩ := x
      dsimp only at hsx
      subst hsx
      dsimp only [opt0] at HRA
      have hA : (wr.alloc (.cells #[.string (bs nm), .int .i64 scp, .string (bs kd), .string (bs fi), .int .i64 le, .int .i64 mo, .string (bs ch)] 73)).rangeAt wr.heap.size 0 [.string (bs nm), .int .i64 scp, .string (bs kd), .string (bs fi), .int .i64 le, .int .i64 mo, .string (bs ch)] := (BL.new wr 73 [.string (bs nm), .int .i64 scp, .string (bs kd), .string (bs fi), .int .i64 le, .int .i64 mo, .string (bs ch)]).range (fun k v hk => by simpa using hk)
      have hJ2 : J (pre ++ os.take j) (wr.alloc (.cells #[.string (bs nm), .int .i64 scp, .string (bs kd), .string (bs fi), .int .i64 le, .int .i64 mo, .string (bs ch)] 73)) := HJ.out _ _ _ none HI.out (World.grownBy_alloc _ _ none) (fun r e => by cases e)
      have hlN : (pre ++ os.take j).length < N := by have := HN.out; rw [List.length_append, List.length_take]; omega
      have hB2 := HB.out.alloc (.cells #[.string (bs nm), .int .i64 scp, .string (bs kd), .string (bs fi), .int .i64 le, .int .i64 mo, .string (bs ch)] 73)
      have HA := Lib.hid hA
      obtain ⟨fn, tmps, assign, body, hy, hR⟩ := HY.out (n - 1) _ ⟨nm, scp, kd, fi, le, mo, ch⟩ _ HS0.out hJ2 hlN
      dsimp only [optV, optL] at hy
      have HRR := Lib.hid hR
      have HB2 := Lib.hid hB2
      clear hA hJ2 hlN hB2 hR
      gi_wp2_with (first
        | (refine wpListIn_load_mid rfl 73 _ rfl b (j * 7) rfl [.string (bs nm), .int .i64 0, .string (bs kd), .string (bs fi), .int .i64 le, .int .i64 mo, .string (bs ch)] _ HRA.out Tryz.underlying73 rfl (by kernel_rfl) ?_)
        | (refine wpListIn_load_mid rfl 73 _ rfl wr.heap.size 0 rfl [.string (bs nm), .int .i64 scp, .string (bs kd), .string (bs fi), .int .i64 le, .int .i64 mo, .string (bs ch)] _ HA.out Tryz.underlying73 rfl (by kernel_rfl) ?_))
      refine ⟨fun h => (by cases h), ?_⟩
      refine HRR.out.mono ?_
      clear HRR hy
      rintro e W3 (⟨rfl, hJ3, hk3⟩ | ⟨rfl, hJx3⟩)
      · have hb3 := hk3.same b t _ HB2.out (by have := rowsC_at hos 1 (by omega); rw [show 7 * 0 + 1 = 1 from rfl] at this; rw [this]; rfl)
        have HB3 := Lib.hid hb3
        have HJ3 := Lib.hid hJ3
        clear hb3 hJ3 hk3
        gi_wp2
        go_roundw
        case rel => exact ⟨j + 1, by omega, by go_num, HB3.out, by rw [List.take_succ_eq_append_getElem hlt, ← HX.out, ← List.append_assoc]; exact HJ3.out⟩
        case measure => simp [intOf]; omega
      · have HJ3 := Lib.hid hJx3
        clear hJx3
        gi_wp2
        exact bodyPost_ret (results_tmp rfl _ _ _) rfl (.inr ⟨rfl, os.take (j + 1), List.take_prefix _ _, by rw [List.take_succ_eq_append_getElem hlt, ← HX.out, ← List.append_assoc]; exact HJ3.out⟩)
    · obtain rfl : j = os.length := by omega
      gi_wp2
      exact bodyPost_ret (results_tmp rfl _ _ _) rfl (.inl ⟨rfl, by have := HI.out; rwa [List.take_length] at this⟩)
end Go.Proofs.YthmadnadaakjaaaGreatDoor.Opt
/- Small words for the walks. -/
namespace Go.Proofs.YthmadnadaakjaaaGreatDoor.Opt
open Go.RowKit
theorem size_alloc (w : World) (o : Obj) : (w.alloc o).heap.size = w.heap.size + 1 := by simp
/-- A result that lies in memory. -/
theorem results_cell {P : Program} {fn : Func} {p : Tmp} {ty : TypeId} (h : fn.results = #[.cell p ty]) (tmps : Array Value) (w : World) (g : Nat) (t : TypeId) (cs : Array Value) (fr : Nat × Nat) (d : TypeDesc)
    (hp : tmps.getD p undef = .pointer (some ⟨g, 0, none⟩)) (hg : w.heap[g]? = some (.cells cs t fr))
    (hu : P.underlying ty = some d) (hd : (match d with | .struct _ | .array _ _ => true | _ => false) = true) (hi : (P.info? ty).map (·.size) = some cs.size) :
    (results fn tmps).run P w = .ok (.agg cs) w := by
  have hp' : tmps[p]?.getD undef = .pointer (some ⟨g, 0, none⟩) := by simpa using hp
  simp [results, h, hp', asAddr, run_loadVar_row w g t ty cs fr d hg hu hd hi]
theorem results_none {P : Program} {fn : Func} (h : fn.results = #[]) (tmps : Array Value) (w : World) : (results fn tmps).run P w = .ok (.tuple #[]) w := by
  simp [results, h]
/-- A function without results that comes to its end. -/
theorem body_end {P : Program} {fn : Func} {R : Ending → World → Prop} {a : Act} {w : World} (h : fn.results = #[]) (hd : a.defers = []) (hR : R (.returned (.tuple #[])) w) : bodyPost P fn R .normal a w :=
  ⟨hd, _, results_none h _ _, hR⟩
end Go.Proofs.YthmadnadaakjaaaGreatDoor.Opt
/- Several values stored, and read, at once; results in memory. -/
namespace Go.Proofs.YthmadnadaakjaaaGreatDoor.Opt
open Go.RowKit
def splice (xs : List Value) (o : Nat) (vs : List Value) : List Value := xs.take o ++ vs ++ xs.drop (o + vs.length)
theorem splice_len {xs vs : List Value} {o : Nat} (h : o + vs.length ≤ xs.length) : (splice xs o vs).length = xs.length := by
  unfold splice; simp only [List.length_append, List.length_take, List.length_drop]; omega
theorem splice_nil (xs : List Value) (o : Nat) : splice xs o [] = xs := by unfold splice; simp
theorem splice_cons {xs : List Value} {o : Nat} (v : Value) (vs : List Value) (h : o + (vs.length + 1) ≤ xs.length) : splice (xs.set o v) (o + 1) vs = splice xs o (v :: vs) := by
  unfold splice
  rw [List.length_cons, List.take_set, List.drop_set_of_lt (by omega), List.take_succ_eq_append_getElem (by omega), List.set_append_right _ _ (by rw [List.length_take]; omega)]
  rw [List.length_take, Nat.min_eq_left (by omega), Nat.sub_self]
  simp only [List.set_cons_zero, List.append_assoc, List.cons_append, List.nil_append]
  rw [show o + 1 + vs.length = o + (vs.length + 1) by omega]
theorem BL.setCells {b : Nat} {t : TypeId} : ∀ (vs : List Value) {w : World} {xs : List Value} (o : Nat), BL w b t xs → o + vs.length ≤ xs.length → BL (w.setCells b o vs) b t (splice xs o vs)
  | [], w, xs, o, h, _ => by rw [splice_nil]; exact h
  | v :: vs, w, xs, o, h, hl => by
    rw [World.setCells]
    rw [List.length_cons] at hl
    have := BL.setCells vs (o + 1) (h.set_ o v) (by rw [List.length_set]; omega)
    rwa [splice_cons v vs (by omega)] at this

theorem setCells_far (b : Nat) : ∀ (vs : List Value) (o : Nat) (w : World), (w.setCells b o vs).heap.size = w.heap.size ∧ (w.setCells b o vs).os = w.os ∧ (w.setCells b o vs).tape = w.tape ∧ (w.setCells b o vs).output = w.output ∧ ∀ k, k ≠ b → (w.setCells b o vs).heap[k]? = w.heap[k]?
  | [], o, w => ⟨rfl, rfl, rfl, rfl, fun _ _ => rfl⟩
  | v :: vs, o, w => by
    rw [World.setCells]
    obtain ⟨h1, h2, h3, h4, h5⟩ := setCells_far b vs (o + 1) (w.setCell ⟨b, o, none⟩ v)
    exact ⟨by rw [h1]; simp [World.setCell], h2, h3, h4, fun k hk => by rw [h5 k hk]; exact Below.heap_setCell w ⟨b, o, none⟩ v k hk⟩
theorem Only.setCells {F : List Nat} {a w : World} (h : Only F a w) (b o : Nat) (vs : List Value) (hb : b ∈ F ∨ a.heap.size ≤ b) : Only F a (w.setCells b o vs) := by
  obtain ⟨h1, h2, h3, h4, h5⟩ := setCells_far b vs o w
  exact ⟨h2.trans h.os, h3.trans h.tape, h4.trans h.output, by rw [h1]; exact h.size, fun k hk hn => by
    rw [h5 k (fun e => by subst e; rcases hb with x | x; exact hn x; omega)]; exact h.block k hk hn⟩
theorem splice_all {xs vs : List Value} (h : xs.length = vs.length) : splice xs 0 vs = vs := by
  unfold splice
  rw [List.take_zero, List.nil_append, Nat.zero_add, ← h, List.drop_length, List.append_nil]
theorem KeepsOthers.setCells (b : Nat) : ∀ (vs : List Value) (o : Nat) (w : World), KeepsOthers w (w.setCells b o vs)
  | [], _, w => KeepsOthers.refl w
  | v :: vs, o, w => by rw [World.setCells]; exact (KeepsOthers.setCell w _ v).trans (KeepsOthers.setCells b vs (o + 1) _)
section
variable {F : Fence} {n : Nat} {P : Program} {ops : Array Oper} {rest : List Oper} {op : Oper} {a : Act} {w : World} {Q : Exit → Act → World → Prop}
/-- A whole block is written. -/
theorem wpListIn_store_all (hgd : op.guard = none) (ty : TypeId) (x y : Operand) (ho : op.op = .store ty x y) (g : Nat) (vs : List Value) (hx : a.eval x = .pointer (some ⟨g, 0, none⟩)) (hy : a.eval y = .agg vs.toArray)
    (t : TypeId) (cur : List Value) (hg : BL w g t cur) (hl : cur.length = vs.length) (hi : (P.info? ty).map (·.size) = some vs.length) (h1 : vs.toArray.all (·.oneCell') = true)
    (h : ∀ w1, BL w1 g t vs → Only [g] w w1 → KeepsOthers w w1 → w1.heap.size = w.heap.size → wpListIn F n P ops Q rest (a.put op.dst undef) w1) : wpListIn F n P ops Q (op :: rest) a w := by
  refine wpListIn_plain hgd fun K' hK' => ?_
  unfold Oper.wpIn
  refine ⟨by simp [Oper.about, ho], ?_⟩
  rw [Oper.semAt_plain F _ _ (by rw [ho]; intro c hc'; cases hc')]
  have hb := hg.setCells vs 0 (by omega)
  rw [splice_all hl] at hb
  simp only [execOp, ho, hx, hy, Instr.storeAt, Instr.sureAddr, Sem.run_bind, Sem.run_pure, Result.andThen_ok, run_storeVar_mid w g 0 ty vs.toArray (hg.there (by simp; omega)) (by simpa using hi) h1]
  exact hK' _ _ (h _ hb ((Only.refl [g] w).setCells g 0 vs (.inl (by simp))) (KeepsOthers.setCells g vs 0 w) (setCells_far g vs 0 w).1)
theorem wpList_store_all (hgd : op.guard = none) (ty : TypeId) (x y : Operand) (ho : op.op = .store ty x y) (g : Nat) (vs : List Value) (hx : a.eval x = .pointer (some ⟨g, 0, none⟩)) (hy : a.eval y = .agg vs.toArray)
    (t : TypeId) (cur : List Value) (hg : BL w g t cur) (hl : cur.length = vs.length) (hi : (P.info? ty).map (·.size) = some vs.length) (h1 : vs.toArray.all (·.oneCell') = true)
    (h : ∀ w1, BL w1 g t vs → Only [g] w w1 → w1.heap.size = w.heap.size → wpList P ops Q rest (a.put op.dst undef) w1) : wpList P ops Q (op :: rest) a w := by
  have hb := hg.setCells vs 0 (by omega)
  rw [splice_all hl] at hb
  refine wpList_store_mid hgd ty x y ho g 0 vs.toArray hx hy (hg.there (by simp; omega)) (by simpa using hi) h1 ?_
  exact h _ hb ((Only.refl [g] w).setCells g 0 vs (.inl (by simp))) (setCells_far g vs 0 w).1
end
/-- Two results that lie in memory, a struct and one cell. -/
theorem results_two {P : Program} {fn : Func} {p q : Tmp} {ty tq : TypeId} (h : fn.results = #[.cell p ty, .cell q tq]) (tmps : Array Value) (w : World) (g g2 : Nat) (t t2 : TypeId) (cs : List Value) (v : Value) (d : TypeDesc)
    (hp : tmps.getD p undef = .pointer (some ⟨g, 0, none⟩)) (hq : tmps.getD q undef = .pointer (some ⟨g2, 0, none⟩)) (hg : BL w g t cs) (hg2 : BL w g2 t2 [v])
    (hu : P.underlying ty = some d) (hd : d.isRow = true) (hi : (P.info? ty).map (·.size) = some cs.length)
    (d2 : TypeDesc) (hu2 : P.underlying tq = some d2) (hd2 : d2.isRow = false) :
    (results fn tmps).run P w = .ok (.tuple #[.agg cs.toArray, v]) w := by
  have hp' : tmps[p]?.getD undef = .pointer (some ⟨g, 0, none⟩) := by simpa using hp
  have hq' : tmps[q]?.getD undef = .pointer (some ⟨g2, 0, none⟩) := by simpa using hq
  have hc := hg2.cell 0
  have hagg : (isAgg tq).run P w = .ok false w := by
    unfold isAgg
    rw [Sem.run_bind, run_underlying hu2 w]
    cases d2 <;> simp_all
  have h2 : (loadVar tq ⟨g2, 0, none⟩).run P w = .ok v w := by
    simp [loadVar, Sem.run_bind, hagg, go_sem, hc]
  simp [results, h, hp', hq', asAddr, run_loadVar_mid w g 0 ty cs d (hg.range (fun j v hj => by simpa using hj)) hu hd hi, h2]
end Go.Proofs.YthmadnadaakjaaaGreatDoor.Opt
/- New. -/
namespace Go.Proofs.YthmadnadaakjaaaGreatDoor.Opt
open Go.RowKit

/-- A set in memory. -/
def SetB (w : World) (b : Nat) (sc : Int) (own : Value) (q : Option Addr) : Prop := BL w b 67 [.int .i64 sc, own, .pointer q]

set_option maxRecDepth 100000 in
set_option maxHeartbeats 2000000 in
theorem new_no (sc : Int) (hs : sc < 1 ∨ 4 < sc) (p : Option Addr) (w : World) :
    Calls Tryz.prog 8 #[.int .i64 sc, .pointer p] w fun e w' => e = .returned (.tuple #[.pointer none, .int .i64 1]) ∧ w' = w := by
  rcases hs with h | h
  · go_enter Tryz.func8, Tryz.ntmps8
    go_wp2_with fail
    go_ret2
    exact ⟨rfl, rfl⟩
  · have h2 : ¬ sc < 1 := by omega
    have h3 : sc > 4 := h
    go_enter Tryz.func8, Tryz.ntmps8
    go_wp2_with fail
    go_ret2
    exact ⟨rfl, rfl⟩
set_option maxRecDepth 100000 in
set_option maxHeartbeats 2000000 in
theorem new_nil (sc : Int) (h1 : 1 ≤ sc) (h2 : sc ≤ 4) (w : World) :
    Calls Tryz.prog 8 #[.int .i64 sc, .pointer none] w fun e w' => e = .returned (.tuple #[.pointer (some ⟨w.heap.size, 0, none⟩), .int .i64 0]) ∧ SetB w' w.heap.size sc (.map none) none ∧ Below w.heap.size w w' := by
  have h3 : ¬ sc < 1 := by omega
  have h4 : ¬ sc > 4 := by omega
  have d3 : decide (sc < 1) = false := decide_eq_false h3
  have d4 : decide (4 < sc) = false := decide_eq_false h4
  have HB := Lib.hid (BL.new w 67 [.int .i64 sc, .map none, .pointer none])
  go_enter Tryz.func8, Tryz.ntmps8
  go_wp2_with fail
  go_ret2
  exact ⟨rfl, HB.out, (Below.refl _ w).alloc (Nat.le_refl _) _⟩
set_option maxRecDepth 100000 in
set_option maxHeartbeats 2000000 in
theorem new_over (sc : Int) (h1 : 1 ≤ sc) (h2 : sc ≤ 4) (pb : Nat) (ps : Int) (own : Value) (q : Option Addr) (w : World) (hp : SetB w pb ps own q) (hle : ps ≤ sc) :
    Calls Tryz.prog 8 #[.int .i64 sc, .pointer (some ⟨pb, 0, none⟩)] w fun e w' => e = .returned (.tuple #[.pointer (some ⟨w.heap.size, 0, none⟩), .int .i64 0]) ∧ SetB w' w.heap.size sc (.map none) (some ⟨pb, 1, none⟩) ∧ Below w.heap.size w w' := by
  have h3 : ¬ sc < 1 := by omega
  have h4 : ¬ sc > 4 := by omega
  have h5 : ¬ ps > sc := by omega
  have d3 : decide (sc < 1) = false := decide_eq_false h3
  have d4 : decide (4 < sc) = false := decide_eq_false h4
  have d5 : decide (sc < ps) = false := decide_eq_false h5
  have c0 := BL.cell hp 0
  simp only [List.getElem?_cons_zero] at c0
  have HB := Lib.hid (BL.new w 67 [.int .i64 sc, .map none, .pointer (some ⟨pb, 1, none⟩)])
  have hne : ¬ pb = w.heap.size := by have := BL.lt hp; omega
  clear hp
  go_enter Tryz.func8, Tryz.ntmps8
  go_wp2_with fail
  go_ret2
  exact ⟨rfl, HB.out, (Below.refl _ w).alloc (Nat.le_refl _) _⟩
theorem SetB.refuse (sc : Int) (h1 : 1 ≤ sc) (h2 : sc ≤ 4) (pb : Nat) (ps : Int) (own : Value) (q : Option Addr) (w : World) (hp : SetB w pb ps own q) (hle : sc < ps) :
    Calls Tryz.prog 8 #[.int .i64 sc, .pointer (some ⟨pb, 0, none⟩)] w fun e w' => e = .returned (.tuple #[.pointer none, .int .i64 1]) ∧ w' = w := by
  have h3 : ¬ sc < 1 := by omega
  have h4 : ¬ sc > 4 := by omega
  have h5 : ps > sc := by omega
  have d3 : decide (sc < 1) = false := decide_eq_false h3
  have d4 : decide (4 < sc) = false := decide_eq_false h4
  have d5 : decide (sc < ps) = true := decide_eq_true h5
  have c0 := BL.cell hp 0
  simp only [List.getElem?_cons_zero] at c0
  clear hp
  go_enter Tryz.func8, Tryz.ntmps8
  go_wp2_with fail
  go_ret2
  exact ⟨rfl, rfl⟩
end Go.Proofs.YthmadnadaakjaaaGreatDoor.Opt
/- Levels, and what the nearest one says of a name. -/
namespace Go.Proofs.YthmadnadaakjaaaGreatDoor.Opt
open Go.RowKit Go.Maps

theorem cell_lt {w : World} {b i : Nat} {v : Value} (h : w.cell? ⟨b, i, none⟩ = some v) : b < w.heap.size := by
  rcases Nat.lt_or_ge b w.heap.size with hlt | hge
  · exact hlt
  · simp [World.cell?, Array.getElem?_eq_none hge] at h
def zeroH : Value := .agg #[.string ⟨#[]⟩, .slice none 0 0]
/-- How what is held reads: a text and a slice. -/
def heldR (v : Value) : Option (DataW Value × List MemPlace) := match v with
  | .agg cs => (match cs.toList with | [.string _, .slice _ _ _] => some (.held v, []) | _ => none)
  | _ => none
theorem heldR_mk (s : ByteArray) (A : Option Addr) (n c : Nat) : heldR (.agg #[.string s, .slice A n c]) = some (.held (.agg #[.string s, .slice A n c]), []) := rfl
theorem held_one (s : ByteArray) (A : Option Addr) (n c : Nat) : ([.string s, .slice A n c] : List Value).toArray.all (·.oneCell') = true := by simp [Value.oneCell']
theorem heldR_inv {v : Value} {z : DataW Value × List MemPlace} (h : heldR v = some z) : ∃ s A n c, v = .agg #[.string s, .slice A n c] ∧ z = (.held v, []) := by
  unfold heldR at h
  cases v with
  | agg cs =>
    obtain ⟨l⟩ := cs
    dsimp only at h
    split at h
    · exact ⟨_, _, _, _, rfl, by cases h; rfl⟩
    · cases h
  | _ => cases h
def unheld : DataW Value → Value
  | .held v => v
  | _ => zeroH
def valP (D : DataW Value) (nm : Tx) : Value := unheld (D.atKey (.string nm) (.held zeroH))
def hasP (D : DataW Value) (nm : Tx) : Bool := Maps.has D (.string nm)
theorem lawK : Keyed Tryz.prog 9 := string_keyed Tryz.underlying9
theorem keyS (nm : Tx) (h : nm.length ≤ maxLen) : keyOf Tryz.prog 9 (.string (bs nm)) = some (.string nm) := by
  have := Go.WideMaps.keyOf_string_mk (P := Tryz.prog) Tryz.underlying9 (s := bs nm) (by rw [bs_size]; exact h)
  rwa [bs_list] at this
theorem zeroHr (w : World) : (zeroValue 90).run Tryz.prog w = .ok zeroH w := by kernel_rfl
/-- The map of a level: nil, or a block. -/
def OwnAt (w : World) (own : Value) (D : DataW Value) (n : Nat) : Prop := (own = .map none ∧ D = .map []) ∨ ∃ m, own = .map (some m) ∧ w.ownsMap Tryz.prog 9 heldR m n D
section
variable {ops : Array Oper} {rest : List Oper} {o : Oper} {a : Act} {w : World} {Q : Exit → Act → World → Prop}
/-- A name looked up in a level's map. -/
theorem wpList_look (hg : o.guard = none) (m x : Operand) (hop : o.op = Op.lookup 62 m x true) (own : Value) (D : DataW Value) (n : Nat) (hm : a.eval m = own) (hown : OwnAt w own D n) (nm : Tx) (hl : nm.length ≤ maxLen) (hx : a.eval x = .string (bs nm))
    (hK : ∀ s A k c, valP D nm = .agg #[.string s, .slice A k c] → wpList Tryz.prog ops Q rest (a.put o.dst (.tuple #[.agg #[.string s, .slice A k c], .bool (hasP D nm)])) w) :
    wpList Tryz.prog ops Q (o :: rest) a w := by
  rcases hown with ⟨rfl, rfl⟩ | ⟨b, rfl, hown⟩
  · refine wpList_plain hg fun K' hK' => ?_
    have hrun := Maps.look_nil (t := 62) (w := w) true lawK Tryz.underlying62 (zeroHr w) (keyS nm hl)
    unfold Oper.wp
    simp [execOp, hop, hm, hx, hrun, Result.andThen]
    exact hK' _ _ (hK ⟨#[]⟩ none 0 0 rfl)
  · refine wpList_lookup_own_ok w hg m x 62 hop 9 90 lawK Tryz.underlying62 heldR (zeroHr w) (.held zeroH) [] rfl b n D hm hown _ (.string nm) hx (keyS nm hl) ?_
    intro v ps hv
    obtain ⟨s, A, k, c, rfl, hz⟩ := heldR_inv hv
    refine hK s A k c ?_
    have h1 : D.atKey (.string nm) (.held zeroH) = .held (.agg #[.string s, .slice A k c]) := congrArg Prod.fst hz
    unfold valP
    rw [h1]; rfl
end
/-- Levels over one another. -/
def LvAt (w : World) : Option Addr → List (DataW Value) → Prop
  | p, [] => p = none
  | p, D :: r => ∃ b own q n, p = some ⟨b, 1, none⟩ ∧ w.cell? ⟨b, 1, none⟩ = some own ∧ w.cell? ⟨b, 2, none⟩ = some (.pointer q) ∧ OwnAt w own D n ∧ LvAt w q r
def lookP : List (DataW Value) → Tx → Option Value
  | [], _ => none
  | D :: r, nm => if hasP D nm = true then some (valP D nm) else lookP r nm
theorem OwnAt.below {B : Nat} {w w' : World} {own : Value} {D : DataW Value} {n : Nat} (h : OwnAt w own D n) (hb : Below B w w') (hB : ∀ m, own = .map (some m) → m < B) : OwnAt w' own D n := by
  rcases h with h | ⟨m, rfl, h⟩
  · exact .inl h
  · obtain ⟨es, clock, hh, h2⟩ := h
    exact .inr ⟨m, rfl, es, clock, (hb.block m (hB m rfl)).trans hh, h2⟩
theorem OwnAt.lt {w : World} {own : Value} {D : DataW Value} {n : Nat} (h : OwnAt w own D n) : ∀ m, own = .map (some m) → m < w.heap.size := fun m e => by
  rcases h with ⟨h, _⟩ | ⟨m2, h, h3⟩
  · rw [h] at e; cases e
  · rw [h] at e; cases e; exact h3.lt
theorem LvAt.later {w w' : World} (hb : Below w.heap.size w w') : ∀ {p : Option Addr} {ls : List (DataW Value)}, LvAt w p ls → LvAt w' p ls
  | _, [], h => h
  | _, _ :: _, ⟨b, own, q, n, e, h1, h2, h3, h4⟩ => ⟨b, own, q, n, e, (hb.cell (p := ⟨b, 1, none⟩) (cell_lt h1)).trans h1, (hb.cell (p := ⟨b, 2, none⟩) (cell_lt h2)).trans h2, h3.below hb h3.lt, LvAt.later hb h4⟩
/-- Two results, the first in memory. -/
theorem results_ct {P : Program} {fn : Func} {p u : Tmp} {ty : TypeId} (h : fn.results = #[.cell p ty, .tmp u]) (tmps : Array Value) (w : World) (g : Nat) (t : TypeId) (cs : List Value) (d : TypeDesc)
    (hp : tmps.getD p undef = .pointer (some ⟨g, 0, none⟩)) (hg : BL w g t cs) (hu : P.underlying ty = some d) (hd : d.isRow = true) (hi : (P.info? ty).map (·.size) = some cs.length) :
    (results fn tmps).run P w = .ok (.tuple #[.agg cs.toArray, tmps.getD u undef]) w := by
  have hp' : tmps[p]?.getD undef = .pointer (some ⟨g, 0, none⟩) := by simpa using hp
  simp [results, h, hp', asAddr, run_loadVar_mid w g 0 ty cs d (hg.range (fun j v hj => by simpa using hj)) hu hd hi]
/-- What lookUp hands back. -/
def lookV (r : Option Value) : Value := match r with
  | some v => .tuple #[v, .bool true]
  | none => .tuple #[zeroH, .bool false]

set_option maxRecDepth 100000 in
set_option maxHeartbeats 4000000 in
theorem lookUp_any (p : Option Addr) (ls : List (DataW Value)) (nm : Tx) (hl : nm.length ≤ maxLen) (w : World) (h : LvAt w p ls) :
    Calls Tryz.prog 106 #[.pointer p, .string (bs nm)] w fun e w' => e = .returned (lookV (lookP ls nm)) ∧ Below w.heap.size w w' := by
  have HH := Lib.hid h
  clear h
  obtain ⟨R, hR⟩ : ∃ R, R = lookV (lookP ls nm) := ⟨_, rfl⟩
  rw [← hR]
  have HR := Lib.hid hR
  clear hR
  have HZ := Lib.hid (BL.new w 90 [.string ⟨#[]⟩, .slice none 0 0])
  go_enter Tryz.func106, Tryz.ntmps106
  go_wp2_with fail
  go_loopg [6] ls.length (fun k p wr => ∃ q rest, p = .pointer q ∧ rest.length = k ∧ LvAt wr q rest ∧ R = lookV (lookP rest nm) ∧ Below w.heap.size w wr ∧ BL wr w.heap.size 90 [.string ⟨#[]⟩, .slice none 0 0] ∧ w.heap.size + 1 ≤ wr.heap.size)
  case atStart => exact ⟨p, ls, rfl, rfl, HH.out.later ((Below.refl _ w).alloc (Nat.le_refl _) _), HR.out, (Below.refl _ w).alloc (Nat.le_refl _) _, HZ.out, by simp⟩
  case round =>
    obtain ⟨q, rest, rfl, hk, hlv, hRr, hb, hz, hs⟩ := hrel
    cases rest with
    | nil =>
      obtain rfl : q = none := hlv
      have HV := Lib.hid (show R = .tuple #[zeroH, .bool false] from hRr)
      have HB := Lib.hid hb
      have HZ1 := Lib.hid (hz.alloc (.cells #[.string ⟨#[]⟩, .slice none 0 0] 90))
      have HN := Lib.hid ((BL.new wr 90 [.string ⟨#[]⟩, .slice none 0 0]).range (o := 0) (vs := [.string ⟨#[]⟩, .slice none 0 0]) (fun j v hj => by rw [Nat.zero_add]; exact hj))
      clear hRr hb hz HR HH HZ hk
      go_wp2_with (first
        | (refine wpList_load_mid rfl 90 _ rfl wr.heap.size 0 rfl [.string ⟨#[]⟩, .slice none 0 0] _ HN.out Tryz.underlying90 rfl (by kernel_rfl) ?_)
        | (refine wpList_store_all rfl 90 _ _ rfl w.heap.size [.string ⟨#[]⟩, .slice none 0 0] rfl rfl 90 _ HZ1.out rfl (by kernel_rfl) (held_one _ _ _ _) ?_; intro w4 h0 ho hs4; have H0 := Lib.hid h0; have HO := Lib.hid ho; clear h0 ho))
      refine bodyPost_ret (results_ct (p := 4) (u := 5) (by kernel_rfl) _ _ w.heap.size _ _ _ rfl H0.out Tryz.underlying90 rfl (by kernel_rfl)) rfl ⟨by rw [HV.out]; rfl, ?_⟩
      exact (HB.out.alloc (by omega) _).trans (HO.out.below (by simp; omega) (by simp))
    | cons D rest =>
      obtain ⟨b, own, q2, n, rfl, c1, c2, how, hr⟩ := hlv
      have HB := Lib.hid hb
      have HOW := Lib.hid how
      have HLR := Lib.hid hr
      have HRr := Lib.hid hRr
      have HZ0 := Lib.hid hz
      clear hb hz HR HH HZ how hr hRr
      have hne : ¬ b = wr.heap.size := by have := cell_lt c1; omega
      cases hh : hasP D nm with
      | false =>
        have HV := Lib.hid (show R = lookV (lookP rest nm) by rw [HRr.out, lookP, if_neg (by rw [hh]; simp)])
        clear HRr
        go_wp2_with (at_lookup; refine wpList_look rfl _ _ rfl own D n rfl HOW.out nm hl rfl ?_; intro s A k c hv; rw [hh]; clear hv; have c2' := (((Below.refl _ wr).alloc (Nat.le_refl _) (.cells #[.string s, .slice A k c] 90)).cell (p := ⟨b, 2, none⟩) (cell_lt c1)).trans c2)
        go_roundg rest.length
        case measure => simp only [List.length_cons] at hk; omega
        case rel => exact ⟨q2, rest, rfl, rfl, HLR.out.later ((Below.refl _ wr).alloc (Nat.le_refl _) _), HV.out, HB.out.alloc (by omega) _, HZ0.out.alloc _, by simp; omega⟩
      | true =>
        go_wp2_with (first
          | (at_lookup; refine wpList_look rfl _ _ rfl own D n rfl HOW.out nm hl rfl ?_; intro s A k c hv; rw [hh]; have HVV := Lib.hid hv; clear hv; have HZ1 := Lib.hid (HZ0.out.alloc (.cells #[.string s, .slice A k c] 90)))
          | (refine wpList_store_all rfl 90 _ _ rfl w.heap.size [.string _, .slice _ _ _] rfl rfl 90 _ HZ1.out rfl (by kernel_rfl) (held_one _ _ _ _) ?_; intro w4 h0 ho hs4; have H0 := Lib.hid h0; have HO := Lib.hid ho; clear h0 ho))
        have HV := Lib.hid (show R = .tuple #[.agg #[.string s, .slice A k c], .bool true] by rw [HRr.out, lookP, if_pos hh, ← HVV.out]; rfl)
        refine bodyPost_ret (results_ct (p := 4) (u := 5) (by kernel_rfl) _ _ w.heap.size _ _ _ rfl H0.out Tryz.underlying90 rfl (by kernel_rfl)) rfl ⟨by rw [HV.out]; rfl, ?_⟩
        exact (HB.out.alloc (by omega) _).trans (HO.out.below (by simp; omega) (by simp))
end Go.Proofs.YthmadnadaakjaaaGreatDoor.Opt
/- The variables that layer 8 reads: the library's tables and errors, the names of the colours; texts cut at a byte. -/
namespace Go.Proofs.YthmadnadaakjaaaGreatDoor.Opt
open Go.RowKit

def eight : List Tx := [[98, 108, 97, 99, 107], [114, 101, 100], [103, 114, 101, 101, 110], [121, 101, 108, 108, 111, 119], [98, 108, 117, 101], [109, 97, 103, 101, 110, 116, 97], [99, 121, 97, 110], [119, 104, 105, 116, 101]]
def namedCells : Array Value := (eight.map fun l => Value.string (bs l)).toArray
def dbl : List Nat := [0, 1, 56, 2, 57, 49, 28, 3, 61, 58, 42, 50, 38, 29, 17, 4, 62, 47, 59, 36, 45, 43, 51, 22, 53, 39, 33, 30, 24, 18, 12, 5, 63, 55, 48, 27, 60, 41, 37, 16, 46, 35, 44, 21, 52, 32, 23, 11, 54, 26, 40, 15, 34, 20, 31, 10, 25, 14, 19, 9, 13, 8, 7, 6]
def dbCells : Array Value := (dbl.map fun k => Value.int .u8 ((k : Nat) : Int)).toArray
def u10Cells : Array Value := (Lib.pow10Tab.map fun z => Value.int .u64 z).toArray
/-- Where they lie, and what they hold: all below block B. -/
structure Tabs (B : Nat) (w : World) : Prop where
  low : 2 < B ∧ 6 < B ∧ 8 < B ∧ 0 < B ∧ 1 < B
  named : ∃ t fr, w.heap[2]? = some (.cells namedCells t fr)
  u10 : ∃ t fr, w.heap[6]? = some (.cells u10Cells t fr)
  db : ∃ t fr, w.heap[8]? = some (.cells dbCells t fr)
  syn : ∃ te pe, w.cell? ⟨0, 0, none⟩ = some (.iface te pe)
  rng : ∃ te pe, w.cell? ⟨1, 0, none⟩ = some (.iface te pe)
theorem Tabs.below {B : Nat} {w w' : World} (h : Tabs B w) (hb : Below B w w') : Tabs B w' := by
  obtain ⟨l, ⟨t1, f1, h1⟩, ⟨t2, f2, h2⟩, ⟨t3, f3, h3⟩, ⟨t4, f4, h4⟩, ⟨t5, f5, h5⟩⟩ := h
  refine ⟨l, ⟨t1, f1, ?_⟩, ⟨t2, f2, ?_⟩, ⟨t3, f3, ?_⟩, ⟨t4, f4, ?_⟩, ⟨t5, f5, ?_⟩⟩
  · exact (hb.block _ l.1).trans h1
  · exact (hb.block _ l.2.1).trans h2
  · exact (hb.block _ l.2.2.1).trans h3
  · exact (hb.cell (p := ⟨0, 0, none⟩) l.2.2.2.1).trans h4
  · exact (hb.cell (p := ⟨1, 0, none⟩) l.2.2.2.2).trans h5
/-- From a later world, all that was there being as it was. -/
theorem Tabs.on {B : Nat} {w w' : World} (h : Tabs B w) (hB : B ≤ w.heap.size) (hb : Below w.heap.size w w') : Tabs B w' := h.below (hb.mono hB)
theorem gU10 : Tryz.prog.globalNamed "internal/strconv.uint64pow10" = some 6 := by kernel_rfl
theorem Tabs.tabIs {B : Nat} {w : World} (h : Tabs B w) : Lib.TabIs Tryz.prog w "internal/strconv.uint64pow10" .u64 Lib.pow10Tab := by
  obtain ⟨t, fr, h2⟩ := h.u10
  unfold Lib.TabIs World.var?
  rw [gU10]
  simp only [Option.bind_some, h2]
  rfl
theorem itoa_any {B : Nat} (n : Int) (h0 : -9223372036854775808 ≤ n) (h1 : n ≤ 9223372036854775807) (w : World) (ht : Tabs B w) :
    Calls Tryz.prog 96 #[.int .i64 n] w fun e w' => e = .returned (.string (bs (Lib.itoa n))) ∧ Below w.heap.size w w' :=
  (Tryz.strconv_Itoa n h0 h1 w ht.tabIs).mono fun e w' ⟨he, k, os, hw⟩ => ⟨he, by rw [hw]; exact Lib.below_grow _ _ (Nat.le_refl _) _ _⟩
/-- What Atoi hands back: the number; is there an error? -/
def atoiP (l : Tx) : Int × Bool := match Lib.atoiAll l with
  | .ok v => (v, false)
  | .syntax => (0, true)
  | .range => (Lib.atoiSat l, true)
theorem atoi_any {B : Nat} (l : Tx) (hl : l.length ≤ 281474976710656) (w : World) (ht : Tabs B w) :
    Calls Tryz.prog 71 #[.string (bs l)] w fun e w' => (∃ ev, e = .returned (.tuple #[.int .i64 (atoiP l).1, ev]) ∧ (if (atoiP l).2 = true then ∃ t p, ev = .iface t p else ev = .nilIface)) ∧ Below w.heap.size w w' := by
  obtain ⟨te, pe, hs⟩ := ht.syn
  obtain ⟨tr, pr, hr⟩ := ht.rng
  have hsz : (bs l).size ≤ 281474976710656 := by rw [bs_size]; exact hl
  have hA : Lib.atoiAll (bs l).data.toList = Lib.atoiAll l := by rw [bs_list]
  have hS : Lib.atoiSat (bs l).data.toList = Lib.atoiSat l := by rw [bs_list]
  cases ha : Lib.atoiAll l with
  | ok v =>
    have e1 : atoiP l = (v, false) := by unfold atoiP; rw [ha]
    rw [e1]
    refine (Tryz.strconv_Atoi_ok (bs l) (by omega) v (hA.trans ha) w).mono fun e w' h => ?_
    obtain ⟨rfl, hw⟩ := h
    refine ⟨⟨_, rfl, by simp⟩, ?_⟩
    rcases hw with rfl | ⟨t, rfl⟩
    · exact Below.refl _ _
    · exact Lib.bytesWorld_below _ _ _
  | «syntax» =>
    have e1 : atoiP l = (0, true) := by unfold atoiP; rw [ha]
    rw [e1]
    refine (Tryz.strconv_Atoi_syntax (bs l) hsz (hA.trans ha) _ w hs (.inr ⟨_, _, rfl⟩)).mono fun e w' h => ?_
    obtain ⟨N, rfl, _, _, hb⟩ := h
    exact ⟨⟨_, rfl, by simp⟩, hb⟩
  | range =>
    have e1 : atoiP l = (Lib.atoiSat l, true) := by unfold atoiP; rw [ha]
    rw [e1]
    refine (Tryz.strconv_Atoi_range (bs l) hsz (hA.trans ha) _ w hr (.inr ⟨_, _, rfl⟩)).mono fun e w' h => ?_
    obtain ⟨N, rfl, _, _, hb⟩ := h
    rw [hS]
    exact ⟨⟨_, rfl, by simp⟩, hb⟩
end Go.Proofs.YthmadnadaakjaaaGreatDoor.Opt
