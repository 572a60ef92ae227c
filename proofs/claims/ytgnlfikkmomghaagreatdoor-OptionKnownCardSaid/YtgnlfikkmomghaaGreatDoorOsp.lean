/- Blocks that are known whole; what a call may turn. -/
import Derived.Test.YtgnlfikkmomghaaGreatDoorProg
import Derived.WalkKit
import Derived.WalkLawsBesides
import Derived.WalkSpells
import Derived.WalkSmall
import Derived.Lib.Hide
import Derived.Outline
import Derived.Maps.AppendAt
import Derived.Deep.AppendLies
import Derived.Deep.Draws
import Derived.Deep.QuietTactic
import Derived.Deep.MidRow
import Derived.Deep.RegionWith
import Derived.Deep.RegionHeld3
import Derived.Deep.DeepCutAuto
import Derived.Deep.CutRange
import Derived.BigQuiet
import Derived.RangeFuncNested
import Derived.RangeFuncBound
import Derived.RangeFuncCalls
import Derived.RangeFuncLeaves
import Derived.Shelf.Abstract
import Derived.Shelf.RegionOpen
import Derived.OwnWalkIn
import Derived.TacticsInMore
import Derived.LoopNIn
import Derived.LoopIn
import Derived.Great.BuildSlice
import Derived.Maps.OwnOps
import Derived.Maps.OwnIn
import Derived.Maps.OwnSet
import Derived.Laws.CopyRow
import Derived.Laws.MakeOwn
namespace Go.Proofs.YtgnlfikkmomghaaGreatDoor.Opt
open Go.RowKit
/-! ### A block that is known whole -/
def BL (w : World) (b : Nat) (t : TypeId) (xs : List Value) : Prop := w.heap[b]? = some (.cells xs.toArray t (0, 0))
section
variable {w w' : World} {b : Nat} {t : TypeId} {xs : List Value}
theorem BL.lt (h : BL w b t xs) : b < w.heap.size := by
  rcases Nat.lt_or_ge b w.heap.size with hlt | hge
  · exact hlt
  · unfold BL at h; rw [Array.getElem?_eq_none hge] at h; cases h
theorem BL.cell (h : BL w b t xs) (i : Nat) : w.cell? ⟨b, i, none⟩ = xs[i]? := by
  have := cell_of_row w b i xs.toArray t (0, 0) h
  simpa using this
theorem BL.frozen (h : BL w b t xs) (i : Nat) : w.frozen? ⟨b, i, none⟩ = false := by
  unfold BL at h
  simp [World.frozen?, h]
theorem BL.new (w : World) (t : TypeId) (xs : List Value) : BL (w.alloc (.cells xs.toArray t)) w.heap.size t xs := heap_alloc_new w _
theorem BL.keep (h : BL w b t xs) (e : w'.heap[b]? = w.heap[b]?) : BL w' b t xs := e.trans h
theorem BL.alloc (h : BL w b t xs) (o : Obj) : BL (w.alloc o) b t xs := (Below.heap_alloc w o b h.lt).trans h
theorem BL.drew (h : BL w b t xs) : BL w.drew b t xs := h
theorem BL.set_ (h : BL w b t xs) (i : Nat) (u : Value) : BL (w.setCell ⟨b, i, none⟩ u) b t (xs.set i u) := by
  unfold BL at h ⊢
  simp [World.setCell, Array.getElem?_modify, h]
theorem BL.range (h : BL w b t xs) {o : Nat} {vs : List Value} (hv : ∀ j v, vs[j]? = some v → xs[o + j]? = some v) : w.rangeAt b o vs := fun j v hj => by
  rw [h.cell]; exact hv j v hj
theorem BL.there (h : BL w b t xs) {o n : Nat} (hn : o + n ≤ xs.length) : w.there b o n := fun j hj => by
  refine ⟨?_, h.frozen _⟩
  rw [h.cell, List.getElem?_eq_getElem (by omega)]
  rfl
end
/-! ### What a call may turn -/
/-- No block but those of F has turned; none has gone; the streams are as they were. -/
structure Only (F : List Nat) (w w' : World) : Prop where
  os : w'.os = w.os
  tape : w'.tape = w.tape
  output : w'.output = w.output
  size : w.heap.size ≤ w'.heap.size
  block : ∀ k, k < w.heap.size → k ∉ F → w'.heap[k]? = w.heap[k]?
theorem Only.refl (F : List Nat) (w : World) : Only F w w := ⟨rfl, rfl, rfl, Nat.le_refl _, fun _ _ _ => rfl⟩
theorem Only.trans {F : List Nat} {a b c : World} (h : Only F a b) (k : Only F b c) : Only F a c :=
  ⟨k.os.trans h.os, k.tape.trans h.tape, k.output.trans h.output, Nat.le_trans h.size k.size, fun i hi hn => (k.block i (Nat.lt_of_lt_of_le hi h.size) hn).trans (h.block i hi hn)⟩
/-- Behind a call that may turn other blocks, those that were not there yet among them. -/
theorem Only.trans2 {F G : List Nat} {a b c : World} (h : Only F a b) (k : Only G b c) (hG : ∀ x ∈ G, x ∈ F ∨ a.heap.size ≤ x) : Only F a c :=
  ⟨k.os.trans h.os, k.tape.trans h.tape, k.output.trans h.output, Nat.le_trans h.size k.size, fun i hi hn => (k.block i (Nat.lt_of_lt_of_le hi h.size) (fun hg => by rcases hG i hg with x | x; exact hn x; omega)).trans (h.block i hi hn)⟩
theorem Only.mono {F G : List Nat} {a b : World} (h : Only F a b) (hG : ∀ x ∈ F, x ∈ G) : Only G a b := ⟨h.os, h.tape, h.output, h.size, fun k hk hn => h.block k hk (fun x => hn (hG k x))⟩
theorem Only.alloc {F : List Nat} {a w : World} (h : Only F a w) (o : Obj) : Only F a (w.alloc o) :=
  h.trans ⟨rfl, rfl, rfl, by simp, fun k hk _ => Below.heap_alloc _ _ _ hk⟩
theorem Only.drew {F : List Nat} {a w : World} (h : Only F a w) : Only F a w.drew := ⟨h.os, h.tape, h.output, h.size, h.block⟩
theorem Only.setCell {F : List Nat} {a w : World} (h : Only F a w) {p : Addr} (hb : p.block ∈ F ∨ a.heap.size ≤ p.block) (u : Value) : Only F a (w.setCell p u) :=
  ⟨h.os, h.tape, h.output, by simp [World.setCell]; exact h.size, fun k hk hn => by
    rw [Below.heap_setCell w p u k (fun e => by subst e; rcases hb with x | x; exact hn x; omega)]; exact h.block k hk hn⟩
/-- A call that only makes new blocks. -/
theorem Only.of_below {F : List Nat} {a b : World} (h : Below a.heap.size a b) : Only F a b := ⟨h.os, h.tape, h.output, h.size, fun k hk _ => h.block k hk⟩
theorem Only.below {F : List Nat} {B : Nat} {a b : World} (h : Only F a b) (hB : B ≤ a.heap.size) (hF : ∀ x ∈ F, B ≤ x) : Below B a b := ⟨h.os, h.tape, h.output, h.size, fun k hk => h.block k (by omega) (fun x => by have := hF k x; omega)⟩
theorem Only.nil_below {a b : World} (h : Only [] a b) : Below a.heap.size a b := h.below (Nat.le_refl _) (fun _ h => by cases h)
theorem BL.only {w w' : World} {b : Nat} {t : TypeId} {xs : List Value} {F : List Nat} (h : BL w b t xs) (ho : Only F w w') (hb : b ∉ F) : BL w' b t xs := h.keep (ho.block b h.lt hb)

/-! ### Rows of cells -/
abbrev slV (b o n c : Nat) : Value := .slice (some ⟨b, o, none⟩) n c

/-! ### Texts -/
abbrev Tx := List UInt8
/-- A list of bytes as a text. -/
def bs (l : Tx) : ByteArray := ⟨l.toArray⟩
theorem bs_app (a b : Tx) : bs a ++ bs b = bs (a ++ b) := by
  unfold bs
  exact ByteArray.ext (by simp)
theorem bs_list (l : Tx) : (bs l).data.toList = l := by simp [bs]
theorem bs_size (l : Tx) : (bs l).size = l.length := by show (bs l).data.size = _; rw [← Array.length_toList, bs_list]
theorem bs_of (s : ByteArray) : s = bs s.data.toList := by cases s; simp [bs]
theorem bs_inj {a b : Tx} (h : bs a = bs b) : a = b := by rw [← bs_list a, h, bs_list]
/-! ### The table -/
structure Op8 where
  name : Tx
  scope : Int
  kind : Tx
  first : Tx
  least : Int
  most : Int
  choices : Tx
deriving DecidableEq
def optL (o : Op8) : List Value := [.string (bs o.name), .int .i64 o.scope, .string (bs o.kind), .string (bs o.first), .int .i64 o.least, .int .i64 o.most, .string (bs o.choices)]
def optV (o : Op8) : Value := .agg (optL o).toArray
/-- As the literal has it: without its scope. -/
def opt0 (o : Op8) : List Value := [.string (bs o.name), .int .i64 0, .string (bs o.kind), .string (bs o.first), .int .i64 o.least, .int .i64 o.most, .string (bs o.choices)]
def srvL : List Op8 := [
  ⟨[98, 117, 102, 102, 101, 114, 45, 108, 105, 109, 105, 116], 1, [110, 117, 109, 98, 101, 114], [50, 48], 1, 20, []⟩,
  ⟨[99, 111, 109, 109, 97, 110, 100, 45, 97, 108, 105, 97, 115], 1, [97, 114, 114, 97, 121], [], 0, 0, []⟩,
  ⟨[100, 101, 102, 97, 117, 108, 116, 45, 116, 101, 114, 109, 105, 110, 97, 108], 1, [115, 116, 114, 105, 110, 103], [115, 99, 114, 101, 101, 110], 0, 0, []⟩,
  ⟨[101, 115, 99, 97, 112, 101, 45, 116, 105, 109, 101], 1, [110, 117, 109, 98, 101, 114], [53, 48, 48], 0, 10000, []⟩,
  ⟨[101, 120, 105, 116, 45, 101, 109, 112, 116, 121], 1, [102, 108, 97, 103], [111, 110], 0, 0, []⟩,
  ⟨[101, 120, 105, 116, 45, 117, 110, 97, 116, 116, 97, 99, 104, 101, 100], 1, [102, 108, 97, 103], [111, 102, 102], 0, 0, []⟩,
  ⟨[102, 111, 99, 117, 115, 45, 101, 118, 101, 110, 116, 115], 1, [102, 108, 97, 103], [111, 102, 102], 0, 0, []⟩,
  ⟨[109, 101, 115, 115, 97, 103, 101, 45, 108, 105, 109, 105, 116], 1, [110, 117, 109, 98, 101, 114], [49, 48, 48], 0, 1000, []⟩,
  ⟨[115, 101, 116, 45, 99, 108, 105, 112, 98, 111, 97, 114, 100], 1, [99, 104, 111, 105, 99, 101], [101, 120, 116, 101, 114, 110, 97, 108], 0, 0, [111, 102, 102, 44, 101, 120, 116, 101, 114, 110, 97, 108, 44, 111, 110]⟩,
  ⟨[117, 115, 101, 114, 45, 107, 101, 121, 115], 1, [97, 114, 114, 97, 121], [], 0, 0, []⟩]
def sesL : List Op8 := [
  ⟨[98, 97, 115, 101, 45, 105, 110, 100, 101, 120], 2, [110, 117, 109, 98, 101, 114], [48], 0, 9999, []⟩,
  ⟨[100, 101, 102, 97, 117, 108, 116, 45, 99, 111, 109, 109, 97, 110, 100], 2, [115, 116, 114, 105, 110, 103], [], 0, 0, []⟩,
  ⟨[100, 101, 102, 97, 117, 108, 116, 45, 115, 104, 101, 108, 108], 2, [115, 116, 114, 105, 110, 103], [47, 98, 105, 110, 47, 115, 104], 0, 0, []⟩,
  ⟨[100, 101, 115, 116, 114, 111, 121, 45, 117, 110, 97, 116, 116, 97, 99, 104, 101, 100], 2, [102, 108, 97, 103], [111, 102, 102], 0, 0, []⟩,
  ⟨[100, 101, 116, 97, 99, 104, 45, 111, 110, 45, 100, 101, 115, 116, 114, 111, 121], 2, [102, 108, 97, 103], [111, 110], 0, 0, []⟩,
  ⟨[100, 105, 115, 112, 108, 97, 121, 45, 116, 105, 109, 101], 2, [110, 117, 109, 98, 101, 114], [55, 53, 48], 0, 100000, []⟩,
  ⟨[104, 105, 115, 116, 111, 114, 121, 45, 108, 105, 109, 105, 116], 2, [110, 117, 109, 98, 101, 114], [50, 48, 48, 48], 0, 2000, []⟩,
  ⟨[107, 101, 121, 45, 116, 97, 98, 108, 101], 2, [115, 116, 114, 105, 110, 103], [114, 111, 111, 116], 0, 0, []⟩,
  ⟨[109, 101, 115, 115, 97, 103, 101, 45, 115, 116, 121, 108, 101], 2, [115, 116, 121, 108, 101], [102, 103, 61, 98, 108, 97, 99, 107, 44, 98, 103, 61, 121, 101, 108, 108, 111, 119], 0, 0, []⟩,
  ⟨[109, 111, 117, 115, 101], 2, [102, 108, 97, 103], [111, 102, 102], 0, 0, []⟩,
  ⟨[112, 114, 101, 102, 105, 120], 2, [115, 116, 114, 105, 110, 103], [67, 45, 98], 0, 0, []⟩,
  ⟨[112, 114, 101, 102, 105, 120, 50], 2, [115, 116, 114, 105, 110, 103], [78, 111, 110, 101], 0, 0, []⟩,
  ⟨[114, 101, 110, 117, 109, 98, 101, 114, 45, 119, 105, 110, 100, 111, 119, 115], 2, [102, 108, 97, 103], [111, 102, 102], 0, 0, []⟩,
  ⟨[114, 101, 112, 101, 97, 116, 45, 116, 105, 109, 101], 2, [110, 117, 109, 98, 101, 114], [53, 48, 48], 0, 10000, []⟩,
  ⟨[115, 101, 116, 45, 116, 105, 116, 108, 101, 115], 2, [102, 108, 97, 103], [111, 102, 102], 0, 0, []⟩,
  ⟨[115, 101, 116, 45, 116, 105, 116, 108, 101, 115, 45, 115, 116, 114, 105, 110, 103], 2, [115, 116, 114, 105, 110, 103], [35, 83, 58, 35, 73, 58, 35, 87], 0, 0, []⟩,
  ⟨[115, 116, 97, 116, 117, 115], 2, [102, 108, 97, 103], [111, 110], 0, 0, []⟩,
  ⟨[115, 116, 97, 116, 117, 115, 45, 105, 110, 116, 101, 114, 118, 97, 108], 2, [110, 117, 109, 98, 101, 114], [49, 53], 0, 3600, []⟩,
  ⟨[115, 116, 97, 116, 117, 115, 45, 106, 117, 115, 116, 105, 102, 121], 2, [99, 104, 111, 105, 99, 101], [108, 101, 102, 116], 0, 0, [108, 101, 102, 116, 44, 99, 101, 110, 116, 114, 101, 44, 114, 105, 103, 104, 116]⟩,
  ⟨[115, 116, 97, 116, 117, 115, 45, 107, 101, 121, 115], 2, [99, 104, 111, 105, 99, 101], [101, 109, 97, 99, 115], 0, 0, [101, 109, 97, 99, 115, 44, 118, 105]⟩,
  ⟨[115, 116, 97, 116, 117, 115, 45, 108, 101, 102, 116], 2, [115, 116, 114, 105, 110, 103], [91, 35, 83, 93, 32], 0, 0, []⟩,
  ⟨[115, 116, 97, 116, 117, 115, 45, 108, 101, 102, 116, 45, 108, 101, 110, 103, 116, 104], 2, [110, 117, 109, 98, 101, 114], [49, 48], 0, 250, []⟩,
  ⟨[115, 116, 97, 116, 117, 115, 45, 112, 111, 115, 105, 116, 105, 111, 110], 2, [99, 104, 111, 105, 99, 101], [98, 111, 116, 116, 111, 109], 0, 0, [116, 111, 112, 44, 98, 111, 116, 116, 111, 109]⟩,
  ⟨[115, 116, 97, 116, 117, 115, 45, 114, 105, 103, 104, 116], 2, [115, 116, 114, 105, 110, 103], [32, 35, 84], 0, 0, []⟩,
  ⟨[115, 116, 97, 116, 117, 115, 45, 114, 105, 103, 104, 116, 45, 108, 101, 110, 103, 116, 104], 2, [110, 117, 109, 98, 101, 114], [52, 48], 0, 250, []⟩,
  ⟨[115, 116, 97, 116, 117, 115, 45, 115, 116, 121, 108, 101], 2, [115, 116, 121, 108, 101], [102, 103, 61, 98, 108, 97, 99, 107, 44, 98, 103, 61, 103, 114, 101, 101, 110], 0, 0, []⟩,
  ⟨[117, 112, 100, 97, 116, 101, 45, 101, 110, 118, 105, 114, 111, 110, 109, 101, 110, 116], 2, [97, 114, 114, 97, 121], [68, 73, 83, 80, 76, 65, 89, 44, 83, 83, 72, 95, 65, 71, 69, 78, 84, 95, 80, 73, 68], 0, 0, []⟩,
  ⟨[119, 111, 114, 100, 45, 115, 101, 112, 97, 114, 97, 116, 111, 114, 115], 2, [115, 116, 114, 105, 110, 103], [32, 45, 95, 64], 0, 0, []⟩]
def winL : List Op8 := [
  ⟨[97, 103, 103, 114, 101, 115, 115, 105, 118, 101, 45, 114, 101, 115, 105, 122, 101], 3, [102, 108, 97, 103], [111, 102, 102], 0, 0, []⟩,
  ⟨[97, 108, 108, 111, 119, 45, 114, 101, 110, 97, 109, 101], 3, [102, 108, 97, 103], [111, 110], 0, 0, []⟩,
  ⟨[97, 117, 116, 111, 109, 97, 116, 105, 99, 45, 114, 101, 110, 97, 109, 101], 3, [102, 108, 97, 103], [111, 102, 102], 0, 0, []⟩,
  ⟨[109, 97, 105, 110, 45, 112, 97, 110, 101, 45, 104, 101, 105, 103, 104, 116], 3, [110, 117, 109, 98, 101, 114], [50, 52], 1, 120, []⟩,
  ⟨[109, 97, 105, 110, 45, 112, 97, 110, 101, 45, 119, 105, 100, 116, 104], 3, [110, 117, 109, 98, 101, 114], [56, 48], 1, 250, []⟩,
  ⟨[109, 111, 100, 101, 45, 107, 101, 121, 115], 3, [99, 104, 111, 105, 99, 101], [101, 109, 97, 99, 115], 0, 0, [101, 109, 97, 99, 115, 44, 118, 105]⟩,
  ⟨[109, 111, 100, 101, 45, 115, 116, 121, 108, 101], 3, [115, 116, 121, 108, 101], [102, 103, 61, 98, 108, 97, 99, 107, 44, 98, 103, 61, 121, 101, 108, 108, 111, 119], 0, 0, []⟩,
  ⟨[109, 111, 110, 105, 116, 111, 114, 45, 97, 99, 116, 105, 118, 105, 116, 121], 3, [102, 108, 97, 103], [111, 102, 102], 0, 0, []⟩,
  ⟨[109, 111, 110, 105, 116, 111, 114, 45, 98, 101, 108, 108], 3, [102, 108, 97, 103], [111, 110], 0, 0, []⟩,
  ⟨[112, 97, 110, 101, 45, 97, 99, 116, 105, 118, 101, 45, 98, 111, 114, 100, 101, 114, 45, 115, 116, 121, 108, 101], 3, [115, 116, 121, 108, 101], [102, 103, 61, 103, 114, 101, 101, 110], 0, 0, []⟩,
  ⟨[112, 97, 110, 101, 45, 98, 97, 115, 101, 45, 105, 110, 100, 101, 120], 3, [110, 117, 109, 98, 101, 114], [48], 0, 9999, []⟩,
  ⟨[112, 97, 110, 101, 45, 98, 111, 114, 100, 101, 114, 45, 115, 116, 121, 108, 101], 3, [115, 116, 121, 108, 101], [100, 101, 102, 97, 117, 108, 116], 0, 0, []⟩,
  ⟨[115, 121, 110, 99, 104, 114, 111, 110, 105, 122, 101, 45, 112, 97, 110, 101, 115], 3, [102, 108, 97, 103], [111, 102, 102], 0, 0, []⟩,
  ⟨[119, 105, 110, 100, 111, 119, 45, 115, 116, 97, 116, 117, 115, 45, 99, 117, 114, 114, 101, 110, 116, 45, 102, 111, 114, 109, 97, 116], 3, [115, 116, 114, 105, 110, 103], [35, 73, 58, 35, 87, 35, 70], 0, 0, []⟩,
  ⟨[119, 105, 110, 100, 111, 119, 45, 115, 116, 97, 116, 117, 115, 45, 99, 117, 114, 114, 101, 110, 116, 45, 115, 116, 121, 108, 101], 3, [115, 116, 121, 108, 101], [100, 101, 102, 97, 117, 108, 116], 0, 0, []⟩,
  ⟨[119, 105, 110, 100, 111, 119, 45, 115, 116, 97, 116, 117, 115, 45, 102, 111, 114, 109, 97, 116], 3, [115, 116, 114, 105, 110, 103], [35, 73, 58, 35, 87, 35, 70], 0, 0, []⟩,
  ⟨[119, 105, 110, 100, 111, 119, 45, 115, 116, 97, 116, 117, 115, 45, 115, 101, 112, 97, 114, 97, 116, 111, 114], 3, [115, 116, 114, 105, 110, 103], [32], 0, 0, []⟩,
  ⟨[119, 105, 110, 100, 111, 119, 45, 115, 116, 97, 116, 117, 115, 45, 115, 116, 121, 108, 101], 3, [115, 116, 121, 108, 101], [100, 101, 102, 97, 117, 108, 116], 0, 0, []⟩,
  ⟨[119, 114, 97, 112, 45, 115, 101, 97, 114, 99, 104], 3, [102, 108, 97, 103], [111, 110], 0, 0, []⟩]
def panL : List Op8 := [
  ⟨[97, 108, 108, 111, 119, 45, 112, 97, 115, 115, 116, 104, 114, 111, 117, 103, 104], 4, [99, 104, 111, 105, 99, 101], [111, 102, 102], 0, 0, [111, 102, 102, 44, 111, 110, 44, 97, 108, 108]⟩,
  ⟨[97, 108, 116, 101, 114, 110, 97, 116, 101, 45, 115, 99, 114, 101, 101, 110], 4, [102, 108, 97, 103], [111, 110], 0, 0, []⟩,
  ⟨[99, 117, 114, 115, 111, 114, 45, 99, 111, 108, 111, 117, 114], 4, [99, 111, 108, 111, 117, 114], [100, 101, 102, 97, 117, 108, 116], 0, 0, []⟩,
  ⟨[114, 101, 109, 97, 105, 110, 45, 111, 110, 45, 101, 120, 105, 116], 4, [102, 108, 97, 103], [111, 102, 102], 0, 0, []⟩,
  ⟨[119, 105, 110, 100, 111, 119, 45, 97, 99, 116, 105, 118, 101, 45, 115, 116, 121, 108, 101], 4, [115, 116, 121, 108, 101], [100, 101, 102, 97, 117, 108, 116], 0, 0, []⟩,
  ⟨[119, 105, 110, 100, 111, 119, 45, 115, 116, 121, 108, 101], 4, [115, 116, 121, 108, 101], [100, 101, 102, 97, 117, 108, 116], 0, 0, []⟩]
def tabL : List Op8 := srvL ++ (sesL ++ (winL ++ panL))
theorem tabL_len : tabL.length = 63 := by decide
/-- The cells of rows, one behind the other. -/
def rowsC (os : List Op8) : List Value := (os.map opt0).flatten
theorem opt0_len (o : Op8) : (opt0 o).length = 7 := rfl
theorem rowsC_len (os : List Op8) : (rowsC os).length = 7 * os.length := by
  unfold rowsC
  induction os with
  | nil => rfl
  | cons o os ih => simp only [List.map_cons, List.flatten_cons, List.length_append, List.length_cons, opt0_len]; omega
theorem rowsC_at {os : List Op8} {i : Nat} (h : i < os.length) (j : Nat) (hj : j < 7) : (rowsC os)[7 * i + j]? = (opt0 os[i])[j]? := by
  induction os generalizing i with
  | nil => cases h
  | cons o os ih =>
    have e : rowsC (o :: os) = opt0 o ++ rowsC os := rfl
    cases i with
    | zero => rw [e, List.getElem?_append_left (by rw [opt0_len]; omega)]; simp
    | succ i =>
      rw [e, List.getElem?_append_right (by rw [opt0_len]; omega), opt0_len, show 7 * (i + 1) + j - 7 = 7 * i + j by omega, ih (by simpa using h)]
      simp
end Go.Proofs.YtgnlfikkmomghaaGreatDoor.Opt
