/- format: blocks that are known whole, what a call may turn; the layer in plain words. -/
import Derived.Test.YtbiinghmopgjnaaGreatDoorProg
import Derived.WalkKit
import Derived.WalkLawsBesides
import Derived.WalkSpells
import Derived.WalkSmall
import Derived.Lib.Hide
import Derived.Outline
import Derived.Maps.AppendAt
import Derived.Deep.AppendLies
import Derived.Deep.Draws
import Derived.Deep.QuietTactic
import Derived.Deep.MidRow
import Derived.Deep.RegionWith
import Derived.Deep.RegionHeld3
import Derived.Deep.DeepCutAuto
import Derived.Deep.CutRange
import Derived.BigQuiet
import Derived.Lib.IndexLaws
import Derived.Shelf.Abstract
import Derived.Shelf.RegionOpen
import Derived.Laws.CopyRow
import Derived.Laws.MakeOwn
namespace Go.Proofs.YtbiinghmopgjnaaGreatDoor.Fmt
open Go.RowKit
/-! ### A block that is known whole -/
def BL (w : World) (b : Nat) (t : TypeId) (xs : List Value) : Prop := w.heap[b]? = some (.cells xs.toArray t (0, 0))
section
variable {w w' : World} {b : Nat} {t : TypeId} {xs : List Value}
theorem BL.lt (h : BL w b t xs) : b < w.heap.size := by
  rcases Nat.lt_or_ge b w.heap.size with hlt | hge
  · exact hlt
  · unfold BL at h; rw [Array.getElem?_eq_none hge] at h; cases h
theorem BL.cell (h : BL w b t xs) (i : Nat) : w.cell? ⟨b, i, none⟩ = xs[i]? := by
  have := cell_of_row w b i xs.toArray t (0, 0) h
  simpa using this
theorem BL.frozen (h : BL w b t xs) (i : Nat) : w.frozen? ⟨b, i, none⟩ = false := by
  unfold BL at h
  simp [World.frozen?, h]
theorem BL.new (w : World) (t : TypeId) (xs : List Value) : BL (w.alloc (.cells xs.toArray t)) w.heap.size t xs := heap_alloc_new w _
theorem BL.keep (h : BL w b t xs) (e : w'.heap[b]? = w.heap[b]?) : BL w' b t xs := e.trans h
theorem BL.alloc (h : BL w b t xs) (o : Obj) : BL (w.alloc o) b t xs := (Below.heap_alloc w o b h.lt).trans h
theorem BL.drew (h : BL w b t xs) : BL w.drew b t xs := h
theorem BL.set_ (h : BL w b t xs) (i : Nat) (u : Value) : BL (w.setCell ⟨b, i, none⟩ u) b t (xs.set i u) := by
  unfold BL at h ⊢
  simp [World.setCell, Array.getElem?_modify, h]
theorem BL.range (h : BL w b t xs) {o : Nat} {vs : List Value} (hv : ∀ j v, vs[j]? = some v → xs[o + j]? = some v) : w.rangeAt b o vs := fun j v hj => by
  rw [h.cell]; exact hv j v hj
theorem BL.there (h : BL w b t xs) {o n : Nat} (hn : o + n ≤ xs.length) : w.there b o n := fun j hj => by
  refine ⟨?_, h.frozen _⟩
  rw [h.cell, List.getElem?_eq_getElem (by omega)]
  rfl
end
/-! ### What a call may turn -/
/-- No block but those of F has turned; none has gone; the streams are as they were. -/
structure Only (F : List Nat) (w w' : World) : Prop where
  os : w'.os = w.os
  tape : w'.tape = w.tape
  output : w'.output = w.output
  size : w.heap.size ≤ w'.heap.size
  block : ∀ k, k < w.heap.size → k ∉ F → w'.heap[k]? = w.heap[k]?
theorem Only.refl (F : List Nat) (w : World) : Only F w w := ⟨rfl, rfl, rfl, Nat.le_refl _, fun _ _ _ => rfl⟩
theorem Only.trans {F : List Nat} {a b c : World} (h : Only F a b) (k : Only F b c) : Only F a c :=
  ⟨k.os.trans h.os, k.tape.trans h.tape, k.output.trans h.output, Nat.le_trans h.size k.size, fun i hi hn => (k.block i (Nat.lt_of_lt_of_le hi h.size) hn).trans (h.block i hi hn)⟩
/-- Behind a call that may turn other blocks, those that were not there yet among them. -/
theorem Only.trans2 {F G : List Nat} {a b c : World} (h : Only F a b) (k : Only G b c) (hG : ∀ x ∈ G, x ∈ F ∨ a.heap.size ≤ x) : Only F a c :=
  ⟨k.os.trans h.os, k.tape.trans h.tape, k.output.trans h.output, Nat.le_trans h.size k.size, fun i hi hn => (k.block i (Nat.lt_of_lt_of_le hi h.size) (fun hg => by rcases hG i hg with x | x; exact hn x; omega)).trans (h.block i hi hn)⟩
theorem Only.mono {F G : List Nat} {a b : World} (h : Only F a b) (hG : ∀ x ∈ F, x ∈ G) : Only G a b := ⟨h.os, h.tape, h.output, h.size, fun k hk hn => h.block k hk (fun x => hn (hG k x))⟩
theorem Only.alloc {F : List Nat} {a w : World} (h : Only F a w) (o : Obj) : Only F a (w.alloc o) :=
  h.trans ⟨rfl, rfl, rfl, by simp, fun k hk _ => Below.heap_alloc _ _ _ hk⟩
theorem Only.drew {F : List Nat} {a w : World} (h : Only F a w) : Only F a w.drew := ⟨h.os, h.tape, h.output, h.size, h.block⟩
theorem Only.setCell {F : List Nat} {a w : World} (h : Only F a w) {p : Addr} (hb : p.block ∈ F ∨ a.heap.size ≤ p.block) (u : Value) : Only F a (w.setCell p u) :=
  ⟨h.os, h.tape, h.output, by simp [World.setCell]; exact h.size, fun k hk hn => by
    rw [Below.heap_setCell w p u k (fun e => by subst e; rcases hb with x | x; exact hn x; omega)]; exact h.block k hk hn⟩
/-- A call that only makes new blocks. -/
theorem Only.of_below {F : List Nat} {a b : World} (h : Below a.heap.size a b) : Only F a b := ⟨h.os, h.tape, h.output, h.size, fun k hk _ => h.block k hk⟩
theorem Only.below {F : List Nat} {B : Nat} {a b : World} (h : Only F a b) (hB : B ≤ a.heap.size) (hF : ∀ x ∈ F, B ≤ x) : Below B a b := ⟨h.os, h.tape, h.output, h.size, fun k hk => h.block k (by omega) (fun x => by have := hF k x; omega)⟩
theorem Only.nil_below {a b : World} (h : Only [] a b) : Below a.heap.size a b := h.below (Nat.le_refl _) (fun _ h => by cases h)
theorem BL.only {w w' : World} {b : Nat} {t : TypeId} {xs : List Value} {F : List Nat} (h : BL w b t xs) (ho : Only F w w') (hb : b ∉ F) : BL w' b t xs := h.keep (ho.block b h.lt hb)

/-! ### Rows of cells -/
abbrev slV (b o n c : Nat) : Value := .slice (some ⟨b, o, none⟩) n c

/-! ### Texts -/
abbrev Tx := List UInt8
/-- A list of bytes as a text. -/
def bs (l : Tx) : ByteArray := ⟨l.toArray⟩
theorem bs_app (a b : Tx) : bs a ++ bs b = bs (a ++ b) := by
  unfold bs
  exact ByteArray.ext (by simp)
theorem bs_list (l : Tx) : (bs l).data.toList = l := by simp [bs]
theorem bs_size (l : Tx) : (bs l).size = l.length := by show (bs l).data.size = _; rw [← Array.length_toList, bs_list]
theorem bs_of (s : ByteArray) : s = bs s.data.toList := by cases s; simp [bs]
theorem bs_inj {a b : Tx} (h : bs a = bs b) : a = b := by rw [← bs_list a, h, bs_list]
theorem bs_tl (l : Tx) : (bs l).toList = l := by unfold bs; simp
theorem bs_nil (l : Tx) : bs l = ⟨#[]⟩ ↔ l = [] := ⟨fun h => bs_inj (b := []) h, fun h => by rw [h]; rfl⟩
theorem cut_ext (l : Tx) (a b : Nat) : (bs l).extract a b = bs ((l.take b).drop a) := by
  unfold bs
  apply ByteArray.ext
  simp [ByteArray.data_extract, List.drop_take]
theorem bs_drop (l : Tx) (n : Nat) : (bs l).extract n (bs l).size = bs (l.drop n) := by
  rw [cut_ext, bs_size, List.take_of_length_le (Nat.le_refl _)]
theorem bs_take (l : Tx) (n : Nat) : (bs l).extract 0 n = bs (l.take n) := by rw [cut_ext]; simp

/-! ### The layer in plain words -/
def marked (c : UInt8) : Bool := c == 35 || (c == 44 || c == 125)
/-- Where a sign first stands outside: how deep, how far on. -/
def outR (sign : UInt8) : Tx → Int → Nat → Option Nat
  | [], _, _ => none
  | c :: r, d, i =>
    if d = 0 ∧ c = sign then some i
    else if c = 125 then outR sign r (d - 1) (i + 1)
    else match r with
      | [] => none
      | e :: r' =>
        if c = 35 ∧ e = 123 then outR sign (e :: r') (d + 1) (i + 1)
        else if c = 35 ∧ marked e = true then outR sign r' d (i + 2)
        else outR sign (e :: r') d (i + 1)
def piecesP : Nat → Tx → List Tx
  | 0, s => [s]
  | k + 1, s => match outR 44 s 0 0 with
    | none => [s]
    | some a => s.take a :: piecesP k (s.drop (a + 1))
abbrev Vs := List (Tx × Tx)
structure Lv where
  vars : Vs
  loops : List (UInt8 × List Vs)
/-- What is seen: nothing is known, or levels, the innermost ahead. -/
abbrev Env := Option (List Lv)
def lookV : Vs → Tx → Option Tx
  | [], _ => none
  | (n, v) :: r, s => if n = s then some v else lookV r s
def findP : List Lv → Tx → Option Tx
  | [], _ => none
  | l :: r, s => match lookV l.vars s with
    | some v => some v
    | none => findP r s
def lookL : List (UInt8 × List Vs) → UInt8 → Option (List Vs)
  | [], _ => none
  | (k, v) :: r, s => if k = s then some v else lookL r s
def loopP : List Lv → UInt8 → List Vs
  | [], _ => []
  | l :: r, k => match lookL l.loops k with
    | some v => v
    | none => loopP r k
/-- A name's value, if there is one; none: it is not known, or too long. -/
def valueF (en : Env) (s : Tx) : Option (Option Tx) := match en with
  | none => none
  | some ch => match findP ch s with
    | none => some none
    | some v => if v.length ≤ 8192 then some (some v) else none
def shortP (c : UInt8) : Tx :=
  if c = 83 then [115, 101, 115, 115, 105, 111, 110, 95, 110, 97, 109, 101]
  else if c = 87 then [119, 105, 110, 100, 111, 119, 95, 110, 97, 109, 101]
  else if c = 73 then [119, 105, 110, 100, 111, 119, 95, 105, 110, 100, 101, 120]
  else if c = 80 then [112, 97, 110, 101, 95, 105, 110, 100, 101, 120]
  else if c = 70 then [119, 105, 110, 100, 111, 119, 95, 102, 108, 97, 103, 115]
  else if c = 84 then [112, 97, 110, 101, 95, 116, 105, 116, 108, 101]
  else if c = 68 then [112, 97, 110, 101, 95, 105, 100]
  else if c = 72 then [104, 111, 115, 116]
  else []
def trueP (s : Tx) : Bool := !(s == []) && !(s == [48])
abbrev Ex := Env → Tx → Nat → Nat → Option (Tx × Nat)
/-- What the first bytes are expanded to, how many these are, the steps. -/
def frontP (X : Ex) (en : Env) (s : Tx) (d st : Nat) : Option (Tx × Nat × Nat) :=
  if Lib.indexByte s 35 < 0 then some (s, s.length, st)
  else if 0 < Lib.indexByte s 35 then some (s.take (Lib.indexByte s 35).toNat, (Lib.indexByte s 35).toNat, st)
  else match s.drop 1 with
    | [] => some ([35], 1, st)
    | e :: r =>
      if marked e = true then some ([e], 2, st)
      else if e = 123 then match outR 125 r 0 0 with
        | none => none
        | some k => match X en (r.take k) d st with
          | none => none
          | some (t, st') => some (t, k + 3, st')
      else if shortP e = [] then some ([35], 1, st)
      else match valueF en (shortP e) with
        | none => none
        | some v => some (v.getD [], 2, st)
def expL (X : Ex) (en : Env) (d : Nat) : Nat → Tx → Nat → Tx → Option (Tx × Nat)
  | _, [], st, acc => some (acc, st)
  | 0, _ :: _, _, _ => none
  | k + 1, c :: s, st, acc => match frontP X en (c :: s) d st with
    | none => none
    | some (t, n, st') => if 8192 < acc.length + t.length then none else expL X en d k ((c :: s).drop n) st' (acc ++ t)
def expandP (X : Ex) : Ex := fun en s d st => expL X en d s.length s st []
def namedP (X : Ex) : Ex := fun en s d st => match valueF en s with
  | none => none
  | some (some v) => some (v, st)
  | some none => if 0 ≤ Lib.indexByte s 35 then expandP X en s d st else some ([], st)
def chooseP (X : Ex) : Ex := fun en s d st =>
  let l := piecesP 2 s ++ [[], []]
  match namedP X en (l.getD 0 []) d st with
  | none => none
  | some (v, st1) => expandP X en (if trueP v = true then l.getD 1 [] else l.getD 2 []) d st1
def bothP (X : Ex) (en : Env) (s : Tx) (d st : Nat) : Option (Tx × Tx × Nat) := match piecesP 1 s with
  | [a, b] => match expandP X en a d st with
    | none => none
    | some (x, s1) => match expandP X en b d s1 with
      | none => none
      | some (y, s2) => some (x, y, s2)
  | _ => none
end Go.Proofs.YtbiinghmopgjnaaGreatDoor.Fmt
