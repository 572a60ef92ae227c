/- Blocks that are known whole; what a call may turn. -/
import Derived.Test.YtkanglfpiahecaaDoorProg
import Derived.WalkKit
import Derived.WalkLawsBesides
import Derived.WalkSpells
import Derived.WalkSmall
import Derived.Lib.Hide
import Derived.Outline
import Derived.Maps.AppendAt
import Derived.Deep.AppendLies
import Derived.Deep.Draws
import Derived.Deep.QuietTactic
import Derived.Deep.MidRow
import Derived.Deep.RegionWith
import Derived.Deep.RegionHeld3
import Derived.Deep.DeepCutAuto
import Derived.Deep.CutRange
import Derived.BigQuiet
import Derived.Laws.CopyRow
import Derived.Laws.MakeOwn
import Derived.Shelf.Abstract
import Derived.Laws.AppendOwnNone
namespace Go.Proofs.YtkanglfpiahecaaDoor.Lyt
open Go.RowKit
/-! ### A block that is known whole -/
def BL (w : World) (b : Nat) (t : TypeId) (xs : List Value) : Prop := w.heap[b]? = some (.cells xs.toArray t (0, 0))
section
variable {w w' : World} {b : Nat} {t : TypeId} {xs : List Value}
theorem BL.lt (h : BL w b t xs) : b < w.heap.size := by
  rcases Nat.lt_or_ge b w.heap.size with hlt | hge
  · exact hlt
  · unfold BL at h; rw [Array.getElem?_eq_none hge] at h; cases h
theorem BL.cell (h : BL w b t xs) (i : Nat) : w.cell? ⟨b, i, none⟩ = xs[i]? := by
  have := cell_of_row w b i xs.toArray t (0, 0) h
  simpa using this
theorem BL.frozen (h : BL w b t xs) (i : Nat) : w.frozen? ⟨b, i, none⟩ = false := by
  unfold BL at h
  simp [World.frozen?, h]
theorem BL.new (w : World) (t : TypeId) (xs : List Value) : BL (w.alloc (.cells xs.toArray t)) w.heap.size t xs := heap_alloc_new w _
theorem BL.keep (h : BL w b t xs) (e : w'.heap[b]? = w.heap[b]?) : BL w' b t xs := e.trans h
theorem BL.alloc (h : BL w b t xs) (o : Obj) : BL (w.alloc o) b t xs := (Below.heap_alloc w o b h.lt).trans h
theorem BL.drew (h : BL w b t xs) : BL w.drew b t xs := h
theorem BL.set_ (h : BL w b t xs) (i : Nat) (u : Value) : BL (w.setCell ⟨b, i, none⟩ u) b t (xs.set i u) := by
  unfold BL at h ⊢
  simp [World.setCell, Array.getElem?_modify, h]
theorem BL.range (h : BL w b t xs) {o : Nat} {vs : List Value} (hv : ∀ j v, vs[j]? = some v → xs[o + j]? = some v) : w.rangeAt b o vs := fun j v hj => by
  rw [h.cell]; exact hv j v hj
theorem BL.there (h : BL w b t xs) {o n : Nat} (hn : o + n ≤ xs.length) : w.there b o n := fun j hj => by
  refine ⟨?_, h.frozen _⟩
  rw [h.cell, List.getElem?_eq_getElem (by omega)]
  rfl
end
/-! ### What a call may turn -/
/-- No block but those of F has turned; none has gone; the streams are as they were. -/
structure Only (F : List Nat) (w w' : World) : Prop where
  os : w'.os = w.os
  tape : w'.tape = w.tape
  output : w'.output = w.output
  size : w.heap.size ≤ w'.heap.size
  block : ∀ k, k < w.heap.size → k ∉ F → w'.heap[k]? = w.heap[k]?
theorem Only.refl (F : List Nat) (w : World) : Only F w w := ⟨rfl, rfl, rfl, Nat.le_refl _, fun _ _ _ => rfl⟩
theorem Only.trans {F : List Nat} {a b c : World} (h : Only F a b) (k : Only F b c) : Only F a c :=
  ⟨k.os.trans h.os, k.tape.trans h.tape, k.output.trans h.output, Nat.le_trans h.size k.size, fun i hi hn => (k.block i (Nat.lt_of_lt_of_le hi h.size) hn).trans (h.block i hi hn)⟩
/-- Behind a call that may turn other blocks, those that were not there yet among them. -/
theorem Only.trans2 {F G : List Nat} {a b c : World} (h : Only F a b) (k : Only G b c) (hG : ∀ x ∈ G, x ∈ F ∨ a.heap.size ≤ x) : Only F a c :=
  ⟨k.os.trans h.os, k.tape.trans h.tape, k.output.trans h.output, Nat.le_trans h.size k.size, fun i hi hn => (k.block i (Nat.lt_of_lt_of_le hi h.size) (fun hg => by rcases hG i hg with x | x; exact hn x; omega)).trans (h.block i hi hn)⟩
theorem Only.mono {F G : List Nat} {a b : World} (h : Only F a b) (hG : ∀ x ∈ F, x ∈ G) : Only G a b := ⟨h.os, h.tape, h.output, h.size, fun k hk hn => h.block k hk (fun x => hn (hG k x))⟩
theorem Only.alloc {F : List Nat} {a w : World} (h : Only F a w) (o : Obj) : Only F a (w.alloc o) :=
  h.trans ⟨rfl, rfl, rfl, by simp, fun k hk _ => Below.heap_alloc _ _ _ hk⟩
theorem Only.drew {F : List Nat} {a w : World} (h : Only F a w) : Only F a w.drew := ⟨h.os, h.tape, h.output, h.size, h.block⟩
theorem Only.setCell {F : List Nat} {a w : World} (h : Only F a w) {p : Addr} (hb : p.block ∈ F ∨ a.heap.size ≤ p.block) (u : Value) : Only F a (w.setCell p u) :=
  ⟨h.os, h.tape, h.output, by simp [World.setCell]; exact h.size, fun k hk hn => by
    rw [Below.heap_setCell w p u k (fun e => by subst e; rcases hb with x | x; exact hn x; omega)]; exact h.block k hk hn⟩
/-- A call that only makes new blocks. -/
theorem Only.of_below {F : List Nat} {a b : World} (h : Below a.heap.size a b) : Only F a b := ⟨h.os, h.tape, h.output, h.size, fun k hk _ => h.block k hk⟩
theorem Only.below {F : List Nat} {B : Nat} {a b : World} (h : Only F a b) (hB : B ≤ a.heap.size) (hF : ∀ x ∈ F, B ≤ x) : Below B a b := ⟨h.os, h.tape, h.output, h.size, fun k hk => h.block k (by omega) (fun x => by have := hF k x; omega)⟩
theorem Only.nil_below {a b : World} (h : Only [] a b) : Below a.heap.size a b := h.below (Nat.le_refl _) (fun _ h => by cases h)
theorem BL.only {w w' : World} {b : Nat} {t : TypeId} {xs : List Value} {F : List Nat} (h : BL w b t xs) (ho : Only F w w') (hb : b ∉ F) : BL w' b t xs := h.keep (ho.block b h.lt hb)

/-! ### Rows of cells -/
abbrev slV (b o n c : Nat) : Value := .slice (some ⟨b, o, none⟩) n c
end Go.Proofs.YtkanglfpiahecaaDoor.Lyt
/- Blanks, paddings; a part of a row made blank. -/
namespace Go.Proofs.YtkanglfpiahecaaDoor.Lyt
open Go.RowKit
theorem size_alloc (w : World) (o : Obj) : (w.alloc o).heap.size = w.heap.size + 1 := by simp
/-- A result that lies in memory. -/
theorem results_cell {P : Program} {fn : Func} {p : Tmp} {ty : TypeId} (h : fn.results = #[.cell p ty]) (tmps : Array Value) (w : World) (g : Nat) (t : TypeId) (cs : Array Value) (fr : Nat × Nat) (d : TypeDesc)
    (hp : tmps.getD p undef = .pointer (some ⟨g, 0, none⟩)) (hg : w.heap[g]? = some (.cells cs t fr))
    (hu : P.underlying ty = some d) (hd : (match d with | .struct _ | .array _ _ => true | _ => false) = true) (hi : (P.info? ty).map (·.size) = some cs.size) :
    (results fn tmps).run P w = .ok (.agg cs) w := by
  have hp' : tmps[p]?.getD undef = .pointer (some ⟨g, 0, none⟩) := by simpa using hp
  simp [results, h, hp', asAddr, run_loadVar_row w g t ty cs fr d hg hu hd hi]
theorem results_none {P : Program} {fn : Func} (h : fn.results = #[]) (tmps : Array Value) (w : World) : (results fn tmps).run P w = .ok (.tuple #[]) w := by
  simp [results, h]
/-- A function without results that comes to its end. -/
theorem body_end {P : Program} {fn : Func} {R : Ending → World → Prop} {a : Act} {w : World} (h : fn.results = #[]) (hd : a.defers = []) (hR : R (.returned (.tuple #[])) w) : bodyPost P fn R .normal a w :=
  ⟨hd, _, results_none h _ _, hR⟩

end Go.Proofs.YtkanglfpiahecaaDoor.Lyt
/- A cut at a column of a row. -/
namespace Go.Proofs.YtkanglfpiahecaaDoor.Lyt
open Go.RowKit
end Go.Proofs.YtkanglfpiahecaaDoor.Lyt
namespace Go.Proofs.YtkanglfpiahecaaDoor.Lyt
open Go.RowKit
end Go.Proofs.YtkanglfpiahecaaDoor.Lyt
/- Rows of a table made blank. -/
namespace Go.Proofs.YtkanglfpiahecaaDoor.Lyt
open Go.RowKit
end Go.Proofs.YtkanglfpiahecaaDoor.Lyt
/- So many rows: those that there are, blank ones behind. -/
namespace Go.Proofs.YtkanglfpiahecaaDoor.Lyt
open Go.RowKit
end Go.Proofs.YtkanglfpiahecaaDoor.Lyt
/- Trees of panes: plain words, and how they lie in memory. -/
namespace Go.Proofs.YtkanglfpiahecaaDoor.Lyt
open Go.RowKit

/-- Trees beside one another: none; a leaf (its block, its pane, its size) ahead of others; a split (its block, the block and the room of its row of kids, its way, the kids) ahead of others. -/
inductive F
  | nil : F
  | leaf (b : Nat) (p s0 s1 : Int) (r : F) : F
  | node (b kb cap : Nat) (al : Int) (ks r : F) : F
namespace F
def len : F → Nat
  | nil => 0
  | leaf _ _ _ _ r => r.len + 1
  | node _ _ _ _ _ r => r.len + 1
/-- The pointers to them. -/
def ptrs : F → List Value
  | nil => []
  | leaf b _ _ _ r => .pointer (some ⟨b, 0, none⟩) :: r.ptrs
  | node b _ _ _ _ r => .pointer (some ⟨b, 0, none⟩) :: r.ptrs
/-- Their blocks. -/
def blks : F → List Nat
  | nil => []
  | leaf b _ _ _ r => b :: r.blks
  | node b kb _ _ ks r => b :: kb :: (ks.blks ++ r.blks)
/-- How many leaves. -/
def cnt : F → Nat
  | nil => 0
  | leaf _ _ _ _ r => r.cnt + 1
  | node _ _ _ _ ks r => ks.cnt + r.cnt
def all (P : Int → Int → Int → Prop) : F → Prop
  | nil => True
  | leaf _ p s0 s1 r => P p s0 s1 ∧ r.all P
  | node _ _ _ _ ks r => ks.all P ∧ r.all P
/-- Each split has a kid. -/
def has1 : F → Prop
  | nil => True
  | leaf _ _ _ _ r => r.has1
  | node _ _ _ _ ks r => 1 ≤ ks.len ∧ ks.has1 ∧ r.has1
theorem ptrs_len : ∀ f : F, f.ptrs.length = f.len
  | nil => rfl
  | leaf _ _ _ _ r => by simp [ptrs, len, ptrs_len r]
  | node _ _ _ _ _ r => by simp [ptrs, len, ptrs_len r]
theorem len_cnt : ∀ f : F, f.has1 → f.len ≤ f.cnt
  | nil, _ => Nat.le_refl _
  | leaf _ _ _ _ r, h => by have := len_cnt r h; simp [len, cnt]; omega
  | node _ _ _ _ ks r, h => by
    have h1 := len_cnt ks h.2.1
    have h2 := len_cnt r h.2.2
    have := h.1
    simp [len, cnt]; omega
end F
/-- The five cells of a leaf, of a split. -/
def leafC (p s0 s1 : Int) : List Value := [.int .i64 p, .int .i64 s0, .int .i64 s1, .int .i64 0, .slice none 0 0]
def nodeC (kb n cap : Nat) (al : Int) : List Value := [.int .i64 0, .int .i64 0, .int .i64 0, .int .i64 al, .slice (some ⟨kb, 0, none⟩) n cap]
/-- A block known whole, whatever its type. -/
def BN (w : World) (b : Nat) (xs : List Value) : Prop := ∃ t, BL w b t xs
/-- A row of pointers, with room behind them. -/
def RowAt (w : World) (kb cap : Nat) (ps : List Value) : Prop := ps.length ≤ cap ∧ ∃ tail, tail.length = cap - ps.length ∧ BL w kb 63 (ps ++ tail)
section
variable {w w' : World} {b : Nat} {xs : List Value} {kb cap : Nat} {ps : List Value} {G : List Nat}
theorem BN.lt (h : BN w b xs) : b < w.heap.size := by obtain ⟨t, h⟩ := h; exact h.lt
theorem BN.cell (h : BN w b xs) (i : Nat) : w.cell? ⟨b, i, none⟩ = xs[i]? := by obtain ⟨t, h⟩ := h; exact h.cell i
theorem BN.frozen (h : BN w b xs) (i : Nat) : w.frozen? ⟨b, i, none⟩ = false := by obtain ⟨t, h⟩ := h; exact h.frozen i
theorem BN.set_ (h : BN w b xs) (i : Nat) (u : Value) : BN (w.setCell ⟨b, i, none⟩ u) b (xs.set i u) := by obtain ⟨t, h⟩ := h; exact ⟨t, h.set_ i u⟩
theorem BN.only (h : BN w b xs) (ho : Only G w w') (hb : b ∉ G) : BN w' b xs := by obtain ⟨t, h⟩ := h; exact ⟨t, h.only ho hb⟩
theorem RowAt.lt (h : RowAt w kb cap ps) : kb < w.heap.size := by obtain ⟨_, t, _, h⟩ := h; exact h.lt
theorem RowAt.only (h : RowAt w kb cap ps) (ho : Only G w w') (hb : kb ∉ G) : RowAt w' kb cap ps := by obtain ⟨h0, t, h1, h2⟩ := h; exact ⟨h0, t, h1, h2.only ho hb⟩
theorem RowAt.cell (h : RowAt w kb cap ps) {i : Nat} (hi : i < ps.length) : w.cell? ⟨kb, i, none⟩ = ps[i]? := by
  obtain ⟨h0, t, h1, h2⟩ := h
  rw [h2.cell, List.getElem?_append_left hi]
end
/-- How they lie. -/
def F.In (w : World) : F → Prop
  | .nil => True
  | .leaf b p s0 s1 r => BN w b (leafC p s0 s1) ∧ r.In w
  | .node b kb cap al ks r => BN w b (nodeC kb ks.len cap al) ∧ RowAt w kb cap ks.ptrs ∧ ks.In w ∧ r.In w
theorem F.In.only {w w' : World} {G : List Nat} : ∀ {f : F}, f.In w → Only G w w' → (∀ x ∈ f.blks, x ∉ G) → f.In w'
  | .nil, _, _, _ => trivial
  | .leaf b _ _ _ r, h, ho, hG => ⟨h.1.only ho (hG b (by simp [F.blks])), h.2.only ho fun x hx => hG x (by simp [F.blks, hx])⟩
  | .node b kb _ _ ks r, h, ho, hG => ⟨h.1.only ho (hG b (by simp [F.blks])), h.2.1.only ho (hG kb (by simp [F.blks])), h.2.2.1.only ho fun x hx => hG x (by simp [F.blks, hx]), h.2.2.2.only ho fun x hx => hG x (by simp [F.blks, hx])⟩
theorem F.In.lt {w : World} : ∀ {f : F}, f.In w → ∀ x ∈ f.blks, x < w.heap.size
  | .nil, _, x, hx => by simp [F.blks] at hx
  | .leaf b _ _ _ r, h, x, hx => by
    rcases List.mem_cons.1 hx with rfl | hx
    · exact h.1.lt
    · exact h.2.lt x hx
  | .node b kb _ _ ks r, h, x, hx => by
    rcases List.mem_cons.1 hx with rfl | hx
    · exact h.1.lt
    rcases List.mem_cons.1 hx with rfl | hx
    · exact h.2.1.lt
    rcases List.mem_append.1 hx with hx | hx
    · exact h.2.2.1.lt x hx
    · exact h.2.2.2.lt x hx
theorem F.In.below {w w' : World} {f : F} (h : f.In w) (hb : Below w.heap.size w w') : f.In w' := h.only (G := []) (Only.of_below hb) fun _ _ hx => by cases hx
end Go.Proofs.YtkanglfpiahecaaDoor.Lyt
/- The kids of a node, one behind the other. -/
namespace Go.Proofs.YtkanglfpiahecaaDoor.Lyt
open Go.RowKit

set_option maxRecDepth 100000 in
set_option maxHeartbeats 1000000 in
theorem each_at (b kb n cap : Nat) (A : Option Addr) (k : Nat) (caps : Array Value) (p : Nat → Value) (I : Nat → World → Prop) (w : World)
    (hent : ∀ (args : Array Value) (W : World), (callFunc k args).run Tryd.prog W = .ok (.enter k args) W)
    (h4 : w.cell? ⟨b, 4, none⟩ = some (.slice A n cap)) (hA : 0 < n → A = some ⟨kb, 0, none⟩)
    (hcell : ∀ i W, i < n → I i W → W.cell? ⟨kb, i, none⟩ = some (p i))
    (hstep : ∀ i W, i < n → I i W → Calls Tryd.prog k (#[p i] ++ caps) W fun e W' => e = .returned (.tuple #[]) ∧ I (i + 1) W')
    (h0 : I 0 w) (hn : n ≤ 2000000000) :
    Calls Tryd.prog 50 #[.pointer (some ⟨b, 0, none⟩), .func (.func k) #[] caps] w fun e w' => e = .returned (.tuple #[]) ∧ I n w' := by
  have HC := Lib.hid hcell
  have HS := Lib.hid hstep
  have H0 := Lib.hid h0
  clear hcell hstep h0
  go_enter Tryd.func50, Tryd.ntmps50
  go_wp2_with fail
  go_loopw [11] (fun i wr => ∃ j : Nat, j ≤ n ∧ i = .int .i64 (j : Int) ∧ I j wr) (fun i _ => n - (intOf i).toNat)
  case atStart => exact ⟨0, Nat.zero_le _, rfl, H0.out⟩
  case round =>
    obtain ⟨j, hj, rfl, hI⟩ := hrel
    have j0 : (0 : Int) ≤ (j : Int) := Int.natCast_nonneg _
    by_cases hlt : j < n
    · obtain rfl := hA (by omega)
      have j1 : (j : Int) < (n : Int) := by omega
      have c0 := HC.out j wr hlt hI
      have hs := HS.out j wr hlt hI
      have HSS := Lib.hid hs
      clear hs
      go_wp2_with fail
      refine HSS.out.mono ?_
      rintro _ w2 ⟨rfl, h2⟩
      have H2 := Lib.hid h2
      clear h2
      go_wp2_with fail
      go_roundw
      case rel => exact ⟨j + 1, by omega, by go_num, H2.out⟩
      case measure => simp [intOf]; omega
    · obtain rfl : j = n := by omega
      go_wp2_with fail
      exact body_end rfl rfl ⟨rfl, hI⟩
end Go.Proofs.YtkanglfpiahecaaDoor.Lyt
/- What leaves come to in a node. -/
namespace Go.Proofs.YtkanglfpiahecaaDoor.Lyt
open Go.RowKit

def maxL (l : List Int) : Int := l.foldl max 0
/-- What leaves come to in each of some trees. -/
def F.vals (a : Int) (g : Int → Int → Int → Int) : F → List Int
  | .nil => []
  | .leaf _ p s0 s1 r => g p s0 s1 :: r.vals a g
  | .node _ _ _ al ks r => (if al = a then (ks.vals a g).sum + ((ks.len : Int) - 1) else maxL (ks.vals a g)) :: r.vals a g
theorem F.vals_len (a : Int) (g : Int → Int → Int → Int) : ∀ f : F, (f.vals a g).length = f.len
  | .nil => rfl
  | .leaf _ _ _ _ r => by simp [F.vals, F.len, F.vals_len a g r]
  | .node _ _ _ _ _ r => by simp [F.vals, F.len, F.vals_len a g r]
theorem maxL_app (l : List Int) (x : Int) : maxL (l ++ [x]) = max (maxL l) x := by simp [maxL, List.foldl_append]
theorem foldl_max (l : List Int) : ∀ m : Int, 0 ≤ m → (∀ x ∈ l, 0 ≤ x) → m ≤ l.foldl max m ∧ l.foldl max m ≤ m + l.sum := by
  induction l with
  | nil => intro m _ _; simp
  | cons x l ih =>
    intro m hm h
    have hx := h x (by simp)
    obtain ⟨h1, h2⟩ := ih (max m x) (by omega) fun y hy => h y (by simp [hy])
    rw [List.foldl_cons, List.sum_cons]
    omega
theorem maxL_in {l : List Int} (h : ∀ x ∈ l, 0 ≤ x) : 0 ≤ maxL l ∧ maxL l ≤ l.sum := by
  have := foldl_max l 0 (Int.le_refl _) h
  unfold maxL
  omega
theorem sum_nn {l : List Int} (h : ∀ x ∈ l, 0 ≤ x) : 0 ≤ l.sum := by
  have := maxL_in h
  omega
theorem sum_take {l : List Int} (h : ∀ x ∈ l, 0 ≤ x) (k : Nat) : 0 ≤ (l.take k).sum ∧ (l.take k).sum ≤ l.sum := by
  have e : l.sum = (l.take k).sum + (l.drop k).sum := by rw [← List.sum_append, List.take_append_drop]
  have h1 := sum_nn (l := l.take k) fun x hx => h x (List.mem_of_mem_take hx)
  have h2 := sum_nn (l := l.drop k) fun x hx => h x (List.mem_of_mem_drop hx)
  omega
/-- They stay small. -/
theorem F.vals_in (a : Int) (g : Int → Int → Int → Int) : ∀ f : F, f.has1 → f.all (fun p s0 s1 => 0 ≤ g p s0 s1 ∧ g p s0 s1 ≤ 10000) → (∀ x ∈ f.vals a g, 0 ≤ x) ∧ (f.vals a g).sum + (f.len : Int) ≤ 20000 * (f.cnt : Int)
  | .nil, _, _ => by simp [F.vals, F.len, F.cnt]
  | .leaf _ p s0 s1 r, h, ha => by
    obtain ⟨h1, h2⟩ := F.vals_in a g r h ha.2
    refine ⟨fun x hx => ?_, ?_⟩
    · rcases List.mem_cons.1 hx with rfl | hx
      · exact ha.1.1
      · exact h1 x hx
    · simp only [F.vals, F.len, F.cnt, List.sum_cons]
      have := ha.1.2
      push_cast
      omega
  | .node _ _ _ al ks r, h, ha => by
    obtain ⟨h1, h2⟩ := F.vals_in a g r h.2.2 ha.2
    obtain ⟨h3, h4⟩ := F.vals_in a g ks h.2.1 ha.1
    have hl := h.1
    have hm := maxL_in h3
    have hs := sum_nn h3
    refine ⟨fun x hx => ?_, ?_⟩
    · rcases List.mem_cons.1 hx with rfl | hx
      · split <;> omega
      · exact h1 x hx
    · simp only [F.vals, F.len, F.cnt, List.sum_cons]
      push_cast
      split <;> omega

set_option maxRecDepth 100000 in
theorem isLeaf_at (b n c : Nat) (A : Option Addr) (w : World) (h4 : w.cell? ⟨b, 4, none⟩ = some (.slice A n c)) :
    Calls Tryd.prog 42 #[.pointer (some ⟨b, 0, none⟩)] w fun e w' => e = .returned (.bool (decide (n = 0))) ∧ w = w' := by
  go_enter Tryd.func42, Tryd.ntmps42
  go_wp2_with fail
  go_ret
  refine ⟨?_, rfl⟩
  by_cases h : n = 0
  · subst h; rfl
  · have : ¬ (n : Int) = 0 := by omega
    simp [h]
section
variable {v ov : Value} {n0 : Nat} {a z S M : Int} {W : World}
set_option maxRecDepth 100000 in
set_option maxHeartbeats 1000000 in
theorem tog1_at (h0 : BL W n0 50 [.int .i64 a]) (h1 : BL W (n0 + 1) 95 [ov]) (h2 : BL W (n0 + 2) 3 [.int .i64 S]) (h3 : BL W (n0 + 3) 3 [.int .i64 M])
    (hk : Calls Tryd.prog 64 #[v, .int .i64 a, ov] W fun e W' => e = .returned (.int .i64 z) ∧ Below W.heap.size W W') (hS0 : 0 ≤ S + z) (hS1 : S + z ≤ 9223372036854775807) :
    Calls Tryd.prog 73 #[v, .pointer (some ⟨n0, 0, none⟩), .pointer (some ⟨n0 + 1, 0, none⟩), .pointer (some ⟨n0 + 2, 0, none⟩), .pointer (some ⟨n0 + 3, 0, none⟩)] W fun e W' => e = .returned (.tuple #[]) ∧
      BL W' (n0 + 2) 3 [.int .i64 (S + z)] ∧ BL W' (n0 + 3) 3 [.int .i64 (max M z)] ∧ Only [n0 + 2, n0 + 3] W W' := by
  have c0 := h0.cell 0
  have c1 := h1.cell 0
  have HK := Lib.hid hk
  have H2 := Lib.hid h2
  have H3 := Lib.hid h3
  clear h0 h1 h2 h3 hk
  go_enter Tryd.func73, Tryd.ntmps73
  go_wp2_with fail
  refine HK.out.mono ?_
  rintro _ w1 ⟨rfl, hb1⟩
  have j1 : IntKind.i64.wrap (S + z) = S + z := IntWalk.i64_in _ ⟨by omega, by omega⟩
  have o1 : Only [n0 + 2, n0 + 3] W w1 := Only.of_below hb1
  have h2 := H2.out.only (F := []) (Only.of_below hb1) (by simp)
  have h3 := H3.out.only (F := []) (Only.of_below hb1) (by simp)
  have s2 := h2.cell 0
  have s2f := h2.frozen 0
  have h2b := h2.set_ 0 (.int .i64 (S + z))
  have o2 := o1.setCell (p := ⟨n0 + 2, 0, none⟩) (.inl (by simp)) (.int .i64 (S + z))
  have h3b : BL (w1.setCell ⟨n0 + 2, 0, none⟩ (.int .i64 (S + z))) (n0 + 3) 3 [.int .i64 M] := h3.only ((Only.refl [n0 + 2] w1).setCell (p := ⟨n0 + 2, 0, none⟩) (.inl (by simp)) _) (by simp)
  have s3 := h3b.cell 0
  have s3f := h3b.frozen 0
  have HH2 := Lib.hid h2b
  have HH3 := Lib.hid h3b
  have HO2 := Lib.hid o2
  clear h2 h3 h2b h3b o2 o1 hb1
  go_wp2_with fail
  all_goals
    refine body_end rfl rfl ⟨rfl, HH2.out.only ((Only.refl [n0 + 3] _).setCell (p := ⟨n0 + 3, 0, none⟩) (.inl (by simp)) _) (by simp), ?_, HO2.out.setCell (p := ⟨n0 + 3, 0, none⟩) (.inl (by simp)) _⟩
    first
      | (rw [show max M z = M by omega]; exact HH3.out.set_ 0 _)
      | (rw [show max M z = z by omega]; exact HH3.out.set_ 0 _)
end
end Go.Proofs.YtkanglfpiahecaaDoor.Lyt
/- Package layout's together, for whatever leaves come to. -/
namespace Go.Proofs.YtkanglfpiahecaaDoor.Lyt
open Go.RowKit

theorem small_le {a : Int} {g : Int → Int → Int → Int} {ks : F} (h1 : ks.has1) (h2 : ks.all (fun p s0 s1 => 0 ≤ g p s0 s1 ∧ g p s0 s1 ≤ 10000)) (h3 : ks.cnt ≤ 100000) :
    (∀ x ∈ ks.vals a g, 0 ≤ x) ∧ (ks.vals a g).sum + (ks.len : Int) ≤ 2000000000 := by
  obtain ⟨h4, h5⟩ := F.vals_in a g ks h1 h2
  exact ⟨h4, by omega⟩
theorem drewN_below {B : Nat} {w w' : World} (h : Below B w w') (n : Nat) : Below B w (w'.drewN n) := ⟨h.os, h.tape, h.output, h.size, h.block⟩
theorem getD_some {l : List Value} {i : Nat} (h : i < l.length) : l[i]? = some (l.getD i undef) := by
  rw [List.getD_eq_getElem?_getD, List.getElem?_eq_getElem h]
  rfl
set_option maxRecDepth 100000 in
set_option maxHeartbeats 4000000 in
theorem together_at {a : Int} {g : Int → Int → Int → Int} {ko : Nat} {oc : Array Value} {w0 : World} (hent : ∀ (args : Array Value) (W : World), (callFunc ko args).run Tryd.prog W = .ok (.enter ko args) W)
    (hof : ∀ W b p s0 s1, Below w0.heap.size w0 W → BN W b (leafC p s0 s1) → Calls Tryd.prog ko (#[.pointer (some ⟨b, 0, none⟩)] ++ oc) W fun e W' => e = .returned (.int .i64 (g p s0 s1)) ∧ Below W.heap.size W W') (f : F) :
    f.has1 → f.all (fun p s0 s1 => 0 ≤ g p s0 s1 ∧ g p s0 s1 ≤ 10000) → f.cnt ≤ 100000 → ∀ w, Below w0.heap.size w0 w → f.In w → ∀ (i : Nat) v z, f.ptrs[i]? = some v → (f.vals a g)[i]? = some z →
    Calls Tryd.prog 64 #[v, .int .i64 a, .func (.func ko) #[] oc] w fun e w' => e = .returned (.int .i64 z) ∧ Below w.heap.size w w' := by
  induction f with
  | nil => intro _ _ _ w _ _ i v z hv; simp [F.ptrs] at hv
  | leaf b p s0 s1 r ih =>
    intro h1 h2 h3 w hw hin i v z hv hz
    cases i with
    | succ i => exact ih h1 h2.2 (by simp [F.cnt] at h3; omega) w hw hin.2 i v z hv hz
    | zero =>
      obtain rfl : Value.pointer (some ⟨b, 0, none⟩) = v := by simpa [F.ptrs] using hv
      obtain rfl : g p s0 s1 = z := by simpa [F.vals] using hz
      have hb0 : Below w.heap.size w ((w.alloc (.cells #[.int .i64 a] 50)).alloc (.cells #[.func (.func ko) #[] oc] 95)) := ((Below.refl _ _).alloc (Nat.le_refl _) _).alloc (by simp) _
      have hB := BL.new (w.alloc (.cells #[.int .i64 a] 50)) 95 [.func (.func ko) #[] oc]
      rw [size_alloc] at hB
      have hN := hin.1.only (Only.of_below (F := []) hb0) (by simp)
      have c4 := hN.cell 4
      have c0 := hB.cell 0
      have hg := hof _ b p s0 s1 (hw.trans (hb0.mono hw.size)) hN
      have HG := Lib.hid hg
      have HB0 := Lib.hid hb0
      clear hof ih hin hN hB hg hv hz
      go_enter Tryd.func64, Tryd.ntmps64
      go_wp2_with fail
      refine (isLeaf_at b 0 0 none _ c4).mono ?_
      rintro _ w1 ⟨rfl, rfl⟩
      go_wp2_with fail
      refine HG.out.mono ?_
      rintro _ w2 ⟨rfl, hb2⟩
      go_wp2_with fail
      go_ret
      exact ⟨rfl, HB0.out.trans (hb2.mono HB0.out.size)⟩
  | node b kb cap al ks r ihk ihr =>
    intro h1 h2 h3 w hw hin i v z hv hz
    cases i with
    | succ i => exact ihr h1.2.2 h2.2 (by simp [F.cnt] at h3; omega) w hw hin.2.2.2 i v z hv hz
    | zero =>
      obtain rfl : Value.pointer (some ⟨b, 0, none⟩) = v := by simpa [F.ptrs] using hv
      have hc : ks.cnt ≤ 100000 := by simp [F.cnt] at h3; omega
      obtain ⟨hnn, hsm⟩ := small_le (a := a) h1.2.1 h2.1 hc
      have hlen := F.vals_len a g ks
      have hpl := F.ptrs_len ks
      have hk1 := h1.1
      have hz2 : (if al = a then (ks.vals a g).sum + ((ks.len : Int) - 1) else maxL (ks.vals a g)) = z := by simpa [F.vals] using hz
      have hmx := maxL_in hnn
      have hs0 := sum_nn hnn
      have hkid := fun W hW hinW i v z => ihk h1.2.1 h2.1 hc W hW hinW i v z
      generalize hvs : ks.vals a g = vs at *
      generalize hn : ks.len = n at *
      have hb0 : Below w.heap.size w ((w.alloc (.cells #[.int .i64 a] 50)).alloc (.cells #[.func (.func ko) #[] oc] 95)) := ((Below.refl _ _).alloc (Nat.le_refl _) _).alloc (by simp) _
      have hA := (BL.new w 50 [.int .i64 a]).alloc (.cells #[.func (.func ko) #[] oc] 95)
      have hB := BL.new (w.alloc (.cells #[.int .i64 a] 50)) 95 [.func (.func ko) #[] oc]
      rw [size_alloc] at hB
      have hz0 : ((w.alloc (.cells #[.int .i64 a] 50)).alloc (.cells #[.func (.func ko) #[] oc] 95)).heap.size = w.heap.size + 2 := by simp
      have hN := hin.1.only (Only.of_below (F := []) hb0) (by simp)
      have hR := hin.2.1.only (Only.of_below (F := []) hb0) (by simp)
      have hK := hin.2.2.1.below hb0
      have c4 := hN.cell 4
      have j1 : IntKind.i64.wrap ((n : Int) - 1) = (n : Int) - 1 := IntWalk.i64_in _ ⟨by omega, by omega⟩
      have hnf : decide (n = 0) = false := decide_eq_false (by omega)
      have hmf : ∀ (fn : Fn) (first cp : Array Value) (w : World), (Instr.makeFunc fn first cp).run Tryd.prog w = .ok (.func fn first cp) w := fun _ _ _ _ => rfl
      have HIN := Lib.hid hin
      have HKID := Lib.hid hkid
      have HW := Lib.hid hw
      have HH := Lib.hid (And.intro hmx hz2)
      have HNN := Lib.hid hnn
      clear hof ihk ihr hin hkid hw hv hz hvs hz2 hmx h1 h2 h3 hc hent hnn
      go_enter Tryd.func64, Tryd.ntmps64
      go_upto_region 1 with fail
      generalize (w.alloc (.cells #[.int .i64 a] 50)).alloc (.cells #[.func (.func ko) #[] oc] 95) = W at *
      have il := isLeaf_at b n cap (some ⟨kb, 0, none⟩) W (by rw [c4]; unfold nodeC; rw [hn]; rfl)
      rw [hnf] at il
      have c4b : W.cell? ⟨b, 4, none⟩ = some (.slice (some ⟨kb, 0, none⟩) n cap) := by rw [c4]; unfold nodeC; rw [hn]; rfl
      clear c4
      go_wp2_with fail
      refine il.mono ?_
      rintro _ w1 ⟨rfl, rfl⟩
      go_upto_region 4 with fail
      have hbX : Below w.heap.size w ((W.alloc (.cells #[.int .i64 ((n : Int) - 1)] 3)).alloc (.cells #[.int .i64 0] 3)) := (hb0.alloc (by omega) _).alloc (by simp; omega) _
      have hA2 := (hA.alloc (.cells #[.int .i64 ((n : Int) - 1)] 3)).alloc (.cells #[.int .i64 0] 3)
      have hB2 := (hB.alloc (.cells #[.int .i64 ((n : Int) - 1)] 3)).alloc (.cells #[.int .i64 0] 3)
      have hS2 := (BL.new W 3 [.int .i64 ((n : Int) - 1)]).alloc (.cells #[.int .i64 0] 3)
      have hM2 := BL.new (W.alloc (.cells #[.int .i64 ((n : Int) - 1)] 3)) 3 [.int .i64 0]
      rw [size_alloc, hz0] at hM2
      rw [hz0] at hS2
      have e21 : w.heap.size + 2 + 1 = w.heap.size + 3 := rfl
      rw [e21] at hM2 ⊢
      generalize ((W.alloc (.cells #[.int .i64 ((n : Int) - 1)] 3)).alloc (.cells #[.int .i64 0] 3)) = X at *
      have hcX : X.cell? ⟨b, 4, none⟩ = some (.slice (some ⟨kb, 0, none⟩) n cap) := by
        rw [(HIN.out.1.only (Only.of_below (F := []) hbX) (by simp)).cell 4]; unfold nodeC; rw [hn]; rfl
      have hsz : w.heap.size + 4 ≤ X.heap.size := by have := hM2.lt; omega
      have ke := each_at b kb n cap (some ⟨kb, 0, none⟩) 73 #[.pointer (some ⟨w.heap.size, 0, none⟩), .pointer (some ⟨w.heap.size + 1, 0, none⟩), .pointer (some ⟨w.heap.size + 2, 0, none⟩), .pointer (some ⟨w.heap.size + 3, 0, none⟩)] (fun i => ks.ptrs.getD i undef)
        (fun i V => BL V w.heap.size 50 [.int .i64 a] ∧ BL V (w.heap.size + 1) 95 [.func (.func ko) #[] oc] ∧ BL V (w.heap.size + 2) 3 [.int .i64 ((n : Int) - 1 + (vs.take i).sum)] ∧ BL V (w.heap.size + 3) 3 [.int .i64 (maxL (vs.take i))] ∧ Below w.heap.size w V) X
        (enters_of Tryd.func73 (by kernel_rfl) rfl) hcX (fun _ => rfl)
        (fun i V hi hV => by
          have hr := (HIN.out.2.1.only (Only.of_below (F := []) hV.2.2.2.2) (by simp)).cell (i := i) (by omega)
          exact hr.trans (getD_some (by omega)))
        (fun i V hi hV => by
          obtain ⟨q0, q1, q2, q3, q4⟩ := hV
          have hiv : i < vs.length := by omega
          have hzi : 0 ≤ vs[i] := HNN.out _ (List.getElem_mem hiv)
          have htk : vs.take (i + 1) = vs.take i ++ [vs[i]] := List.take_succ_eq_append_getElem hiv
          have hs1 := sum_take HNN.out i
          have hs2 := sum_take HNN.out (i + 1)
          have hsum : (vs.take (i + 1)).sum = (vs.take i).sum + vs[i] := by rw [htk, List.sum_append, List.sum_cons, List.sum_nil, Int.add_zero]
          have hk := HKID.out V (HW.out.trans (q4.mono HW.out.size)) (HIN.out.2.2.1.below q4) i (ks.ptrs.getD i undef) vs[i] (getD_some (by omega)) (List.getElem?_eq_getElem hiv)
          have k1 := tog1_at (z := vs[i]) q0 q1 q2 q3 hk (by omega) (by omega)
          refine k1.mono ?_
          rintro e V' ⟨rfl, r2, r3, ro⟩
          refine ⟨rfl, q0.only ro (by simp), q1.only ro (by simp), ?_, ?_, ?_⟩
          · rw [hsum, ← Int.add_assoc]; exact r2
          · rw [htk, maxL_app]; exact r3
          · exact q4.trans (ro.below (B := w.heap.size) (by have := q3.lt; omega) (by simp)))
        ⟨hA2, hB2, by simpa using hS2, hM2, hbX⟩ (by omega)
      have KE := Lib.hid ke
      have HBN := Lib.hid HIN.out.1
      clear ke hA2 hB2 hS2 hM2 hA hB hN hR hK il c4b hcX
      go_wp2_with fail
      refine KE.out.mono ?_
      rintro _ w2 ⟨rfl, q0, q1, q2, q3, q4⟩
      rw [← hlen, List.take_length] at q2 q3
      have c3 : w2.cell? ⟨b, 3, none⟩ = some (.int .i64 al) := (HBN.out.only (Only.of_below (F := []) q4) (by simp)).cell 3
      have d0 := q0.cell 0
      have d2 := q2.cell 0
      have d3 := q3.cell 0
      have H4 := Lib.hid q4
      clear q0 q1 q2 q3 q4 KE HBN HIN HKID
      by_cases hal : al = a
      · have hz3 := HH.out.2
        rw [if_pos hal] at hz3
        subst hal
        go_wp2_with fail
        go_quiet (fail)
        go_wp2_with fail
        go_ret
        refine ⟨?_, drewN_below H4.out _⟩
        rw [← hz3, Int.add_comm vs.sum]
        rfl
      · have hz3 := HH.out.2
        rw [if_neg hal] at hz3
        go_wp2_with fail
        go_quiet (fail)
        go_wp2_with fail
        go_ret
        refine ⟨?_, drewN_below H4.out _⟩
        rw [← hz3]
        rfl
end Go.Proofs.YtkanglfpiahecaaDoor.Lyt
/- How many columns or rows a node has, and how many it needs. -/
namespace Go.Proofs.YtkanglfpiahecaaDoor.Lyt
open Go.RowKit

/-- A leaf's size along a way. -/
def szA (a : Int) (_p s0 s1 : Int) : Int := if a = 0 then s0 else s1
def one3 (_p _s0 _s1 : Int) : Int := 1
theorem hmf (fn : Fn) (first cp : Array Value) (w : World) : (Instr.makeFunc fn first cp).run Tryd.prog w = .ok (.func fn first cp) w := rfl
/-- Sizes that may be. -/
def F.sized (f : F) : Prop := f.all fun _ s0 s1 => 0 ≤ s0 ∧ s0 ≤ 10000 ∧ 0 ≤ s1 ∧ s1 ≤ 10000
theorem F.all_mono {P Q : Int → Int → Int → Prop} (h : ∀ p s0 s1, P p s0 s1 → Q p s0 s1) : ∀ {f : F}, f.all P → f.all Q
  | .nil, _ => trivial
  | .leaf _ _ _ _ _, k => ⟨h _ _ _ k.1, F.all_mono h k.2⟩
  | .node _ _ _ _ _ _, k => ⟨F.all_mono h k.1, F.all_mono h k.2⟩
set_option maxRecDepth 100000 in
theorem has1_at {a : Int} (ha : a = 0 ∨ a = 1) (n0 b : Nat) (p s0 s1 : Int) (W : World) (h0 : BL W n0 50 [.int .i64 a]) (h : BN W b (leafC p s0 s1)) :
    Calls Tryd.prog 65 #[.pointer (some ⟨b, 0, none⟩), .pointer (some ⟨n0, 0, none⟩)] W fun e W' => e = .returned (.int .i64 (szA a p s0 s1)) ∧ Below W.heap.size W W' := by
  have c0 := h0.cell 0
  have e1 : W.cell? ⟨b, 1, none⟩ = some (.int .i64 s0) := h.cell 1
  have e2 : W.cell? ⟨b, 2, none⟩ = some (.int .i64 s1) := h.cell 2
  rcases ha with rfl | rfl
  · go_enter Tryd.func65, Tryd.ntmps65
    go_wp2_with fail
    go_quiet (fail)
    go_wp2_with fail
    go_ret
    exact ⟨rfl, drewN_below (Below.refl _ _) _⟩
  · go_enter Tryd.func65, Tryd.ntmps65
    go_wp2_with fail
    go_quiet (fail)
    go_wp2_with fail
    go_ret
    exact ⟨rfl, drewN_below (Below.refl _ _) _⟩
set_option maxRecDepth 100000 in
theorem least1_at (b : Nat) (W : World) :
    Calls Tryd.prog 71 #[.pointer (some ⟨b, 0, none⟩)] W fun e W' => e = .returned (.int .i64 1) ∧ Below W.heap.size W W' := by
  go_enter Tryd.func71, Tryd.ntmps71
  go_wp2_with fail
  go_ret
  exact ⟨rfl, Below.refl _ _⟩
section
variable {a : Int} {f : F} {w : World} {i : Nat} {v : Value} {z : Int}
set_option maxRecDepth 100000 in
theorem has_at (ha : a = 0 ∨ a = 1) (h1 : f.has1) (h2 : f.sized) (h3 : f.cnt ≤ 100000) (hin : f.In w) (hv : f.ptrs[i]? = some v) (hz : (f.vals a (szA a))[i]? = some z) :
    Calls Tryd.prog 46 #[v, .int .i64 a] w fun e w' => e = .returned (.int .i64 z) ∧ Below w.heap.size w w' := by
  have hb0 : Below w.heap.size w (w.alloc (.cells #[.int .i64 a] 50)) := (Below.refl _ _).alloc (Nat.le_refl _) _
  have hB := BL.new w 50 [.int .i64 a]
  have hc := hB.cell 0
  have kt := together_at (a := a) (g := szA a) (ko := 65) (oc := #[.pointer (some ⟨w.heap.size, 0, none⟩)]) (w0 := w.alloc (.cells #[.int .i64 a] 50)) (enters_of Tryd.func65 (by kernel_rfl) rfl)
    (fun W b p s0 s1 hW hN => has1_at ha w.heap.size b p s0 s1 W (hB.only (Only.of_below (F := []) hW) (by simp)) hN) f h1 (F.all_mono (fun p s0 s1 h => by unfold szA; split <;> omega) h2) h3 _ (Below.refl _ _) (hin.below hb0) i v z hv hz
  have KT := Lib.hid kt
  clear kt h1 h2 h3 hin hv hz hB
  go_enter Tryd.func46, Tryd.ntmps46
  go_wp2_with fail
  refine KT.out.mono ?_
  rintro _ w2 ⟨rfl, hb2⟩
  go_wp2_with fail
  go_ret
  exact ⟨rfl, hb0.trans (hb2.mono hb0.size)⟩
set_option maxRecDepth 100000 in
theorem least_at (h1 : f.has1) (h3 : f.cnt ≤ 100000) (hin : f.In w) (hv : f.ptrs[i]? = some v) (hz : (f.vals a one3)[i]? = some z) :
    Calls Tryd.prog 58 #[v, .int .i64 a] w fun e w' => e = .returned (.int .i64 z) ∧ Below w.heap.size w w' := by
  have hall : ∀ f : F, f.all fun p s0 s1 => 0 ≤ one3 p s0 s1 ∧ one3 p s0 s1 ≤ 10000 := fun f => by
    induction f with
    | nil => trivial
    | leaf b p s0 s1 r ih => exact ⟨by unfold one3; omega, ih⟩
    | node b kb cap al ks r ihk ihr => exact ⟨ihk, ihr⟩
  have kt := together_at (a := a) (g := one3) (ko := 71) (oc := #[]) (w0 := w) (enters_of Tryd.func71 (by kernel_rfl) rfl)
    (fun W b p s0 s1 hW hN => least1_at b W) f h1 (hall f) h3 _ (Below.refl _ _) hin i v z hv hz
  have KT := Lib.hid kt
  clear kt h1 h3 hin hv hz hall
  go_enter Tryd.func58, Tryd.ntmps58
  go_wp2_with fail
  refine KT.out.mono ?_
  rintro _ w2 ⟨rfl, hb2⟩
  go_wp2_with fail
  go_ret
  exact ⟨rfl, hb2⟩
set_option maxRecDepth 100000 in
theorem spare_at {y : Int} (ha : a = 0 ∨ a = 1) (h1 : f.has1) (h2 : f.sized) (h3 : f.cnt ≤ 100000) (hin : f.In w) (hv : f.ptrs[i]? = some v) (hz : (f.vals a (szA a))[i]? = some z) (hy : (f.vals a one3)[i]? = some y) (hb : -1000000000000 ≤ z - y ∧ z - y ≤ 1000000000000) :
    Calls Tryd.prog 40 #[v, .int .i64 a] w fun e w' => e = .returned (.int .i64 (z - y)) ∧ Below w.heap.size w w' := by
  have kh := has_at ha h1 h2 h3 hin hv hz
  have kl := fun W (hW : Below w.heap.size w W) => least_at h1 h3 (hin.below hW) hv hy
  have j1 : IntKind.i64.wrap (z - y) = z - y := IntWalk.i64_in _ ⟨by omega, by omega⟩
  have KH := Lib.hid kh
  have KL := Lib.hid kl
  clear kh kl h1 h2 h3 hin hv hz hy
  go_enter Tryd.func40, Tryd.ntmps40
  go_wp2_with fail
  refine KH.out.mono ?_
  rintro _ w2 ⟨rfl, hb2⟩
  go_wp2_with fail
  refine (KL.out _ hb2).mono ?_
  rintro _ w3 ⟨rfl, hb3⟩
  go_wp2_with fail
  go_ret
  exact ⟨rfl, hb2.trans (hb3.mono hb2.size)⟩
end
end Go.Proofs.YtkanglfpiahecaaDoor.Lyt
/- Rows of the call's own. -/
namespace Go.Proofs.YtkanglfpiahecaaDoor.Lyt
open Go.RowKit

theorem own_only {w w' : World} {B e size n : Nat} {v : Value} {xs : List Value} {G : List Nat} (h : w.ownsRow B e size v n xs) (ho : Only G w w') (hn : ∀ k, v.ownBlock = some k → k ∉ G) : w'.ownsRow B e size v n xs := by
  obtain ⟨h1, h2⟩ := h
  refine ⟨h1, ?_⟩
  rcases h2 with h2 | ⟨g, cap, cur, rfl, hg, h3, h4⟩
  · exact .inl h2
  · have hlt : g < w.heap.size := (Array.getElem?_eq_some_iff.1 h3).1
    exact .inr ⟨g, cap, cur, rfl, hg, (ho.block g hlt (hn g rfl)).trans h3, h4⟩
theorem own_below {w w' : World} {B e size n : Nat} {v : Value} {xs : List Value} (h : w.ownsRow B e size v n xs) (hb : Below w.heap.size w w') : w'.ownsRow B e size v n xs := own_only h (G := []) (Only.of_below hb) (by simp)
theorem own_raise {w : World} {B C e size n : Nat} {v : Value} {xs : List Value} (h : w.ownsRow B e size v n xs) (hC : ∀ k, v.ownBlock = some k → C ≤ k) : w.ownsRow C e size v n xs := by
  obtain ⟨h1, h2⟩ := h
  refine ⟨h1, ?_⟩
  rcases h2 with h2 | ⟨g, cap, cur, rfl, hg, h3⟩
  · exact .inl h2
  · exact .inr ⟨g, cap, cur, rfl, hC g rfl, h3⟩
theorem own_slice {w : World} {base e size n : Nat} {v : Value} {xs : List Value} (h : w.ownsRow base e size v n xs) : ∃ A c, v = .slice A n c := by
  rcases h.2 with ⟨rfl, rfl⟩ | ⟨g, cap, cur, rfl, _⟩ <;> exact ⟨_, _, rfl⟩
theorem own_some {w : World} {base e size n : Nat} {v : Value} {xs : List Value} (h : w.ownsRow base e size v n xs) (hn : 0 < n) : ∃ g c, v = .slice (some ⟨g, 0, none⟩) n c ∧ base ≤ g := by
  rcases h.2 with ⟨_, h0⟩ | ⟨g, cap, cur, rfl, hg, _⟩
  · omega
  · exact ⟨g, cap, rfl, hg⟩
/-- A block of another type than the list's is not the list's. -/
theorem own_type {w : World} {base e size n : Nat} {v : Value} {xs : List Value} (h : w.ownsRow base e size v n xs) {k : Nat} {t : TypeId} {cs : List Value} (hk : BL w k t cs) (hne : t ≠ e) : v.ownBlock ≠ some k := fun hv => by
  rcases h.2 with ⟨rfl, _⟩ | ⟨g, cap, cur, rfl, _, hh, _⟩
  · cases hv
  · have hg : g = k := Option.some.inj hv
    subst hg
    have e1 := Option.some.inj (hh.symm.trans hk)
    injection e1 with _ e2
    exact hne e2.symm
theorem info_ptr : (Tryd.prog.info? 63).map (fun i => (i.zero, i.size, i.bytes)) = some (some (.pointer none), 1, 8) := by kernel_rfl
theorem info_int : (Tryd.prog.info? 3).map (fun i => (i.zero, i.size, i.bytes)) = some (some (.int .i64 0), 1, 8) := by kernel_rfl
theorem info_parts {t : TypeId} {z : Value} {s b : Nat} (h : (Tryd.prog.info? t).map (fun i => (i.zero, i.size, i.bytes)) = some (some z, s, b)) : ∃ i, Tryd.prog.info? t = some i ∧ i.zero = some z ∧ i.size = s ∧ i.bytes = b := by
  cases hq : Tryd.prog.info? t with
  | none => simp [hq] at h
  | some i =>
    simp only [hq, Option.map_some, Option.some.injEq, Prod.mk.injEq] at h
    exact ⟨i, rfl, h.1, h.2.1, h.2.2⟩
section
variable {ops : Array Oper} {rest : List Oper} {op : Oper} {a : Act} {w : World} {Q : Exit → Act → World → Prop}
/-- One pointer appended to a row of the call's own, or to nil. -/
theorem wpList_app_ptr (hgd : op.guard = none) (s x : Operand) (ho : op.op = .call { callee := .builtin .append, args := #[s, x], argTypes := #[51, 51] })
    (base : Nat) (v : Value) (n : Nat) (xs : List Value) (u : Value) (c : Nat) (hs : a.eval s = v) (hown : w.ownsRow base 63 1 v n xs) (hu : u.oneCell' = true) (hx : a.eval x = .slice (some ⟨w.heap.size, 0, none⟩) 1 c) (hbase : base ≤ w.heap.size) (hn : n + 1 ≤ 1000000000)
    (h : ∀ v' w', w'.ownsRow base 63 1 v' (n + 1) (xs ++ [u]) → Below base w w' → w.grownBy w' v.ownBlock → (v'.ownBlock = v.ownBlock ∨ v'.ownBlock = some (w.heap.size + 1)) → v' ≠ .slice none 0 0 → wpList Tryd.prog ops Q rest (a.put op.dst v') w') :
    wpList Tryd.prog ops Q (op :: rest) a (w.alloc (.cells #[u] 63)) := by
  obtain ⟨i0, hi0, hz0, hz1, hz2⟩ := info_parts info_ptr
  have hal := hown.alloc (.cells #[u] 63)
  refine wpList_append_own_at _ hgd s x 51 ho base 63 i0 (.pointer none) 1 8 Tryd.underlying51 hi0 hz0 hz1 hz2 rfl (by decide) v n xs hs hal ⟨w.heap.size, 0, none⟩ 1 c [u] hx rfl (cell_one_new _ _ _)
    (by intro q hq; simp at hq; subst hq; exact hu) (by unfold maxLen; omega) (by omega) (by simp; omega) ?_
  intro v' w' hown' hgr hnil hwh
  refine h v' w' hown' (((Below.refl base w).alloc hbase _).grown hgr (by simp; omega) (fun k hk => (hown.lt k hk).1)) ?_ (by simpa using hwh) (fun e => by have := (hnil.1 e).2; omega)
  exact ⟨hgr.os, hgr.tape, hgr.output, Nat.le_trans (by simp) hgr.size, fun i hi hne => (hgr.block i (by simp; omega) hne).trans (Below.heap_alloc _ _ _ hi)⟩
end
end Go.Proofs.YtkanglfpiahecaaDoor.Lyt
/- A pane's leaf, and what is above it. -/
namespace Go.Proofs.YtkanglfpiahecaaDoor.Lyt
open Go.RowKit

abbrev pV (b : Nat) : Value := .pointer (some ⟨b, 0, none⟩)
/-- The last path that is there, with a pointer behind it. -/
def lastUp (u : Value) (l : List (List Value)) : List Value := l.foldl (fun acc x => if x = [] then acc else x ++ [u]) []
theorem lastUp_app (u : Value) (l : List (List Value)) (x : List Value) : lastUp u (l ++ [x]) = if x = [] then lastUp u l else x ++ [u] := by simp [lastUp, List.foldl_append]
/-- The path from a pane's leaf up to each of some trees; none: the pane is not in it. -/
def F.ups (p : Int) : F → List (List Value)
  | .nil => []
  | .leaf b q _ _ r => (if q = p then [pV b] else []) :: r.ups p
  | .node b _ _ _ ks r => lastUp (pV b) (ks.ups p) :: r.ups p
theorem F.ups_len (p : Int) : ∀ f : F, (f.ups p).length = f.len
  | .nil => rfl
  | .leaf _ _ _ _ r => by simp [F.ups, F.len, F.ups_len p r]
  | .node _ _ _ _ _ r => by simp [F.ups, F.len, F.ups_len p r]
theorem lastUp_le (u : Value) (m : Nat) : ∀ l : List (List Value), (∀ x ∈ l, x.length ≤ m) → (lastUp u l).length ≤ m + 1 := by
  intro l h
  have key : ∀ (l : List (List Value)) (acc : List Value), acc.length ≤ m + 1 → (∀ x ∈ l, x.length ≤ m) → (l.foldl (fun acc x => if x = [] then acc else x ++ [u]) acc).length ≤ m + 1 := by
    intro l
    induction l with
    | nil => intro acc h _; exact h
    | cons x l ih =>
      intro acc h hl
      refine ih _ ?_ fun y hy => hl y (by simp [hy])
      show (if x = [] then acc else x ++ [u]).length ≤ m + 1
      split
      · exact h
      · have := hl x (by simp)
        simp; omega
  exact key l [] (by simp) h
theorem F.ups_le (p : Int) : ∀ f : F, ∀ x ∈ f.ups p, x.length ≤ f.blks.length
  | .nil, x, hx => by simp [F.ups] at hx
  | .leaf _ _ _ _ r, x, hx => by
    have ih := F.ups_le p r
    rcases List.mem_cons.1 hx with rfl | hx
    · split <;> simp [F.blks]
    · have := ih x hx
      simp [F.blks]; omega
  | .node b _ _ _ ks r, x, hx => by
    have ihk := F.ups_le p ks
    have ihr := F.ups_le p r
    rcases List.mem_cons.1 hx with rfl | hx
    · have := lastUp_le (pV b) _ _ ihk
      simp [F.blks]; omega
    · have := ihr x hx
      simp [F.blks]; omega
/-- A path, as it is handed back: a row of the call's own; nil, if there is none. -/
def PathAt (w : World) (base : Nat) (u : Value) (l : List Value) : Prop := w.ownsRow base 63 1 u l.length l ∧ (l = [] → u = .slice none 0 0)
theorem path_nil (w : World) (base : Nat) : PathAt w base (.slice none 0 0) [] := ⟨World.ownsRow_nil _ _ _ _, fun _ => rfl⟩
theorem PathAt.shape {w : World} {base : Nat} {u : Value} {l : List Value} (h : PathAt w base u l) : (l = [] ∧ u = .slice none 0 0) ∨ (l ≠ [] ∧ ∃ g c, u = .slice (some ⟨g, 0, none⟩) l.length c ∧ base ≤ g) := by
  by_cases hl : l = []
  · exact .inl ⟨hl, h.2 hl⟩
  · rcases h.1.2 with ⟨_, h0⟩ | ⟨g, cap, cur, rfl, hg, _⟩
    · exact absurd (List.eq_nil_of_length_eq_zero h0) hl
    · exact .inr ⟨hl, g, cap, rfl, hg⟩
section
variable {W : World} {n0 b : Nat} {p : Int} {v u : Value} {acc l : List Value} {w0 : Nat}
set_option maxRecDepth 100000 in
set_option maxHeartbeats 1000000 in
theorem up1_at (h0 : BL W n0 63 [pV b]) (h1 : BL W (n0 + 1) 3 [.int .i64 p]) (h2 : BL W (n0 + 2) 51 [u]) (hu : PathAt W (n0 + 3) u acc) (hl : l.length ≤ 100000000)
    (hk : Calls Tryd.prog 23 #[v, .int .i64 p] W fun e W' => ∃ x, e = .returned x ∧ PathAt W' W.heap.size x l ∧ Below W.heap.size W W') :
    Calls Tryd.prog 51 #[v, pV (n0 + 1), pV n0, pV (n0 + 2)] W fun e W' => e = .returned (.tuple #[]) ∧
      ∃ u', BL W' (n0 + 2) 51 [u'] ∧ PathAt W' (n0 + 3) u' (if l = [] then acc else l ++ [pV b]) ∧ Only [n0 + 2] W W' := by
  have c0 := h0.cell 0
  have c1 := h1.cell 0
  have HK := Lib.hid hk
  have H0 := Lib.hid h0
  have H2 := Lib.hid h2
  have HU := Lib.hid hu
  have hn2 := h2.lt
  clear h0 h1 h2 hu hk
  unfold pV at c0 ⊢
  go_enter Tryd.func51, Tryd.ntmps51
  go_wp2_with fail
  refine HK.out.mono ?_
  rintro _ w1 ⟨x, rfl, hx, hb1⟩
  have hs1 := hb1.size
  have o1 : Only [n0 + 2] W w1 := Only.of_below hb1
  rcases hx.shape with ⟨rfl, rfl⟩ | ⟨hne, g, c, rfl, hg⟩
  · go_wp2_with fail
    refine body_end rfl rfl ⟨rfl, u, H2.out.only (F := []) (Only.of_below hb1) (by simp), ?_, o1⟩
    exact ⟨own_below HU.out.1 hb1, HU.out.2⟩
  · have c0' : w1.cell? ⟨n0, 0, none⟩ = some (.pointer (some ⟨b, 0, none⟩)) := (H0.out.only (F := []) (Only.of_below hb1) (by simp)).cell 0
    have hown := hx.1
    have HX := Lib.hid hown
    clear hx hown
    go_wp2_with (first
      | (at_builtin; refine wpList_app_ptr rfl (.tmp 11) (.tmp 13) rfl W.heap.size _ l.length l _ 1 rfl HX.out rfl rfl hs1 (by omega) ?_; intro v' w2 hown2 hb2 hg2 hw2 hne2; obtain ⟨g2, c2, rfl, hgg⟩ := own_some hown2 (by omega); have h22 := (H2.out.only (F := []) (Only.of_below (hb1.trans hb2)) (by simp)); have s2 := h22.cell 0; have s2f := h22.frozen 0))
    have h2b := h22.set_ 0 (.slice (some ⟨g2, 0, none⟩) (l.length + 1) c2)
    have o2 : Only [n0 + 2] W (w2.setCell ⟨n0 + 2, 0, none⟩ (.slice (some ⟨g2, 0, none⟩) (l.length + 1) c2)) := (Only.of_below (hb1.trans hb2)).setCell (p := ⟨n0 + 2, 0, none⟩) (.inl (by simp)) _
    refine body_end rfl rfl ⟨rfl, _, h2b, ⟨?_, fun e => by simp at e⟩, o2⟩
    rw [List.length_append]
    refine own_only (G := [n0 + 2]) (own_raise hown2 fun k hk => ?_) ((Only.refl _ _).setCell (p := ⟨n0 + 2, 0, none⟩) (.inl (by simp)) _) fun k hk => ?_
    · have : g2 = k := Option.some.inj hk
      omega
    · have : g2 = k := Option.some.inj hk
      simp; omega
end
theorem isLeaf_q (b n c : Nat) (A : Option Addr) (w : World) (h4 : w.cell? ⟨b, 4, none⟩ = some (.slice A n c)) :
    Calls Tryd.prog 42 #[.pointer (some ⟨b, 0, none⟩)] w fun e w' => e = .returned (.bool (decide (n = 0))) ∧ ∃ k, w' = w.drewN k :=
  (isLeaf_at b n c A w h4).mono fun _ _ ⟨h1, h2⟩ => ⟨h1, 0, by rw [← h2]; rfl⟩
set_option maxRecDepth 100000 in
set_option maxHeartbeats 4000000 in
theorem up_at {p : Int} (f : F) : f.has1 → f.blks.length ≤ 1000000 → ∀ w, f.In w → ∀ (i : Nat) v l, f.ptrs[i]? = some v → (f.ups p)[i]? = some l →
    Calls Tryd.prog 23 #[v, .int .i64 p] w fun e w' => ∃ x, e = .returned x ∧ PathAt w' w.heap.size x l ∧ Below w.heap.size w w' := by
  induction f with
  | nil => intro _ _ w _ i v l hv; simp [F.ptrs] at hv
  | leaf b q s0 s1 r ih =>
    intro h1 h3 w hin i v l hv hl
    cases i with
    | succ i => exact ih h1 (by simp [F.blks] at h3; omega) w hin.2 i v l hv hl
    | zero =>
      obtain rfl : pV b = v := by simpa [F.ptrs] using hv
      obtain rfl : (if q = p then [pV b] else []) = l := by simpa [F.ups] using hl
      have hb0 : Below w.heap.size w ((w.alloc (.cells #[pV b] 63)).alloc (.cells #[.int .i64 p] 3)) := ((Below.refl _ _).alloc (Nat.le_refl _) _).alloc (by simp) _
      have hA := (BL.new w 63 [pV b]).alloc (.cells #[.int .i64 p] 3)
      have hB := BL.new (w.alloc (.cells #[pV b] 63)) 3 [.int .i64 p]
      rw [size_alloc] at hB
      have hN := hin.1.only (Only.of_below (F := []) hb0) (by simp)
      have hsz : ((w.alloc (.cells #[pV b] 63)).alloc (.cells #[.int .i64 p] 3)).heap.size = w.heap.size + 2 := by simp
      unfold pV at *
      go_enter Tryd.func23, Tryd.ntmps23
      go_upto_region 1 with fail
      generalize (w.alloc (.cells #[.pointer (some ⟨b, 0, none⟩)] 63)).alloc (.cells #[.int .i64 p] 3) = W at *
      have c0 := hA.cell 0
      have c1 := hB.cell 0
      have e0 : W.cell? ⟨b, 0, none⟩ = some (.int .i64 q) := hN.cell 0
      have e4 : W.cell? ⟨b, 4, none⟩ = some (.slice none 0 0) := hN.cell 4
      have hN0 := hN
      clear hB hN hin hv hl ih
      by_cases hq : q = p
      · subst hq
        go_quiet (first
          | (go_at_call 42; refine Calls.quiet_of (isLeaf_q b 0 0 none _ ?_); exact e4))
        have hbq : Below w.heap.size w (W.drewN nq) := drewN_below hb0 nq
        have c0q : (W.drewN nq).cell? ⟨w.heap.size, 0, none⟩ = some (.pointer (some ⟨b, 0, none⟩)) := c0
        have hsq : w.heap.size ≤ (W.drewN nq).heap.size := hbq.size
        generalize W.drewN nq = V at *
        go_wp2_with fail
        go_ret
        exact ⟨_, rfl, ⟨⟨rfl, .inr ⟨V.heap.size, 1, #[.pointer (some ⟨b, 0, none⟩)], rfl, hsq, heap_alloc_new V _, by simp, by decide, rfl, rfl⟩⟩, fun e => by simp at e⟩, hbq.alloc hsq _⟩
      · have hqf : (q == p) = false := by simpa using hq
        go_quiet (first
          | (go_at_call 42; refine Calls.quiet_of (isLeaf_q b 0 0 none _ ?_); exact e4))
        have hbq : Below w.heap.size w (W.drewN nq) := drewN_below hb0 nq
        have c0q : (W.drewN nq).cell? ⟨w.heap.size, 0, none⟩ = some (.pointer (some ⟨b, 0, none⟩)) := c0
        have e4q : (W.drewN nq).cell? ⟨b, 4, none⟩ = some (.slice none 0 0) := e4
        have hsq : w.heap.size ≤ (W.drewN nq).heap.size := hbq.size
        have hAq : BL (W.drewN nq) w.heap.size 63 [.pointer (some ⟨b, 0, none⟩)] := hA
        have hNq : BN (W.drewN nq) b (leafC q s0 s1) := hN0
        clear hA hN0
        generalize W.drewN nq = V at *
        go_upto_region 4 with fail
        have hN := BL.new V 51 [.slice none 0 0]
        have hbN : Below w.heap.size w (V.alloc (.cells #[.slice none 0 0] 51)) := hbq.alloc hsq _
        have c0n := (BL.alloc (xs := [.pointer (some ⟨b, 0, none⟩)]) (b := w.heap.size) (t := 63) (by exact hAq) (.cells #[.slice none 0 0] 51)).cell 0
        have e4n : (V.alloc (.cells #[.slice none 0 0] 51)).cell? ⟨b, 4, none⟩ = some (.slice none 0 0) := (BN.only hNq ((Only.refl [] V).alloc _) (by simp)).cell 4
        generalize V.alloc (.cells #[.slice none 0 0] 51) = X at *
        have ke := each_at b 0 0 0 none 51 #[pV (w.heap.size + 1), pV w.heap.size, pV V.heap.size] (fun _ => undef) (fun _ V' => X = V') X
          (enters_of Tryd.func51 (by kernel_rfl) rfl) e4n (fun h => absurd h (by decide)) (fun i V' hi => absurd hi (Nat.not_lt_zero _)) (fun i V' hi => absurd hi (Nat.not_lt_zero _)) rfl (by decide)
        have f0 := hN.cell 0
        unfold pV at ke
        go_wp2_with fail
        refine ke.mono ?_
        rintro _ w2 ⟨rfl, rfl⟩
        go_wp2_with fail
        go_ret
        exact ⟨_, rfl, path_nil _ _, hbN⟩
  | node b kb cap al ks r ihk ihr =>
    intro h1 h3 w hin i v l hv hl
    cases i with
    | succ i => exact ihr h1.2.2 (by simp [F.blks] at h3; omega) w hin.2.2.2 i v l hv hl
    | zero =>
      obtain rfl : pV b = v := by simpa [F.ptrs] using hv
      obtain rfl : lastUp (pV b) (ks.ups p) = l := by simpa [F.ups] using hl
      have hkb : ks.blks.length ≤ 1000000 := by simp [F.blks] at h3; omega
      have hkid := fun W hinW => ihk h1.2.1 hkb W hinW
      have hlen := F.ups_len p ks
      have hpl := F.ptrs_len ks
      have hle := F.ups_le p ks
      have hcl : ks.len ≤ 1000000 := by
        have : ∀ f : F, f.len ≤ f.blks.length := fun f => by
          induction f with
          | nil => simp [F.len]
          | leaf b p s0 s1 r ih => simp [F.len, F.blks]; omega
          | node b kb cap al ks r ihk ihr => simp [F.len, F.blks]; omega
        have := this ks
        omega
      have hb0 : Below w.heap.size w ((w.alloc (.cells #[pV b] 63)).alloc (.cells #[.int .i64 p] 3)) := ((Below.refl _ _).alloc (Nat.le_refl _) _).alloc (by simp) _
      have hA := (BL.new w 63 [pV b]).alloc (.cells #[.int .i64 p] 3)
      have hB := BL.new (w.alloc (.cells #[pV b] 63)) 3 [.int .i64 p]
      rw [size_alloc] at hB
      have hsz : ((w.alloc (.cells #[pV b] 63)).alloc (.cells #[.int .i64 p] 3)).heap.size = w.heap.size + 2 := by simp
      have HIN := Lib.hid hin
      have HKID := Lib.hid hkid
      clear hin hkid ihk ihr hv hl h3
      generalize hU : ks.ups p = U at *
      have hnf : decide (ks.len = 0) = false := decide_eq_false (by have := h1.1; omega)
      unfold pV at hA hB hb0 hsz ⊢
      go_enter Tryd.func23, Tryd.ntmps23
      go_upto_region 1 with fail
      generalize (w.alloc (.cells #[.pointer (some ⟨b, 0, none⟩)] 63)).alloc (.cells #[.int .i64 p] 3) = W at *
      have c0 := hA.cell 0
      have c1 := hB.cell 0
      have e4 : W.cell? ⟨b, 4, none⟩ = some (.slice (some ⟨kb, 0, none⟩) ks.len cap) := (HIN.out.1.only (Only.of_below (F := []) hb0) (by simp)).cell 4
      have hil := fun V (h : V.cell? ⟨b, 4, none⟩ = some (.slice (some ⟨kb, 0, none⟩) ks.len cap)) => isLeaf_q b ks.len cap (some ⟨kb, 0, none⟩) V h
      rw [hnf] at hil
      go_quiet (first
        | (go_at_call 42; refine Calls.quiet_of (hil _ ?_); exact e4))
      have hbq : Below w.heap.size w (W.drewN nq) := drewN_below hb0 nq
      have hAq : BL (W.drewN nq) w.heap.size 63 [.pointer (some ⟨b, 0, none⟩)] := hA
      have hBq : BL (W.drewN nq) (w.heap.size + 1) 3 [.int .i64 p] := hB
      have hsq : (W.drewN nq).heap.size = w.heap.size + 2 := hsz
      clear hA hB c0 c1 e4 hil
      generalize W.drewN nq = V at *
      go_upto_region 4 with fail
      have hN := BL.new V 51 [.slice none 0 0]
      have hA2 := hAq.alloc (.cells #[.slice none 0 0] 51)
      have hB2 := hBq.alloc (.cells #[.slice none 0 0] 51)
      have hbN : Below w.heap.size w (V.alloc (.cells #[.slice none 0 0] 51)) := hbq.alloc (by omega) _
      rw [hsq] at hN
      generalize V.alloc (.cells #[.slice none 0 0] 51) = X at *
      have e4n : X.cell? ⟨b, 4, none⟩ = some (.slice (some ⟨kb, 0, none⟩) ks.len cap) := (HIN.out.1.only (Only.of_below (F := []) hbN) (by simp)).cell 4
      have hsX : w.heap.size + 3 ≤ X.heap.size := by have := hN.lt; omega
      have ke := each_at b kb ks.len cap (some ⟨kb, 0, none⟩) 51 #[pV (w.heap.size + 1), pV w.heap.size, pV (w.heap.size + 2)] (fun i => ks.ptrs.getD i undef)
        (fun i V => BL V w.heap.size 63 [pV b] ∧ BL V (w.heap.size + 1) 3 [.int .i64 p] ∧ (∃ u, BL V (w.heap.size + 2) 51 [u] ∧ PathAt V (w.heap.size + 3) u (lastUp (pV b) (U.take i))) ∧ Below w.heap.size w V) X
        (enters_of Tryd.func51 (by kernel_rfl) rfl) e4n (fun _ => rfl)
        (fun i V hi hV => by
          have hr := (HIN.out.2.1.only (Only.of_below (F := []) hV.2.2.2) (by simp)).cell (i := i) (by omega)
          exact hr.trans (getD_some (by omega)))
        (fun i V hi hV => by
          obtain ⟨q0, q1, ⟨u, q2, qu⟩, q4⟩ := hV
          have hiv : i < U.length := by omega
          have htk : U.take (i + 1) = U.take i ++ [U[i]] := List.take_succ_eq_append_getElem hiv
          have hk := HKID.out V (HIN.out.2.2.1.below q4) i (ks.ptrs.getD i undef) U[i] (getD_some (by omega)) (List.getElem?_eq_getElem hiv)
          have hll := hle U[i] (List.getElem_mem hiv)
          have k1 := up1_at q0 q1 q2 qu (by omega) hk
          refine k1.mono ?_
          rintro e V' ⟨rfl, u', r2, ru, ro⟩
          refine ⟨rfl, q0.only ro (by simp), q1.only ro (by simp), ⟨u', r2, ?_⟩, q4.trans (ro.below (B := w.heap.size) (by have := q2.lt; omega) (by simp))⟩
          rw [htk, lastUp_app]
          exact ru)
        ⟨hA2, hB2, ⟨_, hN, path_nil _ _⟩, hbN⟩ (by omega)
      have KE := Lib.hid ke
      have c0x := hA2.cell 0
      clear ke hA2 hB2 hN hAq hBq
      unfold pV at KE
      go_wp2_with fail
      refine KE.out.mono ?_
      rintro _ w2 ⟨rfl, q0, q1, ⟨u, q2, qu⟩, q4⟩
      rw [← hlen, List.take_length] at qu
      have d2 := q2.cell 0
      have QU := Lib.hid qu
      clear q0 q1 q2 qu KE
      rcases QU.out.shape with ⟨hz, rfl⟩ | ⟨hne, g, c, rfl, hg⟩
      · go_wp2_with fail
        go_ret
        exact ⟨_, rfl, ⟨own_raise QU.out.1 (fun k hk => by cases hk), QU.out.2⟩, q4⟩
      · go_wp2_with fail
        go_ret
        exact ⟨_, rfl, ⟨own_raise QU.out.1 (fun k hk => by
          have : g = k := Option.some.inj hk
          omega), QU.out.2⟩, q4⟩
end Go.Proofs.YtkanglfpiahecaaDoor.Lyt
/- What a call may turn, under a block. -/
namespace Go.Proofs.YtkanglfpiahecaaDoor.Lyt
open Go.RowKit

/-- No block under B but those of F has turned. -/
structure OnlyB (B : Nat) (F : List Nat) (w w' : World) : Prop where
  os : w'.os = w.os
  tape : w'.tape = w.tape
  output : w'.output = w.output
  size : w.heap.size ≤ w'.heap.size
  block : ∀ k, k < B → k ∉ F → w'.heap[k]? = w.heap[k]?
section
variable {B C : Nat} {F G : List Nat} {w w' w2 : World}
theorem OnlyB.trans (h : OnlyB B F w w') (k : OnlyB B F w' w2) : OnlyB B F w w2 := ⟨k.os.trans h.os, k.tape.trans h.tape, k.output.trans h.output, Nat.le_trans h.size k.size, fun i hi hn => (k.block i hi hn).trans (h.block i hi hn)⟩
theorem OnlyB.mono (h : OnlyB B F w w') (hC : C ≤ B) (hG : ∀ x ∈ F, x ∈ G) : OnlyB C G w w' := ⟨h.os, h.tape, h.output, h.size, fun k hk hn => h.block k (by omega) fun x => hn (hG k x)⟩
theorem Only.toB (h : Only F w w') (hB : B ≤ w.heap.size) : OnlyB B F w w' := ⟨h.os, h.tape, h.output, h.size, fun k hk hn => h.block k (by omega) hn⟩
theorem OnlyB.of_below (h : Below B w w') : OnlyB B F w w' := ⟨h.os, h.tape, h.output, h.size, fun k hk _ => h.block k hk⟩
theorem OnlyB.below (h : OnlyB B F w w') (hC : C ≤ B) (hF : ∀ x ∈ F, C ≤ x) : Below C w w' := ⟨h.os, h.tape, h.output, h.size, fun k hk => h.block k (by omega) fun x => by have := hF k x; omega⟩
theorem OnlyB.toOnly (h : OnlyB B F w w') (hB : w.heap.size ≤ B) : Only F w w' := ⟨h.os, h.tape, h.output, h.size, fun k hk hn => h.block k (by omega) hn⟩
theorem BL.onlyB {b : Nat} {t : TypeId} {xs : List Value} (h : BL w b t xs) (ho : OnlyB B F w w') (hb : b < B) (hF : b ∉ F) : BL w' b t xs := h.keep (ho.block b hb hF)
theorem BN.onlyB {b : Nat} {xs : List Value} (h : BN w b xs) (ho : OnlyB B F w w') (hb : b < B) (hF : b ∉ F) : BN w' b xs := by obtain ⟨t, h⟩ := h; exact ⟨t, h.onlyB ho hb hF⟩
theorem RowAt.onlyB {kb cap : Nat} {ps : List Value} (h : RowAt w kb cap ps) (ho : OnlyB B F w w') (hb : kb < B) (hF : kb ∉ F) : RowAt w' kb cap ps := by obtain ⟨h0, t, h1, h2⟩ := h; exact ⟨h0, t, h1, h2.onlyB ho hb hF⟩
theorem F.In.onlyB {L : List Nat} : ∀ {f : Lyt.F}, f.In w → OnlyB B L w w' → (∀ x ∈ f.blks, x < B ∧ x ∉ L) → f.In w'
  | .nil, _, _, _ => trivial
  | .leaf b _ _ _ r, h, ho, hG => ⟨h.1.onlyB ho (hG b (by simp [Lyt.F.blks])).1 (hG b (by simp [Lyt.F.blks])).2, F.In.onlyB h.2 ho fun x hx => hG x (by simp [Lyt.F.blks, hx])⟩
  | .node b kb _ _ ks r, h, ho, hG => ⟨h.1.onlyB ho (hG b (by simp [Lyt.F.blks])).1 (hG b (by simp [Lyt.F.blks])).2, h.2.1.onlyB ho (hG kb (by simp [Lyt.F.blks])).1 (hG kb (by simp [Lyt.F.blks])).2, F.In.onlyB h.2.2.1 ho fun x hx => hG x (by simp [Lyt.F.blks, hx]), F.In.onlyB h.2.2.2 ho fun x hx => hG x (by simp [Lyt.F.blks, hx])⟩
end
end Go.Proofs.YtkanglfpiahecaaDoor.Lyt
