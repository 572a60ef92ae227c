/- Words on memory for layer 1: the two tables of the program, a block known whole, what a call leaves as it was. -/
import Derived.Test.YtbiinghmopgjnaaGreatDoorProg
import Derived.Test.YtbiinghmopgjnaaGreatDoorSpecb
import Derived.WalkKit
import Derived.WalkLawsBesides
import Derived.WalkSpells
import Derived.WalkSmall
import Derived.Lib.Hide
import Derived.Outline
import Derived.Maps.AppendAt
import Derived.Deep.AppendLies
import Derived.Deep.Draws
namespace Go.Proofs.YtbiinghmopgjnaaGreatDoor.Cel
open Go.RowKit

/-- A block that is just these cells. -/
def Blk (w : World) (g : Nat) (t : TypeId) (cs : Array Value) : Prop := w.heap[g]? = some (.cells cs t (0, 0))
section
variable {w w' : World} {g : Nat} {t : TypeId} {cs : Array Value}
theorem Blk.lt (h : Blk w g t cs) : g < w.heap.size := by
  rcases Nat.lt_or_ge g w.heap.size with hlt | hge
  · exact hlt
  · unfold Blk at h; rw [Array.getElem?_eq_none hge] at h; cases h
theorem Blk.cell (h : Blk w g t cs) (i : Nat) : w.cell? ⟨g, i, none⟩ = cs[i]? := cell_of_row w g i cs t (0, 0) h
theorem Blk.frozen (h : Blk w g t cs) (i : Nat) : w.frozen? ⟨g, i, none⟩ = false := by
  unfold Blk at h
  simp [World.frozen?, h]
theorem Blk.new (w : World) (t : TypeId) (cs : Array Value) : Blk (w.alloc (.cells cs t)) w.heap.size t cs := heap_alloc_new w _
theorem Blk.drew (h : Blk w g t cs) : Blk w.drew g t cs := h
theorem Blk.drewN (h : Blk w g t cs) (n : Nat) : Blk (w.drewN n) g t cs := h
theorem Blk.alloc (h : Blk w g t cs) (o : Obj) : Blk (w.alloc o) g t cs := (Below.heap_alloc w o g h.lt).trans h
theorem Blk.set_ (h : Blk w g t cs) (i : Nat) (u : Value) : Blk (w.setCell ⟨g, i, none⟩ u) g t (cs.setIfInBounds i u) := by
  unfold Blk at h ⊢
  simp [World.setCell, Array.getElem?_modify, h]
theorem Blk.far (h : Blk w g t cs) {p : Addr} (hp : g ≠ p.block) (u : Value) : Blk (w.setCell p u) g t cs := (Below.heap_setCell w p u g hp).trans h
theorem Blk.below {B : Nat} (h : Blk w g t cs) (hb : Below B w w') (hg : g < B) : Blk w' g t cs := (hb.block g hg).trans h
end

/-- What was there is as it was, but for the blocks that p names. -/
structure Kept (w w' : World) (p : Nat → Prop) : Prop where
  os : w'.os = w.os
  tape : w'.tape = w.tape
  output : w'.output = w.output
  size : w.heap.size ≤ w'.heap.size
  block : ∀ k, k < w.heap.size → ¬ p k → w'.heap[k]? = w.heap[k]?
section
variable {w w' w'' : World} {p q : Nat → Prop}
theorem Kept.refl (w : World) (p : Nat → Prop) : Kept w w p := ⟨rfl, rfl, rfl, Nat.le_refl _, fun _ _ _ => rfl⟩
theorem Kept.trans (h : Kept w w' p) (k : Kept w' w'' q) (hq : ∀ i, i < w.heap.size → q i → p i) : Kept w w'' p :=
  ⟨k.os.trans h.os, k.tape.trans h.tape, k.output.trans h.output, Nat.le_trans h.size k.size, fun i hi hp => (k.block i (Nat.lt_of_lt_of_le hi h.size) fun hh => hp (hq i hi hh)).trans (h.block i hi hp)⟩
theorem Kept.more (h : Kept w w' p) (hq : ∀ i, p i → q i) : Kept w w' q := ⟨h.os, h.tape, h.output, h.size, fun k hk hp => h.block k hk fun hh => hp (hq k hh)⟩
theorem Kept.drew (h : Kept w w' p) : Kept w w'.drew p := ⟨h.os, h.tape, h.output, h.size, h.block⟩
theorem Kept.drewN (h : Kept w w' p) (n : Nat) : Kept w (w'.drewN n) p := ⟨h.os, h.tape, h.output, h.size, h.block⟩
theorem Kept.alloc (h : Kept w w' p) (o : Obj) : Kept w (w'.alloc o) p :=
  h.trans (q := p) ⟨rfl, rfl, rfl, by simp, fun k hk _ => Below.heap_alloc _ _ _ hk⟩ fun _ _ hh => hh
theorem Kept.setCell (h : Kept w w' p) {a : Addr} (ha : p a.block) (u : Value) : Kept w (w'.setCell a u) p :=
  h.trans (q := p) ⟨rfl, rfl, rfl, by simp [World.setCell], fun k _ hp => Below.heap_setCell _ _ _ _ fun e => hp (by rw [e]; exact ha)⟩ fun _ _ hh => hh
theorem Kept.grown (h : Kept w w' p) {row : Option Nat} (hg : w'.grownBy w'' row) (hr : ∀ k, row = some k → k < w.heap.size → p k) : Kept w w'' p :=
  h.trans (q := fun k => row = some k) ⟨hg.os, hg.tape, hg.output, hg.size, fun k hk hp => hg.block k hk fun e => hp e.symm⟩ fun i hi hh => hr i hh hi
theorem Kept.below {B : Nat} (h : Kept w w' p) (hB : B ≤ w.heap.size) (hp : ∀ k, k < B → ¬ p k) : Below B w w' := ⟨h.os, h.tape, h.output, h.size, fun k hk => h.block k (by omega) (hp k hk)⟩
theorem Kept.of_below {B : Nat} (h : Below B w w') (hp : ∀ k, B ≤ k → k < w.heap.size → p k) : Kept w w' p :=
  ⟨h.os, h.tape, h.output, h.size, fun k hk hn => h.block k (Nat.lt_of_not_le fun hB => hn (hp k hB hk))⟩
theorem Kept.grownBy {row : Option Nat} (h : Kept w w' p) (hp : ∀ k, p k → some k = row) : w.grownBy w' row := ⟨h.os, h.tape, h.output, h.size, fun k hk hn => h.block k hk fun hh => hn (hp k hh)⟩
theorem Kept.blk {g : Nat} {t : TypeId} {cs : Array Value} (h : Kept w w' p) (hb : Blk w g t cs) (hp : ¬ p g) : Blk w' g t cs := (h.block g hb.lt hp).trans hb
theorem Kept.owns {base : Nat} {e : TypeId} {size : Nat} {v : Value} {n : Nat} {xs : List Value} (h : Kept w w' p) (ho : w.ownsRow base e size v n xs) (hp : ∀ k, v.ownBlock = some k → ¬ p k) : w'.ownsRow base e size v n xs := by
  obtain ⟨h1, h2⟩ := ho
  refine ⟨h1, ?_⟩
  rcases h2 with h2 | ⟨g, cap, cur, hv, hg, hh, r⟩
  · exact Or.inl h2
  · refine Or.inr ⟨g, cap, cur, hv, hg, ?_, r⟩
    rw [h.block g (Array.getElem?_eq_some_iff.1 hh).1 (hp g (by rw [hv]; rfl))]
    exact hh
end
theorem below_kept {w w' : World} (h : Below w.heap.size w w') (p : Nat → Prop) : Kept w w' p := Kept.of_below h fun k h1 h2 => by omega
theorem own_rebase {w : World} {base base' : Nat} {e : TypeId} {size : Nat} {v : Value} {n : Nat} {xs : List Value} (h : w.ownsRow base e size v n xs) (hb : ∀ k, v.ownBlock = some k → base' ≤ k) : w.ownsRow base' e size v n xs := by
  obtain ⟨h1, h2⟩ := h
  refine ⟨h1, ?_⟩
  rcases h2 with h2 | ⟨g, cap, cur, hv, hg, r⟩
  · exact Or.inl h2
  · exact Or.inr ⟨g, cap, cur, hv, hb g (by rw [hv]; rfl), r⟩

theorem ret_int {k : IntKind} {a b : Int} (h : a = b) : Ending.returned (.int k a) = .returned (.int k b) := by rw [h]
theorem ret_bool {a b : Bool} (h : a = b) : Ending.returned (.bool a) = .returned (.bool b) := by rw [h]
theorem ret_str {a b : ByteArray} (h : a = b) : Ending.returned (.string a) = .returned (.string b) := by rw [h]

/-! ### The program's two tables -/
def spanCells : Array Value := (spans.flatMap fun s => [Value.int .i32 s.1, Value.int .i32 s.2.1, Value.int .i64 s.2.2]).toArray
def rows : List (Int × Int × Int × Int × Int) := [(194, 223, 128, 191, 0), (224, 224, 160, 191, 1), (225, 236, 128, 191, 1), (237, 237, 128, 159, 1), (238, 239, 128, 191, 1), (240, 240, 144, 191, 2), (241, 243, 128, 191, 2), (244, 244, 128, 143, 2)]
def rowCells : Array Value := (rows.flatMap fun s => [Value.int .u8 s.1, Value.int .u8 s.2.1, Value.int .u8 s.2.2.1, Value.int .u8 s.2.2.2.1, Value.int .i64 s.2.2.2.2]).toArray
structure Tabs (w : World) : Prop where
  spans : ∃ t fr, w.heap[2]? = some (.cells spanCells t fr)
  rows : ∃ t fr, w.heap[9]? = some (.cells rowCells t fr)
/-- So many blocks hold the variables. -/
abbrev low : Nat := max 2 9 + 1
section
variable {w w' : World}
theorem Tabs.below {B : Nat} (h : Tabs w) (hb : Below B w w') (hB : low ≤ B) : Tabs w' := by
  unfold low at hB
  obtain ⟨t, fr, h1⟩ := h.spans
  obtain ⟨t', fr', h2⟩ := h.rows
  exact ⟨⟨t, fr, (hb.block _ (by omega)).trans h1⟩, ⟨t', fr', (hb.block _ (by omega)).trans h2⟩⟩
theorem Tabs.kept {p : Nat → Prop} (h : Tabs w) (hb : Kept w w' p) (hp : ∀ k, k < low → ¬ p k) (hl : low ≤ w.heap.size) : Tabs w' := h.below (hb.below (B := low) hl hp) (Nat.le_refl _)
end

theorem info_rune : (Tryz.prog.info? 21).map (fun i => (i.zero, i.size, i.bytes)) = some (some (.int .i32 0), 1, 4) := by kernel_rfl
theorem info_byte : (Tryz.prog.info? 5).map (fun i => (i.zero, i.size, i.bytes)) = some (some (.int .u8 0), 1, 1) := by kernel_rfl

/-- A row of the table of widths, as it is taken out of the array. -/
theorem span_at (cs : Array Value) (hcs : cs = spanCells) (k : Nat) (hk : k < 18) : ∃ s : Int × Int × Int, spans[k]? = some s ∧ -1114112 ≤ s.1 ∧ s.1 ≤ 1114111 ∧ -1114112 ≤ s.2.1 ∧ s.2.1 ≤ 1114111 ∧ -1 ≤ s.2.2 ∧ s.2.2 ≤ 2 ∧
    ∀ w : World, (Instr.index 189 (.agg cs) (.int .i64 k)).run Tryz.prog w = .ok (.agg #[.int .i32 s.1, .int .i32 s.2.1, .int .i64 s.2.2]) w := by
  subst hcs
  match k, hk with
  | 0, _ => exact ⟨_, rfl, by decide, by decide, by decide, by decide, by decide, by decide, fun _ => by kernel_rfl⟩
  | 1, _ => exact ⟨_, rfl, by decide, by decide, by decide, by decide, by decide, by decide, fun _ => by kernel_rfl⟩
  | 2, _ => exact ⟨_, rfl, by decide, by decide, by decide, by decide, by decide, by decide, fun _ => by kernel_rfl⟩
  | 3, _ => exact ⟨_, rfl, by decide, by decide, by decide, by decide, by decide, by decide, fun _ => by kernel_rfl⟩
  | 4, _ => exact ⟨_, rfl, by decide, by decide, by decide, by decide, by decide, by decide, fun _ => by kernel_rfl⟩
  | 5, _ => exact ⟨_, rfl, by decide, by decide, by decide, by decide, by decide, by decide, fun _ => by kernel_rfl⟩
  | 6, _ => exact ⟨_, rfl, by decide, by decide, by decide, by decide, by decide, by decide, fun _ => by kernel_rfl⟩
  | 7, _ => exact ⟨_, rfl, by decide, by decide, by decide, by decide, by decide, by decide, fun _ => by kernel_rfl⟩
  | 8, _ => exact ⟨_, rfl, by decide, by decide, by decide, by decide, by decide, by decide, fun _ => by kernel_rfl⟩
  | 9, _ => exact ⟨_, rfl, by decide, by decide, by decide, by decide, by decide, by decide, fun _ => by kernel_rfl⟩
  | 10, _ => exact ⟨_, rfl, by decide, by decide, by decide, by decide, by decide, by decide, fun _ => by kernel_rfl⟩
  | 11, _ => exact ⟨_, rfl, by decide, by decide, by decide, by decide, by decide, by decide, fun _ => by kernel_rfl⟩
  | 12, _ => exact ⟨_, rfl, by decide, by decide, by decide, by decide, by decide, by decide, fun _ => by kernel_rfl⟩
  | 13, _ => exact ⟨_, rfl, by decide, by decide, by decide, by decide, by decide, by decide, fun _ => by kernel_rfl⟩
  | 14, _ => exact ⟨_, rfl, by decide, by decide, by decide, by decide, by decide, by decide, fun _ => by kernel_rfl⟩
  | 15, _ => exact ⟨_, rfl, by decide, by decide, by decide, by decide, by decide, by decide, fun _ => by kernel_rfl⟩
  | 16, _ => exact ⟨_, rfl, by decide, by decide, by decide, by decide, by decide, by decide, fun _ => by kernel_rfl⟩
  | 17, _ => exact ⟨_, rfl, by decide, by decide, by decide, by decide, by decide, by decide, fun _ => by kernel_rfl⟩
  | n + 18, hk => exact absurd hk (by omega)
theorem row_at (cs : Array Value) (hcs : cs = rowCells) (k : Nat) (hk : k < 8) : ∃ s : Int × Int × Int × Int × Int, rows[k]? = some s ∧ 194 ≤ s.1 ∧ s.1 ≤ 244 ∧ 194 ≤ s.2.1 ∧ s.2.1 ≤ 244 ∧ 128 ≤ s.2.2.1 ∧ s.2.2.1 ≤ 191 ∧ 128 ≤ s.2.2.2.1 ∧ s.2.2.2.1 ≤ 191 ∧ 0 ≤ s.2.2.2.2 ∧ s.2.2.2.2 ≤ 2 ∧
    ∀ w : World, (Instr.index 259 (.agg cs) (.int .i64 k)).run Tryz.prog w = .ok (.agg #[.int .u8 s.1, .int .u8 s.2.1, .int .u8 s.2.2.1, .int .u8 s.2.2.2.1, .int .i64 s.2.2.2.2]) w := by
  subst hcs
  match k, hk with
  | 0, _ => exact ⟨_, rfl, by decide, by decide, by decide, by decide, by decide, by decide, by decide, by decide, by decide, by decide, fun _ => by kernel_rfl⟩
  | 1, _ => exact ⟨_, rfl, by decide, by decide, by decide, by decide, by decide, by decide, by decide, by decide, by decide, by decide, fun _ => by kernel_rfl⟩
  | 2, _ => exact ⟨_, rfl, by decide, by decide, by decide, by decide, by decide, by decide, by decide, by decide, by decide, by decide, fun _ => by kernel_rfl⟩
  | 3, _ => exact ⟨_, rfl, by decide, by decide, by decide, by decide, by decide, by decide, by decide, by decide, by decide, by decide, fun _ => by kernel_rfl⟩
  | 4, _ => exact ⟨_, rfl, by decide, by decide, by decide, by decide, by decide, by decide, by decide, by decide, by decide, by decide, fun _ => by kernel_rfl⟩
  | 5, _ => exact ⟨_, rfl, by decide, by decide, by decide, by decide, by decide, by decide, by decide, by decide, by decide, by decide, fun _ => by kernel_rfl⟩
  | 6, _ => exact ⟨_, rfl, by decide, by decide, by decide, by decide, by decide, by decide, by decide, by decide, by decide, by decide, fun _ => by kernel_rfl⟩
  | 7, _ => exact ⟨_, rfl, by decide, by decide, by decide, by decide, by decide, by decide, by decide, by decide, by decide, by decide, fun _ => by kernel_rfl⟩
  | n + 8, hk => exact absurd hk (by omega)
end Go.Proofs.YtbiinghmopgjnaaGreatDoor.Cel
