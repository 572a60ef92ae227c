/- A grid's memory: cells in rows, rows in tables; what a call may turn. -/
import Derived.Test.YtjklnnklgkihlaaGreatDoorProg
import Derived.WalkKit
import Derived.WalkLawsBesides
import Derived.WalkSpells
import Derived.WalkSmall
import Derived.Lib.Hide
import Derived.Outline
import Derived.Maps.AppendAt
import Derived.Deep.AppendLies
import Derived.Deep.Draws
import Derived.Deep.QuietTactic
import Derived.Deep.MidRow
import Derived.Deep.RegionWith
import Derived.Deep.RegionHeld3
import Derived.Deep.DeepCutAuto
import Derived.Deep.CutRange
import Derived.BigQuiet
import Derived.Laws.CopyRow
import Derived.Laws.MakeOwn
namespace Go.Proofs.YtjklnnklgkihlaaGreatDoor.Grd
open Go.RowKit

/-- A look; a cell: its rune, its width, its look. -/
abbrev St := Int × Int × Int
abbrev Ce := Int × Int × St
def stL (s : St) : List Value := [.int .i64 s.1, .int .i64 s.2.1, .int .i64 s.2.2]
def ceL (c : Ce) : List Value := .int .i32 c.1 :: .int .i64 c.2.1 :: stL c.2.2
def flat (l : List Ce) : List Value := l.flatMap ceL
theorem ceL_len (c : Ce) : (ceL c).length = 5 := rfl
theorem flat_len (l : List Ce) : (flat l).length = 5 * l.length := by
  induction l with
  | nil => rfl
  | cons c r ih => unfold flat at ih ⊢; rw [List.flatMap_cons, List.length_append, ih, ceL_len, List.length_cons]; omega
theorem flat_app (a b : List Ce) : flat (a ++ b) = flat a ++ flat b := by unfold flat; rw [List.flatMap_append]
theorem flat_cons (c : Ce) (b : List Ce) : flat (c :: b) = ceL c ++ flat b := by unfold flat; rw [List.flatMap_cons]
theorem flat_take (l : List Ce) (n : Nat) : flat (l.take n) = (flat l).take (5 * n) := by
  by_cases h : n ≤ l.length
  · have e := congrArg flat (List.take_append_drop n l)
    rw [flat_app] at e
    have hl : (flat (l.take n)).length = 5 * n := by rw [flat_len, List.length_take]; omega
    have e2 := congrArg (List.take (5 * n)) e
    rw [List.take_left' hl] at e2
    exact e2
  · rw [List.take_of_length_le (by omega), List.take_of_length_le (by rw [flat_len]; omega)]
theorem flat_drop (l : List Ce) (n : Nat) : flat (l.drop n) = (flat l).drop (5 * n) := by
  by_cases h : n ≤ l.length
  · have e := congrArg flat (List.take_append_drop n l)
    rw [flat_app] at e
    have hl : (flat (l.take n)).length = 5 * n := by rw [flat_len, List.length_take]; omega
    have e2 := congrArg (List.drop (5 * n)) e
    rw [List.drop_left' hl] at e2
    exact e2
  · rw [List.drop_of_length_le (by omega), List.drop_of_length_le (by rw [flat_len]; omega)]
    rfl

/-- Values of one cell each, in place of as many others. -/
def splice (xs : List Value) (o : Nat) (vs : List Value) : List Value := xs.take o ++ vs ++ xs.drop (o + vs.length)
theorem splice_len {xs vs : List Value} {o : Nat} (h : o + vs.length ≤ xs.length) : (splice xs o vs).length = xs.length := by
  unfold splice; simp only [List.length_append, List.length_take, List.length_drop]; omega
theorem splice_nil (xs : List Value) (o : Nat) : splice xs o [] = xs := by unfold splice; simp
theorem splice_cons {xs : List Value} {o : Nat} (v : Value) (vs : List Value) (h : o + (vs.length + 1) ≤ xs.length) : splice (xs.set o v) (o + 1) vs = splice xs o (v :: vs) := by
  unfold splice
  rw [List.length_cons, List.take_set, List.drop_set_of_lt (by omega), List.take_succ_eq_append_getElem (by omega), List.set_append_right _ _ (by rw [List.length_take]; omega)]
  rw [List.length_take, Nat.min_eq_left (by omega), Nat.sub_self]
  simp only [List.set_cons_zero, List.append_assoc, List.cons_append, List.nil_append]
  rw [show o + 1 + vs.length = o + (vs.length + 1) by omega]
theorem splice_flat {l : List Ce} {i : Nat} (c : Ce) (tail : List Value) (h : i < l.length) : splice (flat l ++ tail) (5 * i) (ceL c) = flat (l.set i c) ++ tail := by
  have hs : l.set i c = l.take i ++ c :: l.drop (i + 1) := by rw [List.set_eq_take_append_cons_drop, if_pos h]
  have hf := flat_len l
  rw [hs, flat_app, flat_cons, flat_take, flat_drop]
  unfold splice
  rw [ceL_len, List.take_append_of_le_length (by omega), List.drop_append_of_le_length (by omega), show 5 * (i + 1) = 5 * i + 5 by omega]
  simp only [List.append_assoc]

/-! ### A block that is known whole -/
def BL (w : World) (b : Nat) (t : TypeId) (xs : List Value) : Prop := w.heap[b]? = some (.cells xs.toArray t (0, 0))
section
variable {w w' : World} {b : Nat} {t : TypeId} {xs : List Value}
theorem BL.lt (h : BL w b t xs) : b < w.heap.size := by
  rcases Nat.lt_or_ge b w.heap.size with hlt | hge
  · exact hlt
  · unfold BL at h; rw [Array.getElem?_eq_none hge] at h; cases h
theorem BL.cell (h : BL w b t xs) (i : Nat) : w.cell? ⟨b, i, none⟩ = xs[i]? := by
  have := cell_of_row w b i xs.toArray t (0, 0) h
  simpa using this
theorem BL.frozen (h : BL w b t xs) (i : Nat) : w.frozen? ⟨b, i, none⟩ = false := by
  unfold BL at h
  simp [World.frozen?, h]
theorem BL.new (w : World) (t : TypeId) (xs : List Value) : BL (w.alloc (.cells xs.toArray t)) w.heap.size t xs := heap_alloc_new w _
theorem BL.keep (h : BL w b t xs) (e : w'.heap[b]? = w.heap[b]?) : BL w' b t xs := e.trans h
theorem BL.alloc (h : BL w b t xs) (o : Obj) : BL (w.alloc o) b t xs := (Below.heap_alloc w o b h.lt).trans h
theorem BL.drew (h : BL w b t xs) : BL w.drew b t xs := h
theorem BL.set_ (h : BL w b t xs) (i : Nat) (u : Value) : BL (w.setCell ⟨b, i, none⟩ u) b t (xs.set i u) := by
  unfold BL at h ⊢
  simp [World.setCell, Array.getElem?_modify, h]
theorem BL.range (h : BL w b t xs) {o : Nat} {vs : List Value} (hv : ∀ j v, vs[j]? = some v → xs[o + j]? = some v) : w.rangeAt b o vs := fun j v hj => by
  rw [h.cell]; exact hv j v hj
theorem BL.there (h : BL w b t xs) {o n : Nat} (hn : o + n ≤ xs.length) : w.there b o n := fun j hj => by
  refine ⟨?_, h.frozen _⟩
  rw [h.cell, List.getElem?_eq_getElem (by omega)]
  rfl
end
theorem BL.setCells {b : Nat} {t : TypeId} : ∀ (vs : List Value) {w : World} {xs : List Value} (o : Nat), BL w b t xs → o + vs.length ≤ xs.length → BL (w.setCells b o vs) b t (splice xs o vs)
  | [], w, xs, o, h, _ => by rw [splice_nil]; exact h
  | v :: vs, w, xs, o, h, hl => by
    rw [World.setCells]
    rw [List.length_cons] at hl
    have := BL.setCells vs (o + 1) (h.set_ o v) (by rw [List.length_set]; omega)
    rwa [splice_cons v vs (by omega)] at this

/-! ### What a call may turn -/
/-- No block but those of F has turned; none has gone; the streams are as they were. -/
structure Only (F : List Nat) (w w' : World) : Prop where
  os : w'.os = w.os
  tape : w'.tape = w.tape
  output : w'.output = w.output
  size : w.heap.size ≤ w'.heap.size
  block : ∀ k, k < w.heap.size → k ∉ F → w'.heap[k]? = w.heap[k]?
theorem Only.refl (F : List Nat) (w : World) : Only F w w := ⟨rfl, rfl, rfl, Nat.le_refl _, fun _ _ _ => rfl⟩
theorem Only.trans {F : List Nat} {a b c : World} (h : Only F a b) (k : Only F b c) : Only F a c :=
  ⟨k.os.trans h.os, k.tape.trans h.tape, k.output.trans h.output, Nat.le_trans h.size k.size, fun i hi hn => (k.block i (Nat.lt_of_lt_of_le hi h.size) hn).trans (h.block i hi hn)⟩
/-- Behind a call that may turn other blocks, those that were not there yet among them. -/
theorem Only.trans2 {F G : List Nat} {a b c : World} (h : Only F a b) (k : Only G b c) (hG : ∀ x ∈ G, x ∈ F ∨ a.heap.size ≤ x) : Only F a c :=
  ⟨k.os.trans h.os, k.tape.trans h.tape, k.output.trans h.output, Nat.le_trans h.size k.size, fun i hi hn => (k.block i (Nat.lt_of_lt_of_le hi h.size) (fun hg => by rcases hG i hg with x | x; exact hn x; omega)).trans (h.block i hi hn)⟩
theorem Only.mono {F G : List Nat} {a b : World} (h : Only F a b) (hG : ∀ x ∈ F, x ∈ G) : Only G a b := ⟨h.os, h.tape, h.output, h.size, fun k hk hn => h.block k hk (fun x => hn (hG k x))⟩
theorem Only.alloc {F : List Nat} {a w : World} (h : Only F a w) (o : Obj) : Only F a (w.alloc o) :=
  h.trans ⟨rfl, rfl, rfl, by simp, fun k hk _ => Below.heap_alloc _ _ _ hk⟩
theorem Only.drew {F : List Nat} {a w : World} (h : Only F a w) : Only F a w.drew := ⟨h.os, h.tape, h.output, h.size, h.block⟩
theorem setCells_far (b : Nat) : ∀ (vs : List Value) (o : Nat) (w : World), (w.setCells b o vs).heap.size = w.heap.size ∧ (w.setCells b o vs).os = w.os ∧ (w.setCells b o vs).tape = w.tape ∧ (w.setCells b o vs).output = w.output ∧ ∀ k, k ≠ b → (w.setCells b o vs).heap[k]? = w.heap[k]?
  | [], o, w => ⟨rfl, rfl, rfl, rfl, fun _ _ => rfl⟩
  | v :: vs, o, w => by
    rw [World.setCells]
    obtain ⟨h1, h2, h3, h4, h5⟩ := setCells_far b vs (o + 1) (w.setCell ⟨b, o, none⟩ v)
    exact ⟨by rw [h1]; simp [World.setCell], h2, h3, h4, fun k hk => by rw [h5 k hk]; exact Below.heap_setCell w ⟨b, o, none⟩ v k hk⟩
theorem Only.setCells {F : List Nat} {a w : World} (h : Only F a w) (b o : Nat) (vs : List Value) (hb : b ∈ F ∨ a.heap.size ≤ b) : Only F a (w.setCells b o vs) := by
  obtain ⟨h1, h2, h3, h4, h5⟩ := setCells_far b vs o w
  exact ⟨h2.trans h.os, h3.trans h.tape, h4.trans h.output, by rw [h1]; exact h.size, fun k hk hn => by
    rw [h5 k (fun e => by subst e; rcases hb with x | x; exact hn x; omega)]; exact h.block k hk hn⟩
theorem Only.setCell {F : List Nat} {a w : World} (h : Only F a w) {p : Addr} (hb : p.block ∈ F ∨ a.heap.size ≤ p.block) (u : Value) : Only F a (w.setCell p u) :=
  ⟨h.os, h.tape, h.output, by simp [World.setCell]; exact h.size, fun k hk hn => by
    rw [Below.heap_setCell w p u k (fun e => by subst e; rcases hb with x | x; exact hn x; omega)]; exact h.block k hk hn⟩
/-- A call that only makes new blocks. -/
theorem Only.of_below {F : List Nat} {a b : World} (h : Below a.heap.size a b) : Only F a b := ⟨h.os, h.tape, h.output, h.size, fun k hk _ => h.block k hk⟩
theorem Only.below {F : List Nat} {B : Nat} {a b : World} (h : Only F a b) (hB : B ≤ a.heap.size) (hF : ∀ x ∈ F, B ≤ x) : Below B a b := ⟨h.os, h.tape, h.output, h.size, fun k hk => h.block k (by omega) (fun x => by have := hF k x; omega)⟩
theorem Only.nil_below {a b : World} (h : Only [] a b) : Below a.heap.size a b := h.below (Nat.le_refl _) (fun _ h => by cases h)
theorem BL.only {w w' : World} {b : Nat} {t : TypeId} {xs : List Value} {F : List Nat} (h : BL w b t xs) (ho : Only F w w') (hb : b ∉ F) : BL w' b t xs := h.keep (ho.block b h.lt hb)

/-! ### Rows of cells -/
abbrev slV (b o n c : Nat) : Value := .slice (some ⟨b, o, none⟩) n c
/-- The cells of a row, and what room lies behind them, are block b. -/
def CellsAt (w : World) (b : Nat) (l : List Ce) (cap : Nat) : Prop := l.length ≤ cap ∧ ∃ tail, tail.length = 5 * (cap - l.length) ∧ BL w b 81 (flat l ++ tail)
theorem CellsAt.lt {w : World} {b cap : Nat} {l : List Ce} (h : CellsAt w b l cap) : b < w.heap.size := by obtain ⟨_, _, _, h⟩ := h; exact h.lt
theorem CellsAt.only {w w' : World} {b cap : Nat} {l : List Ce} {F : List Nat} (h : CellsAt w b l cap) (ho : Only F w w') (hb : b ∉ F) : CellsAt w' b l cap := by
  obtain ⟨h1, tail, h2, h3⟩ := h
  exact ⟨h1, tail, h2, h3.only ho hb⟩
theorem CellsAt.alloc {w : World} {b cap : Nat} {l : List Ce} (h : CellsAt w b l cap) (o : Obj) : CellsAt (w.alloc o) b l cap := by
  obtain ⟨h1, tail, h2, h3⟩ := h
  exact ⟨h1, tail, h2, h3.alloc o⟩
theorem flat_at {l : List Ce} {i : Nat} (h : i < l.length) (tail : List Value) (j : Nat) (hj : j < 5) : (flat l ++ tail)[5 * i + j]? = (ceL l[i])[j]? := by
  have hf := flat_len l
  rw [List.getElem?_append_left (by omega)]
  have e : flat l = flat (l.take i) ++ (ceL l[i] ++ flat (l.drop (i + 1))) := by
    rw [← flat_cons, ← flat_app, ← List.drop_eq_getElem_cons h, List.take_append_drop]
  have hl : (flat (l.take i)).length = 5 * i := by rw [flat_len, List.length_take]; omega
  rw [e, List.getElem?_append_right (by omega), hl, show 5 * i + j - 5 * i = j by omega, List.getElem?_append_left (by rw [ceL_len]; exact hj)]
theorem CellsAt.range {w : World} {b cap : Nat} {l : List Ce} (h : CellsAt w b l cap) {i : Nat} (hi : i < l.length) : w.rangeAt b (5 * i) (ceL l[i]) := by
  obtain ⟨_, tail, _, h3⟩ := h
  refine h3.range fun j v hj => ?_
  have h5 : j < 5 := by rw [← ceL_len l[i]]; exact (List.getElem?_eq_some_iff.1 hj).1
  rw [flat_at hi tail j h5]; exact hj
theorem CellsAt.look {w : World} {b cap : Nat} {l : List Ce} (h : CellsAt w b l cap) {i : Nat} (hi : i < l.length) : w.rangeAt b (5 * i + 2) (stL l[i].2.2) := by
  obtain ⟨_, tail, _, h3⟩ := h
  refine h3.range fun j v hj => ?_
  have h5 : j < 3 := by rw [show 3 = (stL l[i].2.2).length from rfl]; exact (List.getElem?_eq_some_iff.1 hj).1
  rw [Nat.add_assoc, flat_at hi tail (2 + j) (by omega), ← hj]
  unfold ceL
  rw [show 2 + j = j + 1 + 1 by omega, List.getElem?_cons_succ, List.getElem?_cons_succ]
theorem CellsAt.there {w : World} {b cap : Nat} {l : List Ce} (h : CellsAt w b l cap) {i : Nat} (hi : i < l.length) : w.there b (5 * i) 5 := by
  obtain ⟨_, tail, _, h3⟩ := h
  exact h3.there (by rw [List.length_append, flat_len]; omega)
theorem CellsAt.set {w : World} {b cap : Nat} {l : List Ce} (h : CellsAt w b l cap) {i : Nat} (hi : i < l.length) (c : Ce) : CellsAt (w.setCells b (5 * i) (ceL c)) b (l.set i c) cap := by
  obtain ⟨h1, tail, h2, h3⟩ := h
  refine ⟨by rw [List.length_set]; exact h1, tail, by rw [List.length_set]; exact h2, ?_⟩
  have := h3.setCells (ceL c) (5 * i) (by rw [List.length_append, flat_len, ceL_len]; omega)
  rwa [splice_flat c tail hi] at this
end Go.Proofs.YtjklnnklgkihlaaGreatDoor.Grd
/- Blanks, paddings; a part of a row made blank. -/
namespace Go.Proofs.YtjklnnklgkihlaaGreatDoor.Grd
open Go.RowKit

def stV (s : St) : Value := .agg #[.int .i64 s.1, .int .i64 s.2.1, .int .i64 s.2.2]
def ceV (c : Ce) : Value := .agg #[.int .i32 c.1, .int .i64 c.2.1, .int .i64 c.2.2.1, .int .i64 c.2.2.2.1, .int .i64 c.2.2.2.2]
theorem size_alloc (w : World) (o : Obj) : (w.alloc o).heap.size = w.heap.size + 1 := by simp
/-- A result that lies in memory. -/
theorem results_cell {P : Program} {fn : Func} {p : Tmp} {ty : TypeId} (h : fn.results = #[.cell p ty]) (tmps : Array Value) (w : World) (g : Nat) (t : TypeId) (cs : Array Value) (fr : Nat × Nat) (d : TypeDesc)
    (hp : tmps.getD p undef = .pointer (some ⟨g, 0, none⟩)) (hg : w.heap[g]? = some (.cells cs t fr))
    (hu : P.underlying ty = some d) (hd : (match d with | .struct _ | .array _ _ => true | _ => false) = true) (hi : (P.info? ty).map (·.size) = some cs.size) :
    (results fn tmps).run P w = .ok (.agg cs) w := by
  have hp' : tmps[p]?.getD undef = .pointer (some ⟨g, 0, none⟩) := by simpa using hp
  simp [results, h, hp', asAddr, run_loadVar_row w g t ty cs fr d hg hu hd hi]
theorem results_none {P : Program} {fn : Func} (h : fn.results = #[]) (tmps : Array Value) (w : World) : (results fn tmps).run P w = .ok (.tuple #[]) w := by
  simp [results, h]
/-- A function without results that comes to its end. -/
theorem body_end {P : Program} {fn : Func} {R : Ending → World → Prop} {a : Act} {w : World} (h : fn.results = #[]) (hd : a.defers = []) (hR : R (.returned (.tuple #[])) w) : bodyPost P fn R .normal a w :=
  ⟨hd, _, results_none h _ _, hR⟩

set_option maxRecDepth 100000 in
theorem blank_any (fg bg at_ : Int) (w : World) :
    Calls Tryz.prog 156 #[.agg #[.int .i64 fg, .int .i64 bg, .int .i64 at_]] w fun e w' => e = .returned (.agg #[.int .i32 32, .int .i64 1, .int .i64 fg, .int .i64 bg, .int .i64 at_]) ∧ Below w.heap.size w w' := by
  have hA : BL ((w.alloc (.cells #[.int .i64 fg, .int .i64 bg, .int .i64 at_] 23)).alloc (.cells #[.int .i32 0, .int .i64 0, .int .i64 0, .int .i64 0, .int .i64 0] 81)) w.heap.size 23 [.int .i64 fg, .int .i64 bg, .int .i64 at_] := (BL.new w 23 [.int .i64 fg, .int .i64 bg, .int .i64 at_]).alloc _
  have hb : Below w.heap.size w ((w.alloc (.cells #[.int .i64 fg, .int .i64 bg, .int .i64 at_] 23)).alloc (.cells #[.int .i32 32, .int .i64 1, .int .i64 fg, .int .i64 bg, .int .i64 at_] 81)) := ((Below.refl _ _).alloc (Nat.le_refl _) _).alloc (by simp) _
  go_enter Tryz.func156, Tryz.ntmps156
  go_wp2_with (refine wpList_load_row rfl 23 _ rfl w.heap.size rfl _ _ _ _ hA Tryz.underlying23 rfl (by kernel_rfl) ?_)
  exact bodyPost_ret (v := .agg #[.int .i32 32, .int .i64 1, .int .i64 fg, .int .i64 bg, .int .i64 at_]) (results_cell (p := 2) (by kernel_rfl) _ _ (w.heap.size + 1) _ _ _ _ rfl (by have := BL.new (w.alloc (.cells #[.int .i64 fg, .int .i64 bg, .int .i64 at_] 23)) 81 [.int .i32 32, .int .i64 1, .int .i64 fg, .int .i64 bg, .int .i64 at_]; rw [size_alloc] at this; exact this) Tryz.underlying81 rfl (by kernel_rfl)) rfl ⟨rfl, hb⟩

set_option maxRecDepth 100000 in
theorem padding_any (fg bg at_ : Int) (w : World) :
    Calls Tryz.prog 121 #[.agg #[.int .i64 fg, .int .i64 bg, .int .i64 at_]] w fun e w' => e = .returned (.agg #[.int .i32 0, .int .i64 0, .int .i64 fg, .int .i64 bg, .int .i64 at_]) ∧ Below w.heap.size w w' := by
  have hA : BL ((w.alloc (.cells #[.int .i64 fg, .int .i64 bg, .int .i64 at_] 23)).alloc (.cells #[.int .i32 0, .int .i64 0, .int .i64 0, .int .i64 0, .int .i64 0] 81)) w.heap.size 23 [.int .i64 fg, .int .i64 bg, .int .i64 at_] := (BL.new w 23 [.int .i64 fg, .int .i64 bg, .int .i64 at_]).alloc _
  have hb : Below w.heap.size w ((w.alloc (.cells #[.int .i64 fg, .int .i64 bg, .int .i64 at_] 23)).alloc (.cells #[.int .i32 0, .int .i64 0, .int .i64 fg, .int .i64 bg, .int .i64 at_] 81)) := ((Below.refl _ _).alloc (Nat.le_refl _) _).alloc (by simp) _
  go_enter Tryz.func121, Tryz.ntmps121
  go_wp2_with (refine wpList_load_row rfl 23 _ rfl w.heap.size rfl _ _ _ _ hA Tryz.underlying23 rfl (by kernel_rfl) ?_)
  exact bodyPost_ret (v := .agg #[.int .i32 0, .int .i64 0, .int .i64 fg, .int .i64 bg, .int .i64 at_]) (results_cell (p := 2) (by kernel_rfl) _ _ (w.heap.size + 1) _ _ _ _ rfl (by have := BL.new (w.alloc (.cells #[.int .i64 fg, .int .i64 bg, .int .i64 at_] 23)) 81 [.int .i32 0, .int .i64 0, .int .i64 fg, .int .i64 bg, .int .i64 at_]; rw [size_alloc] at this; exact this) Tryz.underlying81 rfl (by kernel_rfl)) rfl ⟨rfl, hb⟩

set_option maxRecDepth 100000 in
theorem isPadding_any (r wd fg bg at_ : Int) (w : World) :
    Calls Tryz.prog 32 #[.agg #[.int .i32 r, .int .i64 wd, .int .i64 fg, .int .i64 bg, .int .i64 at_]] w fun e w' => e = .returned (.bool (wd == 0)) ∧ Below w.heap.size w w' := by
  have hA := BL.new w 81 [.int .i32 r, .int .i64 wd, .int .i64 fg, .int .i64 bg, .int .i64 at_]
  have hc := hA.cell 1
  have hb : Below w.heap.size w (w.alloc (.cells #[.int .i32 r, .int .i64 wd, .int .i64 fg, .int .i64 bg, .int .i64 at_] 81)) := (Below.refl _ _).alloc (Nat.le_refl _) _
  go_enter Tryz.func32, Tryz.ntmps32
  go_wp2_with fail
  go_ret
  exact ⟨rfl, hb⟩

section
variable {ops : Array Oper} {rest : List Oper} {op : Oper} {a : Act} {w : World} {Q : Exit → Act → World → Prop}
/-- What a step that writes to block b keeps. -/
def Wrote (b : Nat) (w w1 : World) : Prop := w1.heap.size = w.heap.size ∧ ∀ F a, Only F a w → (b ∈ F ∨ a.heap.size ≤ b) → Only F a w1
theorem Wrote.setCells (b o : Nat) (vs : List Value) (w : World) : Wrote b w (w.setCells b o vs) := ⟨(setCells_far b vs o w).1, fun _ _ h hb => h.setCells b o vs hb⟩
theorem Wrote.only {b : Nat} {w w1 : World} (h : Wrote b w w1) : Only [b] w w1 := h.2 _ _ (Only.refl _ _) (.inl (by simp))
/-- A store of a cell into a row. -/
theorem wpList_store_cell (hgd : op.guard = none) (x y : Operand) (ho : op.op = .store 81 x y) (b o i cap : Nat) (r wd s1 s2 s3 : Int) (l : List Ce)
    (hx : a.eval x = .pointer (some ⟨b, o, none⟩)) (hy : a.eval y = .agg #[.int .i32 r, .int .i64 wd, .int .i64 s1, .int .i64 s2, .int .i64 s3]) (hc : CellsAt w b l cap) (hi : i < l.length) (hoi : o = 5 * i)
    (h : ∀ w1, CellsAt w1 b (l.set i (r, wd, s1, s2, s3)) cap → Wrote b w w1 → wpList Tryz.prog ops Q rest (a.put op.dst undef) w1) : wpList Tryz.prog ops Q (op :: rest) a w := by
  subst hoi
  refine wpList_store_mid hgd 81 x y ho b (5 * i) _ hx hy (hc.there hi) (by kernel_rfl) (by kernel_rfl) ?_
  exact h _ (hc.set hi (r, wd, s1, s2, s3)) (Wrote.setCells _ _ _ _)
/-- A load of a cell out of a row. -/
theorem wpList_load_cell (hgd : op.guard = none) (x : Operand) (ho : op.op = .load 81 x) (b o i cap : Nat) (l : List Ce) (hx : a.eval x = .pointer (some ⟨b, o, none⟩)) (hc : CellsAt w b l cap) (hi : i < l.length) (hoi : o = 5 * i)
    (h : wpList Tryz.prog ops Q rest (a.put op.dst (.agg #[.int .i32 l[i].1, .int .i64 l[i].2.1, .int .i64 l[i].2.2.1, .int .i64 l[i].2.2.2.1, .int .i64 l[i].2.2.2.2])) w) : wpList Tryz.prog ops Q (op :: rest) a w := by
  subst hoi
  exact wpList_load_mid hgd 81 x ho b (5 * i) hx _ _ (hc.range hi) Tryz.underlying81 rfl (by kernel_rfl) h
/-- A load of a cell's look. -/
theorem wpList_load_look (hgd : op.guard = none) (x : Operand) (ho : op.op = .load 23 x) (b o i cap : Nat) (l : List Ce) (hx : a.eval x = .pointer (some ⟨b, o, none⟩)) (hc : CellsAt w b l cap) (hi : i < l.length) (hoi : o = 5 * i + 2)
    (h : wpList Tryz.prog ops Q rest (a.put op.dst (.agg #[.int .i64 l[i].2.2.1, .int .i64 l[i].2.2.2.1, .int .i64 l[i].2.2.2.2])) w) : wpList Tryz.prog ops Q (op :: rest) a w := by
  subst hoi
  exact wpList_load_mid hgd 23 x ho b (5 * i + 2) hx _ _ (hc.look hi) Tryz.underlying23 rfl (by kernel_rfl) h
end

/-- Part of a row made blank: from a on, n columns. -/
def fillR (l : List Ce) (a n : Nat) (s : St) : List Ce := l.take a ++ List.replicate n (32, 1, s) ++ l.drop (a + n)
theorem fillR_len {l : List Ce} {a n : Nat} (h : a + n ≤ l.length) (s : St) : (fillR l a n s).length = l.length := by
  unfold fillR; simp only [List.length_append, List.length_take, List.length_drop, List.length_replicate]; omega
theorem fillR_zero (l : List Ce) (a : Nat) (s : St) : fillR l a 0 s = l := by unfold fillR; simp
theorem fillR_succ {l : List Ce} {a n : Nat} (h : a + n < l.length) (s : St) : (fillR l a n s).set (a + n) (32, 1, s) = fillR l a (n + 1) s := by
  unfold fillR
  rw [List.set_append_right _ _ (by simp; omega)]
  have e : a + n - (l.take a ++ List.replicate n ((32, 1, s) : Ce)).length = 0 := by simp; omega
  rw [e, List.drop_eq_getElem_cons (by omega : a + n < l.length), List.set_cons_zero, List.replicate_succ', Nat.add_assoc]
  simp only [List.append_assoc, List.cons_append, List.nil_append]

set_option maxRecDepth 100000 in
set_option maxHeartbeats 1000000 in
theorem fill_any (b cap a n c : Nat) (l : List Ce) (fg bg at_ : Int) (w : World) (h : CellsAt w b l cap) (hn : a + n ≤ l.length) (hl : l.length ≤ 1000000) :
    Calls Tryz.prog 118 #[slV b (5 * a) n c, .agg #[.int .i64 fg, .int .i64 bg, .int .i64 at_]] w fun e w' => e = .returned (.tuple #[]) ∧ CellsAt w' b (fillR l a n (fg, bg, at_)) cap ∧ Only [b] w w' := by
  unfold slV
  have hbl := h.lt
  have hA := BL.new w 23 [.int .i64 fg, .int .i64 bg, .int .i64 at_]
  have h0 := h.alloc (.cells #[.int .i64 fg, .int .i64 bg, .int .i64 at_] 23)
  have ho : Only [b] w (w.alloc (.cells #[.int .i64 fg, .int .i64 bg, .int .i64 at_] 23)) := (Only.refl _ _).alloc _
  go_enter Tryz.func118, Tryz.ntmps118
  go_wp2_with fail
  go_loopw [4, 7] (fun _ i wr => ∃ k : Nat, k ≤ n ∧ i = .int .i64 (k : Int) ∧ CellsAt wr b (fillR l a k (fg, bg, at_)) cap ∧ BL wr w.heap.size 23 [.int .i64 fg, .int .i64 bg, .int .i64 at_] ∧ Only [b] w wr) (fun _ i _ => n - (intOf i).toNat)
  case atStart => exact ⟨0, Nat.zero_le _, rfl, by rw [fillR_zero]; exact h0, hA, ho⟩
  case round =>
    obtain ⟨k, hk, rfl, hc, hA, ho⟩ := hrel
    clear h h0
    by_cases hlt : k < n
    · have hAl := hA.lt
      have hcl := hc.lt
      have hlen := fillR_len (l := l) (a := a) (n := k) (by omega) (fg, bg, at_)
      have hst := fillR_succ (l := l) (a := a) (n := k) (by omega) (fg, bg, at_)
      go_wp2_with (first
        | (refine wpList_load_row rfl 23 _ rfl w.heap.size rfl _ _ _ _ hA Tryz.underlying23 rfl (by kernel_rfl) ?_)
        | (go_at_call 156; refine (blank_any _ _ _ _).mono ?_; rintro _ w1 ⟨rfl, hb1⟩; have ho1 := ho.trans (Only.of_below hb1); have hc1 := hc.only (F := []) (Only.of_below hb1) (by simp); have hA1 := hA.only (F := []) (Only.of_below hb1) (by simp))
        | (refine wpList_store_cell rfl (.tmp 14) (.tmp 13) rfl b _ (a + k) cap _ _ _ _ _ _ rfl rfl hc1 (by omega) (by omega) ?_; intro w2 hc2 hw2))
      rw [hst] at hc2
      go_roundw
      case rel => exact ⟨k + 1, by omega, by go_num, hc2, hA1.only hw2.only (by simp; omega), hw2.2 _ _ ho1 (.inl (by simp))⟩
      case measure => simp [intOf]; omega
    · obtain rfl : k = n := by omega
      go_wp2_with fail
      exact body_end rfl rfl ⟨rfl, hc, ho⟩
end Go.Proofs.YtjklnnklgkihlaaGreatDoor.Grd
/- A cut at a column of a row. -/
namespace Go.Proofs.YtjklnnklgkihlaaGreatDoor.Grd
open Go.RowKit

/-- A row with a cut at column x. -/
def cutL (l : List Ce) (x : Nat) : List Ce :=
  if 1 ≤ x ∧ x < l.length ∧ (l.getD x default).2.1 = 0 then fillR l (x - 1) 2 (l.getD x default).2.2 else l
theorem cutL_len (l : List Ce) (x : Nat) : (cutL l x).length = l.length := by
  unfold cutL
  split
  · exact fillR_len (by omega) _
  · rfl
/-- The five values of a cell, at its place. -/
theorem CellsAt.five {w : World} {b cap : Nat} {l : List Ce} (h : CellsAt w b l cap) {i : Nat} (hi : i < l.length) :
    w.cell? ⟨b, i * 5, none⟩ = some (.int .i32 l[i].1) ∧ w.cell? ⟨b, i * 5 + 1, none⟩ = some (.int .i64 l[i].2.1) ∧ w.cell? ⟨b, i * 5 + 2, none⟩ = some (.int .i64 l[i].2.2.1) ∧ w.cell? ⟨b, i * 5 + 3, none⟩ = some (.int .i64 l[i].2.2.2.1) ∧ w.cell? ⟨b, i * 5 + 4, none⟩ = some (.int .i64 l[i].2.2.2.2) := by
  have hr := h.range hi
  rw [Nat.mul_comm 5 i] at hr
  exact ⟨hr 0 _ rfl, hr 1 _ rfl, hr 2 _ rfl, hr 3 _ rfl, hr 4 _ rfl⟩

set_option maxRecDepth 100000 in
set_option maxHeartbeats 1000000 in
theorem cut_any (b cap c x : Nat) (l : List Ce) (w : World) (h : CellsAt w b l cap) (hl : l.length ≤ 1000000) (hc : l.length ≤ c) (hx : x ≤ 1000000) :
    Calls Tryz.prog 117 #[slV b 0 l.length c, .int .i64 (x : Int)] w fun e w' => e = .returned (.tuple #[]) ∧ CellsAt w' b (cutL l x) cap ∧ Only [b] w w' := by
  unfold slV
  by_cases hx1 : 1 ≤ x ∧ x < l.length
  · obtain ⟨hx0, hx1⟩ := hx1
    obtain ⟨y, rfl⟩ : ∃ y, x = y + 1 := ⟨x - 1, by omega⟩
    have hyc : y + 2 ≤ c := by omega
    have hyc2 : y + 1 + 1 ≤ c := by omega
    obtain ⟨f0, f1, f2, f3, f4⟩ := h.five hx1
    have hg : l.getD (y + 1) default = l[y + 1] := by simp [hx1]
    have hCUT : Hid (cutL l (y + 1) = if l[y + 1].2.1 = 0 then fillR l y 2 l[y + 1].2.2 else l) := by
      show _ = _
      unfold cutL
      rw [hg]
      by_cases h0 : l[y + 1].2.1 = 0
      · rw [if_pos ⟨hx0, hx1, h0⟩, if_pos h0]; rfl
      · rw [if_neg (fun e => h0 e.2.2), if_neg h0]
    have hlk := h.look hx1
    obtain ⟨⟨r, wd, s1, s2, s3⟩, hq⟩ : ∃ q, l[y + 1] = q := ⟨_, rfl⟩
    rw [hq] at f0 f1 f2 f3 f4 hCUT hlk
    clear hg
    simp only at f0 f1 f2 f3 f4 hCUT hlk
    have hip := fun w => isPadding_any r wd s1 s2 s3 w
    by_cases h0 : wd = 0
    · subst h0
      have hbq : ((0 : Int) == 0) = true := rfl
      rw [hbq] at hip
      rw [if_pos rfl] at hCUT
      clear hbq
      go_enter Tryz.func117, Tryz.ntmps117
      go_wp2_with (go_at_call 32; refine (hip _).mono ?_; rintro _ w1 ⟨rfl, hb1⟩; have h1 := h.only (F := []) (Only.of_below hb1) (by simp))
      have g := h1.five hx1
      rw [hq] at g
      obtain ⟨g0, g1, g2, g3, g4⟩ := g
      simp only at g2 g3 g4
      clear f0 f1 f2 f3 f4 hip hlk g0 g1
      have hs : Only [b] w w1 := Only.of_below hb1
      have hfill := fun w h => fill_any b cap y 2 (c - y) l s1 s2 s3 w h (by omega) hl
      unfold slV at hfill
      have i0 : (0 : Int) ≤ (y : Int) := Int.natCast_nonneg _
      have i1 : (y : Int) ≤ (y : Int) + 1 + 1 := by omega
      have i2 : (y : Int) + 1 + 1 ≤ (c : Int) := by omega
      have j2 : IntKind.i64.wrap (y : Int) = (y : Int) := IntWalk.i64_in _ ⟨by omega, by omega⟩
      have i00 : (0 : Int) ≤ (y : Int) + 1 + 1 := by omega
      have j1 : IntKind.i64.wrap ((y : Int) + 1 + 1) = (y : Int) + 1 + 1 := IntWalk.i64_in _ ⟨by omega, by omega⟩
      have m1 : max ((y : Int) + 1 + 1) 0 = (y : Int) + 1 + 1 := by omega
      have t1 : ((y : Int) + 1 + 1).toNat - y = 2 := by omega
      have cy : ¬ c = y := by omega
      rw [Nat.mul_comm 5 y] at hfill
      have h1d : CellsAt w1.drew b l cap := h1
      have hsd : Only [b] w w1.drew := hs.drew
      go_region_with (go_at_call 118; refine (hfill _ h1d).mono ?_; rintro _ w2 ⟨rfl, hc2, ho2⟩)
      exact body_end rfl rfl ⟨rfl, by rw [hCUT.out]; exact hc2, hsd.trans ho2⟩
    · have hbq : (wd == 0) = false := by simpa using h0
      rw [hbq] at hip
      rw [if_neg h0] at hCUT
      clear hbq h0
      go_enter Tryz.func117, Tryz.ntmps117
      go_wp2_with (go_at_call 32; refine (hip _).mono ?_; rintro _ w1 ⟨rfl, hb1⟩; have h1 := h.only (F := []) (Only.of_below hb1) (by simp))
      exact bodyPost_ret (results_none rfl _ _) rfl ⟨rfl, by rw [hCUT.out]; exact h1, Only.of_below hb1⟩
  · have hCUT : Hid (cutL l x = l) := by
      show _ = _
      unfold cutL
      rw [if_neg (fun e => hx1 ⟨e.1, e.2.1⟩)]
    by_cases hx0 : x < 1
    · clear hx1
      go_enter Tryz.func117, Tryz.ntmps117
      go_wp2_with fail
      exact bodyPost_ret (results_none rfl _ _) rfl ⟨rfl, by rw [hCUT.out]; exact h, Only.refl _ _⟩
    · have hx2 : l.length ≤ x := by omega
      clear hx1
      go_enter Tryz.func117, Tryz.ntmps117
      go_wp2_with fail
      exact bodyPost_ret (results_none rfl _ _) rfl ⟨rfl, by rw [hCUT.out]; exact h, Only.refl _ _⟩
end Go.Proofs.YtjklnnklgkihlaaGreatDoor.Grd
/- Tables of rows: made, copied, laid with blank rows. -/
namespace Go.Proofs.YtjklnnklgkihlaaGreatDoor.Grd
open Go.RowKit

/-- A row as it lies in a table: its cells' block, its room, its cells, whether it is wrapped. -/
structure MR where
  b : Nat
  cap : Nat
  l : List Ce
  wr : Bool
def mrL (m : MR) : List Value := [slV m.b 0 m.l.length m.cap, .bool m.wr]
def rowsL (ms : List MR) : List Value := ms.flatMap mrL
theorem rowsL_len (ms : List MR) : (rowsL ms).length = 2 * ms.length := by
  induction ms with
  | nil => rfl
  | cons m r ih => unfold rowsL at ih ⊢; rw [List.flatMap_cons, List.length_append, ih, List.length_cons]; unfold mrL; simp; omega
theorem rowsL_app (a b : List MR) : rowsL (a ++ b) = rowsL a ++ rowsL b := by unfold rowsL; rw [List.flatMap_append]
theorem rowsL_one (m : MR) : rowsL [m] = mrL m := by unfold rowsL; simp
theorem mrL_len (m : MR) : (mrL m).length = 2 := rfl

section
variable {P : Program}
theorem Wrote.setRow {w : World} {g : Nat} {t : TypeId} {cur : List Value} (_ : BL w g t cur) (cs : Array Value) : Wrote g w (w.setRow g cs) :=
  ⟨by simp [World.setRow], fun F a ha hb => ⟨ha.os, ha.tape, ha.output, by simp [World.setRow]; exact ha.size, fun k hk hn => by
    rw [setRow_other w g k cs (fun e => by subst e; rcases hb with x | x; exact hn x; omega)]; exact ha.block k hk hn⟩⟩
/-- A copy of elements of several values each. -/
theorem run_copy_wide (w : World) (dT sT ty elem : TypeId) (size g o dLen dCap : Nat) (a : Addr) (sLen sCap : Nat) (cur : Array Value) (t : TypeId) (cs : List Value)
    (hu : P.underlying dT = some (.slice elem)) (hs : (P.info? elem).map (·.size) = some size)
    (hg : w.heap[g]? = some (.cells cur t (0, 0))) (hn : cs.length = Nat.min sLen dLen * size)
    (hsrc : ∀ j v, cs[j]? = some v → w.cell? (a.add j) = some v) (hfit : o + cs.length ≤ cur.size) (h1 : ∀ v ∈ cs, v.oneCell' = true) :
    (Builtin.copy_ #[dT, sT] ty #[.slice (some ⟨g, o, none⟩) dLen dCap, .slice (some a) sLen sCap]).run P w =
      .ok (goInt (Nat.min sLen dLen)) (w.setRow g (cur.toList.take o ++ cs ++ cur.toList.drop (o + cs.length)).toArray) := by
  have hl := run_loadCells_list (P := P) w a cs hsrc
  have hst := run_storeCells_at P g o t cs 0 cur w hg (by simpa using hfit) h1
  cases hq : P.info? elem with
  | none => simp [hq] at hs
  | some i =>
    have hi : i.size = size := by simpa [hq] using hs
    simp [Builtin.copy_, run_underlying hu, Builtin.lenOf, Builtin.firstCells, sizeOf, typeInfo, hq, hi, ← hn, hl, hst]
variable {ops : Array Oper} {rest : List Oper} {op : Oper} {a : Act} {w : World} {Q : Exit → Act → World → Prop}
theorem wpList_copy_wide (hgd : op.guard = none) (d s : Operand) (dT sT : TypeId)
    (ho : op.op = .call { callee := .builtin .copy, args := #[d, s], argTypes := #[dT, sT] }) (elem : TypeId) (size : Nat) (hu : P.underlying dT = some (.slice elem)) (hsz : (P.info? elem).map (·.size) = some size)
    (g off dLen dCap : Nat) (ad : Addr) (sLen sCap : Nat) (hd : a.eval d = .slice (some ⟨g, off, none⟩) dLen dCap) (hs : a.eval s = .slice (some ad) sLen sCap)
    (cur : List Value) (t : TypeId) (hg : BL w g t cur) (cs : List Value) (hn : cs.length = Nat.min sLen dLen * size)
    (hsrc : ∀ j v, cs[j]? = some v → w.cell? (ad.add j) = some v) (hfit : off + cs.length ≤ cur.length) (h1 : ∀ v ∈ cs, v.oneCell' = true)
    (h : ∀ w1, BL w1 g t (splice cur off cs) → Wrote g w w1 → wpList P ops Q rest (a.put op.dst (goInt (Nat.min sLen dLen))) w1) : wpList P ops Q (op :: rest) a w := by
  refine wpList_plain hgd fun K hK => ?_
  have hrun := run_copy_wide (P := P) w dT sT op.type elem size g off dLen dCap ad sLen sCap cur.toArray t cs hu hsz hg hn hsrc (by simpa using hfit) h1
  have hw := Wrote.setRow hg (cur.take off ++ cs ++ cur.drop (off + cs.length)).toArray
  have hb : BL (w.setRow g (cur.take off ++ cs ++ cur.drop (off + cs.length)).toArray) g t (splice cur off cs) :=
    setRow_heap w g cur.toArray (cur.take off ++ cs ++ cur.drop (off + cs.length)).toArray t _ hg
  have hk := hK _ _ (h _ hb hw)
  have hrun' : (Builtin.copy_ #[dT, sT] op.type #[.slice (some ⟨g, off, none⟩) dLen dCap, .slice (some ad) sLen sCap]).run P w = .ok (goInt (Nat.min sLen dLen)) (w.setRow g (cur.take off ++ cs ++ cur.drop (off + cs.length)).toArray) := hrun
  generalize w.setRow g (cur.take off ++ cs ++ cur.drop (off + cs.length)).toArray = w2 at hk hrun'
  unfold Oper.wp
  simp [execOp, ho, resolve, invoke, builtin, hd, hs, hrun', Result.andThen]
  exact hk
end

theorem madeCells_rep (z : List Value) (n : Nat) : (madeCells z.toArray (n * z.length)).toList = (List.replicate n z).flatten := by
  induction n with
  | zero => simp [madeCells]
  | succ n ih =>
    rw [List.replicate_succ', List.flatten_append, ← ih]
    unfold madeCells
    rw [Nat.succ_mul]
    apply List.ext_getElem?
    intro j
    simp only [Array.toList_map, List.getElem?_map, List.flatten_cons, List.flatten_nil, List.append_nil, Array.toList_range, List.size_toArray]
    by_cases h : j < n * z.length
    · rw [List.getElem?_append_left (by simpa using h)]
      simp [h, show j < n * z.length + z.length by omega]
    · rw [List.getElem?_append_right (by simpa using h)]
      simp only [List.length_map, List.length_range]
      by_cases h2 : j < n * z.length + z.length
      · have hz : 0 < z.length := by omega
        have e : j % z.length = j - n * z.length := by
          have hj : j = (j - n * z.length) + z.length * n := by rw [Nat.mul_comm z.length n]; omega
          rw [hj, Nat.add_mul_mod_self_left, Nat.mod_eq_of_lt (by omega)]
          rw [Nat.mul_comm z.length n]
          omega
        rw [List.getElem?_range h2]
        simp only [Option.map_some, e]
        rw [List.getElem?_eq_getElem (by omega)]
        simp [show j - n * z.length < z.length by omega]
      · rw [List.getElem?_eq_none (by simp; omega), List.getElem?_eq_none (by omega)]
        rfl
def zeroCe : Ce := (0, 0, 0, 0, 0)
theorem flat_rep (n : Nat) (c : Ce) : flat (List.replicate n c) = (List.replicate n (ceL c)).flatten := by
  unfold flat
  rw [List.flatMap_replicate]
theorem info_cell : (Tryz.prog.info? 81).map (fun i => (i.zero, i.size, i.bytes)) = some (some (.agg #[.int .i32 0, .int .i64 0, .int .i64 0, .int .i64 0, .int .i64 0]), 5, 40) := by kernel_rfl
theorem info_row : (Tryz.prog.info? 78).map (fun i => (i.zero, i.size, i.bytes)) = some (some (.agg #[.slice none 0 0, .bool false]), 2, 32) := by kernel_rfl
section
variable {P : Program} {ops : Array Oper} {rest : List Oper} {op : Oper} {a : Act} {w : World} {Q : Exit → Act → World → Prop}
/-- A store of several values into a block. -/
theorem wpList_store_bl (hgd : op.guard = none) (ty : TypeId) (x y : Operand) (ho : op.op = .store ty x y) (g o : Nat) (vs : List Value) (hx : a.eval x = .pointer (some ⟨g, o, none⟩)) (hy : a.eval y = .agg vs.toArray)
    (t : TypeId) (cur : List Value) (hg : BL w g t cur) (hi : (P.info? ty).map (·.size) = some vs.length) (hfit : o + vs.length ≤ cur.length) (h1 : vs.toArray.all (·.oneCell') = true)
    (h : ∀ w1, BL w1 g t (splice cur o vs) → Wrote g w w1 → wpList P ops Q rest (a.put op.dst undef) w1) : wpList P ops Q (op :: rest) a w := by
  refine wpList_store_mid hgd ty x y ho g o vs.toArray hx hy (hg.there (by simpa using hfit)) (by simpa using hi) h1 ?_
  exact h _ (hg.setCells vs o hfit) (Wrote.setCells _ _ _ _)
/-- A load of several values out of a block. -/
theorem wpList_load_bl (hgd : op.guard = none) (ty : TypeId) (x : Operand) (ho : op.op = .load ty x) (g o : Nat) (vs : List Value) (hx : a.eval x = .pointer (some ⟨g, o, none⟩))
    (t : TypeId) (cur : List Value) (hg : BL w g t cur) (d : TypeDesc) (hu : P.underlying ty = some d) (hd : d.isRow = true) (hi : (P.info? ty).map (·.size) = some vs.length) (hv : ∀ j v, vs[j]? = some v → cur[o + j]? = some v)
    (h : wpList P ops Q rest (a.put op.dst (.agg vs.toArray)) w) : wpList P ops Q (op :: rest) a w :=
  wpList_load_mid hgd ty x ho g o hx vs d (hg.range hv) hu hd hi h
/-- A slice made of zero elements. -/
theorem wpList_make_rep (hgd : op.guard = none) (x y : Operand) (t e : TypeId) (ho : op.op = .makeSlice t x y) (hu : P.underlying t = some (.slice e)) (z : List Value) (size bytes : Nat)
    (hi : (P.info? e).map (fun i => (i.zero, i.size, i.bytes)) = some (some (.agg z.toArray), size, bytes)) (hsz : size = z.length) (n : Nat) (hx : a.eval x = .int .i64 (n : Int)) (hy : a.eval y = .int .i64 (n : Int))
    (hb : bytes * n ≤ 281474976710656) (hn : n ≤ 1000000000)
    (h : ∀ w1, BL w1 w.heap.size e (List.replicate n z).flatten → Below w.heap.size w w1 → w1.heap.size = w.heap.size + 1 → wpList P ops Q rest (a.put op.dst (.slice (some ⟨w.heap.size, 0, none⟩) n n)) w1) : wpList P ops Q (op :: rest) a w := by
  subst hsz
  cases hq : P.info? e with
  | none => simp [hq] at hi
  | some i =>
    simp only [hq, Option.map_some, Option.some.injEq, Prod.mk.injEq] at hi
    obtain ⟨hz, hs, hby⟩ := hi
    refine wpList_plain hgd fun K hK => ?_
    have hrun := run_make (P := P) w t e i _ hu hq hz .i64 .i64 (n : Int) (n : Int) (Int.natCast_nonneg _) (Int.le_refl _) (by rw [hby, ← Int.natCast_mul]; omega) (by omega)
    have hl : (madeCells (Value.cells (.agg z.toArray)) ((n : Int).toNat * i.size)) = (List.replicate n z).flatten.toArray := by
      rw [hs, Int.toNat_natCast]
      have := madeCells_rep z n
      rw [← this]
      rfl
    rw [hl, Int.toNat_natCast] at hrun
    have hk := hK _ _ (h _ (BL.new w e _) ((Below.refl _ _).alloc (Nat.le_refl _) _) (size_alloc _ _))
    generalize w.alloc (.cells (List.replicate n z).flatten.toArray e) = w2 at hk hrun
    unfold Oper.wp
    simp [execOp, ho, hx, hy, hrun, Result.andThen]
    exact hk
end
theorem CellsAt.of_zero {w : World} {g n : Nat} (h : BL w g 81 (List.replicate n [.int .i32 0, .int .i64 0, .int .i64 0, .int .i64 0, .int .i64 0]).flatten) : CellsAt w g (List.replicate n zeroCe) n := by
  refine ⟨by simp, [], by simp, ?_⟩
  rw [flat_rep, List.append_nil]
  exact h
theorem fillR_all (n : Nat) (c : Ce) (s : St) : fillR (List.replicate n c) 0 n s = List.replicate n (32, 1, s) := by
  unfold fillR
  simp

set_option maxRecDepth 100000 in
set_option maxHeartbeats 1000000 in
theorem blankRow_any (n : Nat) (fg bg at_ : Int) (w : World) (hn : n ≤ 1000000) :
    Calls Tryz.prog 148 #[.int .i64 (n : Int), .agg #[.int .i64 fg, .int .i64 bg, .int .i64 at_]] w fun e w' => ∃ b, e = .returned (.agg #[slV b 0 n n, .bool false]) ∧ w.heap.size ≤ b ∧ CellsAt w' b (List.replicate n (32, 1, fg, bg, at_)) n ∧ Below w.heap.size w w' := by
  have hA := (BL.new w 23 [.int .i64 fg, .int .i64 bg, .int .i64 at_]).alloc (.cells #[.slice none 0 0, .bool false] 78)
  have hR := BL.new (w.alloc (.cells #[.int .i64 fg, .int .i64 bg, .int .i64 at_] 23)) 78 [.slice none 0 0, .bool false]
  have hb : Below w.heap.size w ((w.alloc (.cells #[.int .i64 fg, .int .i64 bg, .int .i64 at_] 23)).alloc (.cells #[.slice none 0 0, .bool false] 78)) := ((Below.refl _ _).alloc (Nat.le_refl _) _).alloc (by simp) _
  rw [size_alloc] at hR
  go_enter Tryz.func148, Tryz.ntmps148
  go_wp2_with (first
    | (refine wpList_make_rep rfl (.tmp 6) (.tmp 6) 76 81 rfl Tryz.underlying76 _ 5 40 info_cell rfl n rfl rfl (by omega) (by omega) ?_; intro w1 hm hb1 hs1; have hA1 := hA.only (F := []) (Only.of_below hb1) (by simp); have hR1 := hR.only (F := []) (Only.of_below hb1) (by simp); have hm1 := CellsAt.of_zero hm; rw [size_alloc, size_alloc] at hm1; have hw1 := hb.trans (hb1.mono hb.size))
    | (refine wpList_load_row rfl 23 _ rfl w.heap.size rfl _ _ _ _ hA1 Tryz.underlying23 rfl (by kernel_rfl) ?_)
    | (go_at_call 118; refine (fill_any (w.heap.size + 1 + 1) n 0 n n (List.replicate n zeroCe) fg bg at_ _ hm1 (by simp) (by simpa using hn)).mono ?_; rintro _ w2 ⟨rfl, hc2, ho2⟩; have hR2 := hR1.only ho2 (by simp); rw [fillR_all] at hc2; have hb2 := ho2.below (B := w.heap.size) (by have := hw1.size; omega) (by simp; omega))
    | (refine wpList_store_bl rfl 78 (.tmp 4) (.tmp 12) rfl (w.heap.size + 1) 0 [.slice (some ⟨w.heap.size + 1 + 1, 0, none⟩) n n, .bool false] rfl rfl _ _ hR2 (by kernel_rfl) (by simp) (by kernel_rfl) ?_; intro w3 hR3 hw3))
  exact bodyPost_ret (v := .agg #[slV (w.heap.size + 1 + 1) 0 n n, .bool false]) (results_cell (p := 4) (by kernel_rfl) _ w3 (w.heap.size + 1) _ _ _ _ rfl hR3 Tryz.underlying78 rfl (by kernel_rfl)) rfl
    ⟨_, rfl, by omega, hc2.only hw3.only (by simp), (hw1.trans hb2).trans (hw3.only.below (by have := hw1.size; have := hb2.size; omega) (by simp))⟩
end Go.Proofs.YtjklnnklgkihlaaGreatDoor.Grd
/- Rows of a table made blank. -/
namespace Go.Proofs.YtjklnnklgkihlaaGreatDoor.Grd
open Go.RowKit

theorem splice_app {xs us vs : List Value} {o : Nat} (h : o + us.length + vs.length ≤ xs.length) : splice (splice xs o us) (o + us.length) vs = splice xs o (us ++ vs) := by
  unfold splice
  have h1 : (xs.take o ++ us).length = o + us.length := by rw [List.length_append, List.length_take]; omega
  rw [List.take_append_of_le_length (by omega), List.take_of_length_le (by omega)]
  rw [List.drop_append, h1, show o + us.length + vs.length - (o + us.length) = vs.length by omega, List.drop_of_length_le (l := xs.take o ++ us) (by omega), List.drop_drop]
  simp only [List.length_append, List.append_assoc, List.nil_append]
  rw [show o + us.length + vs.length = o + (us.length + vs.length) by omega]
/-- Rows whose cells are in memory, each in a block of its own. -/
structure Held (w : World) (ms : List MR) : Prop where
  at_ : ∀ m ∈ ms, CellsAt w m.b m.l m.cap
  apart : (ms.map MR.b).Nodup
theorem Held.nil (w : World) : Held w [] := ⟨(fun _ h => by cases h), List.nodup_nil⟩
theorem Held.only {w w' : World} {ms : List MR} {F : List Nat} (h : Held w ms) (ho : Only F w w') (hF : ∀ m ∈ ms, m.b ∉ F) : Held w' ms := ⟨fun m hm => (h.at_ m hm).only ho (hF m hm), h.apart⟩
theorem Held.snoc {w : World} {ms : List MR} {m : MR} (h : Held w ms) (hm : CellsAt w m.b m.l m.cap) (hn : ∀ x ∈ ms, x.b ≠ m.b) : Held w (ms ++ [m]) := by
  refine ⟨fun x hx => ?_, ?_⟩
  · rcases List.mem_append.1 hx with hx | hx
    · exact h.at_ x hx
    · rw [List.mem_singleton] at hx; rw [hx]; exact hm
  · rw [List.map_append, List.nodup_append]
    refine ⟨h.apart, by simp, ?_⟩
    intro x hx y hy
    simp only [List.map_cons, List.map_nil, List.mem_singleton] at hy
    obtain ⟨z, hz, rfl⟩ := List.mem_map.1 hx
    rw [hy]
    exact hn z hz
theorem Held.lt {w : World} {ms : List MR} (h : Held w ms) {m : MR} (hm : m ∈ ms) : m.b < w.heap.size := (h.at_ m hm).lt
/-- Rows that are all alike, and new. -/
def Alike (B : Nat) (l : List Ce) (ms : List MR) : Prop := ∀ m ∈ ms, m.l = l ∧ m.wr = false ∧ B ≤ m.b

set_option maxRecDepth 100000 in
set_option maxHeartbeats 1000000 in
theorem lay_any (p a n c cols : Nat) (xs : List Value) (fg bg at_ : Int) (w : World) (hx : BL w p 78 xs) (hn : 2 * (a + n) ≤ xs.length) (hl : xs.length ≤ 1000000) (hc : cols ≤ 1000000) :
    Calls Tryz.prog 103 #[slV p (2 * a) n c, .int .i64 (cols : Int), .agg #[.int .i64 fg, .int .i64 bg, .int .i64 at_]] w fun e w' => e = .returned (.tuple #[]) ∧
      ∃ ms : List MR, ms.length = n ∧ BL w' p 78 (splice xs (2 * a) (rowsL ms)) ∧ Held w' ms ∧ Alike w.heap.size (List.replicate cols (32, 1, fg, bg, at_)) ms ∧ Only [p] w w' := by
  unfold slV
  have hpl := hx.lt
  have hA := BL.new w 23 [.int .i64 fg, .int .i64 bg, .int .i64 at_]
  have h0 := hx.alloc (.cells #[.int .i64 fg, .int .i64 bg, .int .i64 at_] 23)
  have ho : Only [p] w (w.alloc (.cells #[.int .i64 fg, .int .i64 bg, .int .i64 at_] 23)) := (Only.refl _ _).alloc _
  go_enter Tryz.func103, Tryz.ntmps103
  go_wp2_with fail
  go_loopw [6, 9] (fun _ i wr => ∃ ms : List MR, ms.length ≤ n ∧ i = .int .i64 (ms.length : Int) ∧ BL wr p 78 (splice xs (2 * a) (rowsL ms)) ∧ Held wr ms ∧ Alike (w.heap.size + 1) (List.replicate cols (32, 1, fg, bg, at_)) ms ∧ BL wr w.heap.size 23 [.int .i64 fg, .int .i64 bg, .int .i64 at_] ∧ Only [p] w wr) (fun _ i _ => n - (intOf i).toNat)
  case atStart => exact ⟨[], Nat.zero_le _, rfl, by rw [show rowsL [] = [] from rfl, splice_nil]; exact h0, Held.nil _, (fun _ h => by cases h), hA, ho⟩
  case round =>
    obtain ⟨ms, hk, rfl, hB, hH, hK, hA, ho⟩ := hrel
    clear hx h0
    by_cases hlt : ms.length < n
    · have hAl := hA.lt
      have hrl := rowsL_len ms
      have hsl : (splice xs (2 * a) (rowsL ms)).length = xs.length := splice_len (by omega)
      go_wp2_with (first
        | (refine wpList_load_row rfl 23 _ rfl w.heap.size rfl _ _ _ _ hA Tryz.underlying23 rfl (by kernel_rfl) ?_)
        | (go_at_call 148; refine (blankRow_any cols _ _ _ _ hc).mono ?_; rintro _ w1 ⟨b, rfl, hbb, hcb, hb1⟩; have ho1 := ho.trans (Only.of_below hb1); have hB1 := hB.only (F := []) (Only.of_below hb1) (by simp); have hA1 := hA.only (F := []) (Only.of_below hb1) (by simp); have hH1 := hH.only (F := []) (Only.of_below hb1) (by simp))
        | (refine wpList_store_bl rfl 78 (.tmp 17) (.tmp 16) rfl p (2 * a + ms.length * 2) [slV b 0 cols cols, .bool false] rfl rfl _ _ hB1 (by kernel_rfl) (by rw [hsl]; simp; omega) (by kernel_rfl) ?_; intro w2 hB2 hw2))
      have hml : mrL ⟨b, cols, List.replicate cols (32, 1, fg, bg, at_), false⟩ = [slV b 0 cols cols, .bool false] := by unfold mrL; simp
      have hsp : splice (splice xs (2 * a) (rowsL ms)) (2 * a + ms.length * 2) [slV b 0 cols cols, .bool false] = splice xs (2 * a) (rowsL (ms ++ [⟨b, cols, List.replicate cols (32, 1, fg, bg, at_), false⟩])) := by
        rw [rowsL_app, rowsL_one, hml, ← splice_app (by rw [hrl]; simp; omega), hrl, Nat.mul_comm 2 ms.length]
      rw [hsp] at hB2
      have hpb : ∀ m ∈ ms, m.b ≠ p := fun m hm e => by have := (hK m hm).2.2; omega
      have hsz := ho.size
      have hH2 := hH1.only hw2.only (fun m hm => by simpa using hpb m hm)
      have hc2 := hcb.only hw2.only (by simp; omega)
      have hH3 := hH2.snoc (m := ⟨b, cols, List.replicate cols (32, 1, fg, bg, at_), false⟩) hc2 (fun x hx => by have := hH.lt hx; show x.b ≠ b; omega)
      have hK3 : Alike (w.heap.size + 1) (List.replicate cols (32, 1, fg, bg, at_)) (ms ++ [⟨b, cols, List.replicate cols (32, 1, fg, bg, at_), false⟩]) := fun m hm => by
        rcases List.mem_append.1 hm with hm | hm
        · exact hK m hm
        · rw [List.mem_singleton] at hm; rw [hm]; exact ⟨rfl, rfl, by show w.heap.size + 1 ≤ b; omega⟩
      go_roundw
      case rel => exact ⟨_, by rw [List.length_append]; simp; omega, by rw [List.length_append]; simp, hB2, hH3, hK3, hA1.only hw2.only (by simp; omega), hw2.2 _ _ ho1 (.inl (by simp))⟩
      case measure => simp [intOf]; omega
    · obtain hk : ms.length = n := by omega
      subst hk
      go_wp2_with fail
      exact body_end rfl rfl ⟨rfl, ms, rfl, hB, hH, (fun m hm => ⟨(hK m hm).1, (hK m hm).2.1, by have := (hK m hm).2.2; omega⟩), ho⟩
end Go.Proofs.YtjklnnklgkihlaaGreatDoor.Grd
/- So many rows: those that there are, blank ones behind. -/
namespace Go.Proofs.YtjklnnklgkihlaaGreatDoor.Grd
open Go.RowKit

set_option maxRecDepth 100000 in
theorem plain_any (w : World) :
    Calls Tryz.prog 10 #[] w fun e w' => e = .returned (.agg #[.int .i64 (-1), .int .i64 (-1), .int .i64 0]) ∧ Below w.heap.size w w' := by
  go_enter Tryz.func10, Tryz.ntmps10
  go_wp2
  exact bodyPost_ret (v := .agg #[.int .i64 (-1), .int .i64 (-1), .int .i64 0]) (by simp [results, Tryz.results10, go_sem]) rfl ⟨rfl, (Below.refl _ _).alloc (Nat.le_refl _) _⟩

/-- A plain blank; a row of them. -/
def plainCe : Ce := (32, 1, -1, -1, 0)
def rowV0 : List Value := [.slice none 0 0, .bool false]
theorem rowV0_len (n : Nat) : (List.replicate n rowV0).flatten.length = 2 * n := by simp [rowV0]; omega
theorem splice_full {xs us vs : List Value} (h : xs.length = us.length + vs.length) : splice (splice xs 0 us) us.length vs = us ++ vs := by
  have h2 := splice_app (xs := xs) (us := us) (vs := vs) (o := 0) (by omega)
  rw [Nat.zero_add] at h2
  rw [h2]
  unfold splice
  rw [List.take_zero, List.nil_append, List.drop_of_length_le (by rw [List.length_append]; omega), List.append_nil]
section
variable {P : Program} {ops : Array Oper} {rest : List Oper} {op : Oper} {a : Act} {w : World} {Q : Exit → Act → World → Prop}
theorem wpList_copy_nil (hgd : op.guard = none) (d s : Operand) (dT sT : TypeId)
    (ho : op.op = .call { callee := .builtin .copy, args := #[d, s], argTypes := #[dT, sT] }) (elem : TypeId) (hu : P.underlying dT = some (.slice elem)) (hsz : ((P.info? elem).map (·.size)).isSome = true)
    (ad : Addr) (dLen dCap : Nat) (hd : a.eval d = .slice (some ad) dLen dCap) (hs : a.eval s = .slice none 0 0)
    (h : wpList P ops Q rest (a.put op.dst (goInt 0)) w) : wpList P ops Q (op :: rest) a w := by
  refine wpList_plain hgd fun K hK => ?_
  have hrun := run_copy_nil (P := P) w dT sT op.type elem ad dLen dCap hu hsz
  unfold Oper.wp
  simp [execOp, ho, resolve, invoke, builtin, hd, hs, hrun, Result.andThen]
  exact hK _ _ h
end
set_option maxRecDepth 100000 in
set_option maxHeartbeats 1000000 in
theorem filled_nil (cols n : Nat) (w : World) (hn1 : 1 ≤ n) (hn : n ≤ 1000) (hc : cols ≤ 1000000) :
    Calls Tryz.prog 62 #[.slice none 0 0, .int .i64 (cols : Int), .int .i64 (n : Int)] w fun e w' => ∃ g, e = .returned (slV g 0 n n) ∧ w.heap.size ≤ g ∧
      ∃ ms : List MR, ms.length = n ∧ BL w' g 78 (rowsL ms) ∧ Held w' ms ∧ Alike (g + 1) (List.replicate cols plainCe) ms ∧ Below w.heap.size w w' := by
  go_enter Tryz.func62, Tryz.ntmps62
  go_wp2_with (first
    | (refine wpList_make_rep rfl (.tmp 9) (.tmp 9) 70 78 rfl Tryz.underlying70 _ 2 32 info_row rfl n rfl rfl (by omega) (by omega) ?_; intro w1 hm hb1 hs1)
    | (refine wpList_copy_nil rfl (.tmp 11) (.tmp 12) 70 70 rfl 78 Tryz.underlying70 (by kernel_rfl) _ _ _ rfl rfl ?_))
  have hmd : BL w1.drew w.heap.size 78 (List.replicate n rowV0).flatten := hm
  have hbd : Below w.heap.size w w1.drew := hb1.drew
  have hzl := rowV0_len n
  have hsd : w1.drew.heap.size = w.heap.size + 1 := hs1
  clear hm hb1 hs1
  go_region_with (first
    | (go_at_call 10; refine (plain_any _).mono ?_; rintro _ w2 ⟨rfl, hb2⟩; have hm2 := hmd.only (F := []) (Only.of_below hb2) (by simp); have hw2 := hbd.trans (hb2.mono hbd.size); have hs2 := hb2.size)
    | (go_at_call 103; refine (lay_any w.heap.size 0 n n cols _ _ _ _ _ hm2 (by omega) (by omega) hc).mono ?_; rintro _ w3 ⟨rfl, ms, hms, hB3, hH3, hK3, ho3⟩))
  all_goals go_wp2_with fail
  have hrl := rowsL_len ms
  have hf : splice (List.replicate n rowV0).flatten (2 * 0) (rowsL ms) = rowsL ms := by
    unfold splice
    rw [List.take_zero, List.nil_append, List.drop_of_length_le (by omega), List.append_nil]
  rw [hf] at hB3
  go_ret
  exact ⟨_, rfl, Nat.le_refl _, ms, hms, hB3, hH3, (fun m hm => ⟨(hK3 m hm).1, (hK3 m hm).2.1, by have := (hK3 m hm).2.2; omega⟩), hw2.trans (ho3.below (by omega) (by simp))⟩
end Go.Proofs.YtjklnnklgkihlaaGreatDoor.Grd
