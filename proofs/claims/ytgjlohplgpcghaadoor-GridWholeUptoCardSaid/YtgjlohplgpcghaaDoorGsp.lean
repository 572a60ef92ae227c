/- A grid's memory: cells in rows, rows in tables; what a call may turn. -/
import Derived.Test.YtgjlohplgpcghaaDoorProg
import Derived.WalkKit
import Derived.WalkLawsBesides
import Derived.WalkSpells
import Derived.WalkSmall
import Derived.Lib.Hide
import Derived.Outline
import Derived.Maps.AppendAt
import Derived.Deep.AppendLies
import Derived.Deep.Draws
import Derived.Deep.QuietTactic
import Derived.Deep.MidRow
import Derived.Deep.RegionWith
import Derived.Deep.RegionHeld3
import Derived.Deep.DeepCutAuto
import Derived.Deep.CutRange
import Derived.BigQuiet
namespace Go.Proofs.YtgjlohplgpcghaaDoor.Grd
open Go.RowKit

/-- A look; a cell: its rune, its width, its look. -/
abbrev St := Int × Int × Int
abbrev Ce := Int × Int × St
def stL (s : St) : List Value := [.int .i64 s.1, .int .i64 s.2.1, .int .i64 s.2.2]
def ceL (c : Ce) : List Value := .int .i32 c.1 :: .int .i64 c.2.1 :: stL c.2.2
def flat (l : List Ce) : List Value := l.flatMap ceL
theorem ceL_len (c : Ce) : (ceL c).length = 5 := rfl
theorem flat_len (l : List Ce) : (flat l).length = 5 * l.length := by
  induction l with
  | nil => rfl
  | cons c r ih => unfold flat at ih ⊢; rw [List.flatMap_cons, List.length_append, ih, ceL_len, List.length_cons]; omega
theorem flat_app (a b : List Ce) : flat (a ++ b) = flat a ++ flat b := by unfold flat; rw [List.flatMap_append]
theorem flat_cons (c : Ce) (b : List Ce) : flat (c :: b) = ceL c ++ flat b := by unfold flat; rw [List.flatMap_cons]
theorem flat_take (l : List Ce) (n : Nat) : flat (l.take n) = (flat l).take (5 * n) := by
  by_cases h : n ≤ l.length
  · have e := congrArg flat (List.take_append_drop n l)
    rw [flat_app] at e
    have hl : (flat (l.take n)).length = 5 * n := by rw [flat_len, List.length_take]; omega
    have e2 := congrArg (List.take (5 * n)) e
    rw [List.take_left' hl] at e2
    exact e2
  · rw [List.take_of_length_le (by omega), List.take_of_length_le (by rw [flat_len]; omega)]
theorem flat_drop (l : List Ce) (n : Nat) : flat (l.drop n) = (flat l).drop (5 * n) := by
  by_cases h : n ≤ l.length
  · have e := congrArg flat (List.take_append_drop n l)
    rw [flat_app] at e
    have hl : (flat (l.take n)).length = 5 * n := by rw [flat_len, List.length_take]; omega
    have e2 := congrArg (List.drop (5 * n)) e
    rw [List.drop_left' hl] at e2
    exact e2
  · rw [List.drop_of_length_le (by omega), List.drop_of_length_le (by rw [flat_len]; omega)]
    rfl

/-- Values of one cell each, in place of as many others. -/
def splice (xs : List Value) (o : Nat) (vs : List Value) : List Value := xs.take o ++ vs ++ xs.drop (o + vs.length)
theorem splice_len {xs vs : List Value} {o : Nat} (h : o + vs.length ≤ xs.length) : (splice xs o vs).length = xs.length := by
  unfold splice; simp only [List.length_append, List.length_take, List.length_drop]; omega
theorem splice_nil (xs : List Value) (o : Nat) : splice xs o [] = xs := by unfold splice; simp
theorem splice_cons {xs : List Value} {o : Nat} (v : Value) (vs : List Value) (h : o + (vs.length + 1) ≤ xs.length) : splice (xs.set o v) (o + 1) vs = splice xs o (v :: vs) := by
  unfold splice
  rw [List.length_cons, List.take_set, List.drop_set_of_lt (by omega), List.take_succ_eq_append_getElem (by omega), List.set_append_right _ _ (by rw [List.length_take]; omega)]
  rw [List.length_take, Nat.min_eq_left (by omega), Nat.sub_self]
  simp only [List.set_cons_zero, List.append_assoc, List.cons_append, List.nil_append]
  rw [show o + 1 + vs.length = o + (vs.length + 1) by omega]
theorem splice_flat {l : List Ce} {i : Nat} (c : Ce) (tail : List Value) (h : i < l.length) : splice (flat l ++ tail) (5 * i) (ceL c) = flat (l.set i c) ++ tail := by
  have hs : l.set i c = l.take i ++ c :: l.drop (i + 1) := by rw [List.set_eq_take_append_cons_drop, if_pos h]
  have hf := flat_len l
  rw [hs, flat_app, flat_cons, flat_take, flat_drop]
  unfold splice
  rw [ceL_len, List.take_append_of_le_length (by omega), List.drop_append_of_le_length (by omega), show 5 * (i + 1) = 5 * i + 5 by omega]
  simp only [List.append_assoc]

/-! ### A block that is known whole -/
def BL (w : World) (b : Nat) (t : TypeId) (xs : List Value) : Prop := w.heap[b]? = some (.cells xs.toArray t (0, 0))
section
variable {w w' : World} {b : Nat} {t : TypeId} {xs : List Value}
theorem BL.lt (h : BL w b t xs) : b < w.heap.size := by
  rcases Nat.lt_or_ge b w.heap.size with hlt | hge
  · exact hlt
  · unfold BL at h; rw [Array.getElem?_eq_none hge] at h; cases h
theorem BL.cell (h : BL w b t xs) (i : Nat) : w.cell? ⟨b, i, none⟩ = xs[i]? := by
  have := cell_of_row w b i xs.toArray t (0, 0) h
  simpa using this
theorem BL.frozen (h : BL w b t xs) (i : Nat) : w.frozen? ⟨b, i, none⟩ = false := by
  unfold BL at h
  simp [World.frozen?, h]
theorem BL.new (w : World) (t : TypeId) (xs : List Value) : BL (w.alloc (.cells xs.toArray t)) w.heap.size t xs := heap_alloc_new w _
theorem BL.keep (h : BL w b t xs) (e : w'.heap[b]? = w.heap[b]?) : BL w' b t xs := e.trans h
theorem BL.alloc (h : BL w b t xs) (o : Obj) : BL (w.alloc o) b t xs := (Below.heap_alloc w o b h.lt).trans h
theorem BL.drew (h : BL w b t xs) : BL w.drew b t xs := h
theorem BL.set_ (h : BL w b t xs) (i : Nat) (u : Value) : BL (w.setCell ⟨b, i, none⟩ u) b t (xs.set i u) := by
  unfold BL at h ⊢
  simp [World.setCell, Array.getElem?_modify, h]
theorem BL.range (h : BL w b t xs) {o : Nat} {vs : List Value} (hv : ∀ j v, vs[j]? = some v → xs[o + j]? = some v) : w.rangeAt b o vs := fun j v hj => by
  rw [h.cell]; exact hv j v hj
theorem BL.there (h : BL w b t xs) {o n : Nat} (hn : o + n ≤ xs.length) : w.there b o n := fun j hj => by
  refine ⟨?_, h.frozen _⟩
  rw [h.cell, List.getElem?_eq_getElem (by omega)]
  rfl
end
theorem BL.setCells {b : Nat} {t : TypeId} : ∀ (vs : List Value) {w : World} {xs : List Value} (o : Nat), BL w b t xs → o + vs.length ≤ xs.length → BL (w.setCells b o vs) b t (splice xs o vs)
  | [], w, xs, o, h, _ => by rw [splice_nil]; exact h
  | v :: vs, w, xs, o, h, hl => by
    rw [World.setCells]
    rw [List.length_cons] at hl
    have := BL.setCells vs (o + 1) (h.set_ o v) (by rw [List.length_set]; omega)
    rwa [splice_cons v vs (by omega)] at this

/-! ### What a call may turn -/
/-- No block but those of F has turned; none has gone; the streams are as they were. -/
structure Only (F : List Nat) (w w' : World) : Prop where
  os : w'.os = w.os
  tape : w'.tape = w.tape
  output : w'.output = w.output
  size : w.heap.size ≤ w'.heap.size
  block : ∀ k, k < w.heap.size → k ∉ F → w'.heap[k]? = w.heap[k]?
theorem Only.refl (F : List Nat) (w : World) : Only F w w := ⟨rfl, rfl, rfl, Nat.le_refl _, fun _ _ _ => rfl⟩
theorem Only.trans {F : List Nat} {a b c : World} (h : Only F a b) (k : Only F b c) : Only F a c :=
  ⟨k.os.trans h.os, k.tape.trans h.tape, k.output.trans h.output, Nat.le_trans h.size k.size, fun i hi hn => (k.block i (Nat.lt_of_lt_of_le hi h.size) hn).trans (h.block i hi hn)⟩
/-- Behind a call that may turn other blocks, those that were not there yet among them. -/
theorem Only.trans2 {F G : List Nat} {a b c : World} (h : Only F a b) (k : Only G b c) (hG : ∀ x ∈ G, x ∈ F ∨ a.heap.size ≤ x) : Only F a c :=
  ⟨k.os.trans h.os, k.tape.trans h.tape, k.output.trans h.output, Nat.le_trans h.size k.size, fun i hi hn => (k.block i (Nat.lt_of_lt_of_le hi h.size) (fun hg => by rcases hG i hg with x | x; exact hn x; omega)).trans (h.block i hi hn)⟩
theorem Only.mono {F G : List Nat} {a b : World} (h : Only F a b) (hG : ∀ x ∈ F, x ∈ G) : Only G a b := ⟨h.os, h.tape, h.output, h.size, fun k hk hn => h.block k hk (fun x => hn (hG k x))⟩
theorem Only.alloc {F : List Nat} {a w : World} (h : Only F a w) (o : Obj) : Only F a (w.alloc o) :=
  h.trans ⟨rfl, rfl, rfl, by simp, fun k hk _ => Below.heap_alloc _ _ _ hk⟩
theorem Only.drew {F : List Nat} {a w : World} (h : Only F a w) : Only F a w.drew := ⟨h.os, h.tape, h.output, h.size, h.block⟩
theorem setCells_far (b : Nat) : ∀ (vs : List Value) (o : Nat) (w : World), (w.setCells b o vs).heap.size = w.heap.size ∧ (w.setCells b o vs).os = w.os ∧ (w.setCells b o vs).tape = w.tape ∧ (w.setCells b o vs).output = w.output ∧ ∀ k, k ≠ b → (w.setCells b o vs).heap[k]? = w.heap[k]?
  | [], o, w => ⟨rfl, rfl, rfl, rfl, fun _ _ => rfl⟩
  | v :: vs, o, w => by
    rw [World.setCells]
    obtain ⟨h1, h2, h3, h4, h5⟩ := setCells_far b vs (o + 1) (w.setCell ⟨b, o, none⟩ v)
    exact ⟨by rw [h1]; simp [World.setCell], h2, h3, h4, fun k hk => by rw [h5 k hk]; exact Below.heap_setCell w ⟨b, o, none⟩ v k hk⟩
theorem Only.setCells {F : List Nat} {a w : World} (h : Only F a w) (b o : Nat) (vs : List Value) (hb : b ∈ F ∨ a.heap.size ≤ b) : Only F a (w.setCells b o vs) := by
  obtain ⟨h1, h2, h3, h4, h5⟩ := setCells_far b vs o w
  exact ⟨h2.trans h.os, h3.trans h.tape, h4.trans h.output, by rw [h1]; exact h.size, fun k hk hn => by
    rw [h5 k (fun e => by subst e; rcases hb with x | x; exact hn x; omega)]; exact h.block k hk hn⟩
theorem Only.setCell {F : List Nat} {a w : World} (h : Only F a w) {p : Addr} (hb : p.block ∈ F ∨ a.heap.size ≤ p.block) (u : Value) : Only F a (w.setCell p u) :=
  ⟨h.os, h.tape, h.output, by simp [World.setCell]; exact h.size, fun k hk hn => by
    rw [Below.heap_setCell w p u k (fun e => by subst e; rcases hb with x | x; exact hn x; omega)]; exact h.block k hk hn⟩
/-- A call that only makes new blocks. -/
theorem Only.of_below {F : List Nat} {a b : World} (h : Below a.heap.size a b) : Only F a b := ⟨h.os, h.tape, h.output, h.size, fun k hk _ => h.block k hk⟩
theorem Only.below {F : List Nat} {B : Nat} {a b : World} (h : Only F a b) (hB : B ≤ a.heap.size) (hF : ∀ x ∈ F, B ≤ x) : Below B a b := ⟨h.os, h.tape, h.output, h.size, fun k hk => h.block k (by omega) (fun x => by have := hF k x; omega)⟩
theorem Only.nil_below {a b : World} (h : Only [] a b) : Below a.heap.size a b := h.below (Nat.le_refl _) (fun _ h => by cases h)
theorem BL.only {w w' : World} {b : Nat} {t : TypeId} {xs : List Value} {F : List Nat} (h : BL w b t xs) (ho : Only F w w') (hb : b ∉ F) : BL w' b t xs := h.keep (ho.block b h.lt hb)

/-! ### Rows of cells -/
abbrev slV (b o n c : Nat) : Value := .slice (some ⟨b, o, none⟩) n c
/-- The cells of a row, and what room lies behind them, are block b. -/
def CellsAt (w : World) (b : Nat) (l : List Ce) (cap : Nat) : Prop := l.length ≤ cap ∧ ∃ tail, tail.length = 5 * (cap - l.length) ∧ BL w b 35 (flat l ++ tail)
theorem CellsAt.lt {w : World} {b cap : Nat} {l : List Ce} (h : CellsAt w b l cap) : b < w.heap.size := by obtain ⟨_, _, _, h⟩ := h; exact h.lt
theorem CellsAt.only {w w' : World} {b cap : Nat} {l : List Ce} {F : List Nat} (h : CellsAt w b l cap) (ho : Only F w w') (hb : b ∉ F) : CellsAt w' b l cap := by
  obtain ⟨h1, tail, h2, h3⟩ := h
  exact ⟨h1, tail, h2, h3.only ho hb⟩
theorem CellsAt.alloc {w : World} {b cap : Nat} {l : List Ce} (h : CellsAt w b l cap) (o : Obj) : CellsAt (w.alloc o) b l cap := by
  obtain ⟨h1, tail, h2, h3⟩ := h
  exact ⟨h1, tail, h2, h3.alloc o⟩
theorem flat_at {l : List Ce} {i : Nat} (h : i < l.length) (tail : List Value) (j : Nat) (hj : j < 5) : (flat l ++ tail)[5 * i + j]? = (ceL l[i])[j]? := by
  have hf := flat_len l
  rw [List.getElem?_append_left (by omega)]
  have e : flat l = flat (l.take i) ++ (ceL l[i] ++ flat (l.drop (i + 1))) := by
    rw [← flat_cons, ← flat_app, ← List.drop_eq_getElem_cons h, List.take_append_drop]
  have hl : (flat (l.take i)).length = 5 * i := by rw [flat_len, List.length_take]; omega
  rw [e, List.getElem?_append_right (by omega), hl, show 5 * i + j - 5 * i = j by omega, List.getElem?_append_left (by rw [ceL_len]; exact hj)]
theorem CellsAt.range {w : World} {b cap : Nat} {l : List Ce} (h : CellsAt w b l cap) {i : Nat} (hi : i < l.length) : w.rangeAt b (5 * i) (ceL l[i]) := by
  obtain ⟨_, tail, _, h3⟩ := h
  refine h3.range fun j v hj => ?_
  have h5 : j < 5 := by rw [← ceL_len l[i]]; exact (List.getElem?_eq_some_iff.1 hj).1
  rw [flat_at hi tail j h5]; exact hj
theorem CellsAt.look {w : World} {b cap : Nat} {l : List Ce} (h : CellsAt w b l cap) {i : Nat} (hi : i < l.length) : w.rangeAt b (5 * i + 2) (stL l[i].2.2) := by
  obtain ⟨_, tail, _, h3⟩ := h
  refine h3.range fun j v hj => ?_
  have h5 : j < 3 := by rw [show 3 = (stL l[i].2.2).length from rfl]; exact (List.getElem?_eq_some_iff.1 hj).1
  rw [Nat.add_assoc, flat_at hi tail (2 + j) (by omega), ← hj]
  unfold ceL
  rw [show 2 + j = j + 1 + 1 by omega, List.getElem?_cons_succ, List.getElem?_cons_succ]
theorem CellsAt.there {w : World} {b cap : Nat} {l : List Ce} (h : CellsAt w b l cap) {i : Nat} (hi : i < l.length) : w.there b (5 * i) 5 := by
  obtain ⟨_, tail, _, h3⟩ := h
  exact h3.there (by rw [List.length_append, flat_len]; omega)
theorem CellsAt.set {w : World} {b cap : Nat} {l : List Ce} (h : CellsAt w b l cap) {i : Nat} (hi : i < l.length) (c : Ce) : CellsAt (w.setCells b (5 * i) (ceL c)) b (l.set i c) cap := by
  obtain ⟨h1, tail, h2, h3⟩ := h
  refine ⟨by rw [List.length_set]; exact h1, tail, by rw [List.length_set]; exact h2, ?_⟩
  have := h3.setCells (ceL c) (5 * i) (by rw [List.length_append, flat_len, ceL_len]; omega)
  rwa [splice_flat c tail hi] at this
end Go.Proofs.YtgjlohplgpcghaaDoor.Grd
/- Blanks, paddings; a part of a row made blank. -/
namespace Go.Proofs.YtgjlohplgpcghaaDoor.Grd
open Go.RowKit

def stV (s : St) : Value := .agg #[.int .i64 s.1, .int .i64 s.2.1, .int .i64 s.2.2]
def ceV (c : Ce) : Value := .agg #[.int .i32 c.1, .int .i64 c.2.1, .int .i64 c.2.2.1, .int .i64 c.2.2.2.1, .int .i64 c.2.2.2.2]
theorem size_alloc (w : World) (o : Obj) : (w.alloc o).heap.size = w.heap.size + 1 := by simp
/-- A result that lies in memory. -/
theorem results_cell {P : Program} {fn : Func} {p : Tmp} {ty : TypeId} (h : fn.results = #[.cell p ty]) (tmps : Array Value) (w : World) (g : Nat) (t : TypeId) (cs : Array Value) (fr : Nat × Nat) (d : TypeDesc)
    (hp : tmps.getD p undef = .pointer (some ⟨g, 0, none⟩)) (hg : w.heap[g]? = some (.cells cs t fr))
    (hu : P.underlying ty = some d) (hd : (match d with | .struct _ | .array _ _ => true | _ => false) = true) (hi : (P.info? ty).map (·.size) = some cs.size) :
    (results fn tmps).run P w = .ok (.agg cs) w := by
  have hp' : tmps[p]?.getD undef = .pointer (some ⟨g, 0, none⟩) := by simpa using hp
  simp [results, h, hp', asAddr, run_loadVar_row w g t ty cs fr d hg hu hd hi]
theorem results_none {P : Program} {fn : Func} (h : fn.results = #[]) (tmps : Array Value) (w : World) : (results fn tmps).run P w = .ok (.tuple #[]) w := by
  simp [results, h]
/-- A function without results that comes to its end. -/
theorem body_end {P : Program} {fn : Func} {R : Ending → World → Prop} {a : Act} {w : World} (h : fn.results = #[]) (hd : a.defers = []) (hR : R (.returned (.tuple #[])) w) : bodyPost P fn R .normal a w :=
  ⟨hd, _, results_none h _ _, hR⟩

set_option maxRecDepth 100000 in
theorem blank_any (fg bg at_ : Int) (w : World) :
    Calls Tryd.prog 60 #[.agg #[.int .i64 fg, .int .i64 bg, .int .i64 at_]] w fun e w' => e = .returned (.agg #[.int .i32 32, .int .i64 1, .int .i64 fg, .int .i64 bg, .int .i64 at_]) ∧ Below w.heap.size w w' := by
  have hA : BL ((w.alloc (.cells #[.int .i64 fg, .int .i64 bg, .int .i64 at_] 33)).alloc (.cells #[.int .i32 0, .int .i64 0, .int .i64 0, .int .i64 0, .int .i64 0] 35)) w.heap.size 33 [.int .i64 fg, .int .i64 bg, .int .i64 at_] := (BL.new w 33 [.int .i64 fg, .int .i64 bg, .int .i64 at_]).alloc _
  have hb : Below w.heap.size w ((w.alloc (.cells #[.int .i64 fg, .int .i64 bg, .int .i64 at_] 33)).alloc (.cells #[.int .i32 32, .int .i64 1, .int .i64 fg, .int .i64 bg, .int .i64 at_] 35)) := ((Below.refl _ _).alloc (Nat.le_refl _) _).alloc (by simp) _
  go_enter Tryd.func60, Tryd.ntmps60
  go_wp2_with (refine wpList_load_row rfl 33 _ rfl w.heap.size rfl _ _ _ _ hA Tryd.underlying33 rfl (by kernel_rfl) ?_)
  exact bodyPost_ret (v := .agg #[.int .i32 32, .int .i64 1, .int .i64 fg, .int .i64 bg, .int .i64 at_]) (results_cell (p := 2) (by kernel_rfl) _ _ (w.heap.size + 1) _ _ _ _ rfl (by have := BL.new (w.alloc (.cells #[.int .i64 fg, .int .i64 bg, .int .i64 at_] 33)) 35 [.int .i32 32, .int .i64 1, .int .i64 fg, .int .i64 bg, .int .i64 at_]; rw [size_alloc] at this; exact this) Tryd.underlying35 rfl (by kernel_rfl)) rfl ⟨rfl, hb⟩

set_option maxRecDepth 100000 in
theorem padding_any (fg bg at_ : Int) (w : World) :
    Calls Tryd.prog 38 #[.agg #[.int .i64 fg, .int .i64 bg, .int .i64 at_]] w fun e w' => e = .returned (.agg #[.int .i32 0, .int .i64 0, .int .i64 fg, .int .i64 bg, .int .i64 at_]) ∧ Below w.heap.size w w' := by
  have hA : BL ((w.alloc (.cells #[.int .i64 fg, .int .i64 bg, .int .i64 at_] 33)).alloc (.cells #[.int .i32 0, .int .i64 0, .int .i64 0, .int .i64 0, .int .i64 0] 35)) w.heap.size 33 [.int .i64 fg, .int .i64 bg, .int .i64 at_] := (BL.new w 33 [.int .i64 fg, .int .i64 bg, .int .i64 at_]).alloc _
  have hb : Below w.heap.size w ((w.alloc (.cells #[.int .i64 fg, .int .i64 bg, .int .i64 at_] 33)).alloc (.cells #[.int .i32 0, .int .i64 0, .int .i64 fg, .int .i64 bg, .int .i64 at_] 35)) := ((Below.refl _ _).alloc (Nat.le_refl _) _).alloc (by simp) _
  go_enter Tryd.func38, Tryd.ntmps38
  go_wp2_with (refine wpList_load_row rfl 33 _ rfl w.heap.size rfl _ _ _ _ hA Tryd.underlying33 rfl (by kernel_rfl) ?_)
  exact bodyPost_ret (v := .agg #[.int .i32 0, .int .i64 0, .int .i64 fg, .int .i64 bg, .int .i64 at_]) (results_cell (p := 2) (by kernel_rfl) _ _ (w.heap.size + 1) _ _ _ _ rfl (by have := BL.new (w.alloc (.cells #[.int .i64 fg, .int .i64 bg, .int .i64 at_] 33)) 35 [.int .i32 0, .int .i64 0, .int .i64 fg, .int .i64 bg, .int .i64 at_]; rw [size_alloc] at this; exact this) Tryd.underlying35 rfl (by kernel_rfl)) rfl ⟨rfl, hb⟩

set_option maxRecDepth 100000 in
theorem isPadding_any (r wd fg bg at_ : Int) (w : World) :
    Calls Tryd.prog 54 #[.agg #[.int .i32 r, .int .i64 wd, .int .i64 fg, .int .i64 bg, .int .i64 at_]] w fun e w' => e = .returned (.bool (wd == 0)) ∧ Below w.heap.size w w' := by
  have hA := BL.new w 35 [.int .i32 r, .int .i64 wd, .int .i64 fg, .int .i64 bg, .int .i64 at_]
  have hc := hA.cell 1
  have hb : Below w.heap.size w (w.alloc (.cells #[.int .i32 r, .int .i64 wd, .int .i64 fg, .int .i64 bg, .int .i64 at_] 35)) := (Below.refl _ _).alloc (Nat.le_refl _) _
  go_enter Tryd.func54, Tryd.ntmps54
  go_wp2_with fail
  go_ret
  exact ⟨rfl, hb⟩

section
variable {ops : Array Oper} {rest : List Oper} {op : Oper} {a : Act} {w : World} {Q : Exit → Act → World → Prop}
/-- What a step that writes to block b keeps. -/
def Wrote (b : Nat) (w w1 : World) : Prop := w1.heap.size = w.heap.size ∧ ∀ F a, Only F a w → (b ∈ F ∨ a.heap.size ≤ b) → Only F a w1
theorem Wrote.setCells (b o : Nat) (vs : List Value) (w : World) : Wrote b w (w.setCells b o vs) := ⟨(setCells_far b vs o w).1, fun _ _ h hb => h.setCells b o vs hb⟩
theorem Wrote.only {b : Nat} {w w1 : World} (h : Wrote b w w1) : Only [b] w w1 := h.2 _ _ (Only.refl _ _) (.inl (by simp))
/-- A store of a cell into a row. -/
theorem wpList_store_cell (hgd : op.guard = none) (x y : Operand) (ho : op.op = .store 35 x y) (b o i cap : Nat) (r wd s1 s2 s3 : Int) (l : List Ce)
    (hx : a.eval x = .pointer (some ⟨b, o, none⟩)) (hy : a.eval y = .agg #[.int .i32 r, .int .i64 wd, .int .i64 s1, .int .i64 s2, .int .i64 s3]) (hc : CellsAt w b l cap) (hi : i < l.length) (hoi : o = 5 * i)
    (h : ∀ w1, CellsAt w1 b (l.set i (r, wd, s1, s2, s3)) cap → Wrote b w w1 → wpList Tryd.prog ops Q rest (a.put op.dst undef) w1) : wpList Tryd.prog ops Q (op :: rest) a w := by
  subst hoi
  refine wpList_store_mid hgd 35 x y ho b (5 * i) _ hx hy (hc.there hi) (by kernel_rfl) (by kernel_rfl) ?_
  exact h _ (hc.set hi (r, wd, s1, s2, s3)) (Wrote.setCells _ _ _ _)
/-- A load of a cell out of a row. -/
theorem wpList_load_cell (hgd : op.guard = none) (x : Operand) (ho : op.op = .load 35 x) (b o i cap : Nat) (l : List Ce) (hx : a.eval x = .pointer (some ⟨b, o, none⟩)) (hc : CellsAt w b l cap) (hi : i < l.length) (hoi : o = 5 * i)
    (h : wpList Tryd.prog ops Q rest (a.put op.dst (.agg #[.int .i32 l[i].1, .int .i64 l[i].2.1, .int .i64 l[i].2.2.1, .int .i64 l[i].2.2.2.1, .int .i64 l[i].2.2.2.2])) w) : wpList Tryd.prog ops Q (op :: rest) a w := by
  subst hoi
  exact wpList_load_mid hgd 35 x ho b (5 * i) hx _ _ (hc.range hi) Tryd.underlying35 rfl (by kernel_rfl) h
/-- A load of a cell's look. -/
theorem wpList_load_look (hgd : op.guard = none) (x : Operand) (ho : op.op = .load 33 x) (b o i cap : Nat) (l : List Ce) (hx : a.eval x = .pointer (some ⟨b, o, none⟩)) (hc : CellsAt w b l cap) (hi : i < l.length) (hoi : o = 5 * i + 2)
    (h : wpList Tryd.prog ops Q rest (a.put op.dst (.agg #[.int .i64 l[i].2.2.1, .int .i64 l[i].2.2.2.1, .int .i64 l[i].2.2.2.2])) w) : wpList Tryd.prog ops Q (op :: rest) a w := by
  subst hoi
  exact wpList_load_mid hgd 33 x ho b (5 * i + 2) hx _ _ (hc.look hi) Tryd.underlying33 rfl (by kernel_rfl) h
end

/-- Part of a row made blank: from a on, n columns. -/
def fillR (l : List Ce) (a n : Nat) (s : St) : List Ce := l.take a ++ List.replicate n (32, 1, s) ++ l.drop (a + n)
theorem fillR_len {l : List Ce} {a n : Nat} (h : a + n ≤ l.length) (s : St) : (fillR l a n s).length = l.length := by
  unfold fillR; simp only [List.length_append, List.length_take, List.length_drop, List.length_replicate]; omega
theorem fillR_zero (l : List Ce) (a : Nat) (s : St) : fillR l a 0 s = l := by unfold fillR; simp
theorem fillR_succ {l : List Ce} {a n : Nat} (h : a + n < l.length) (s : St) : (fillR l a n s).set (a + n) (32, 1, s) = fillR l a (n + 1) s := by
  unfold fillR
  rw [List.set_append_right _ _ (by simp; omega)]
  have e : a + n - (l.take a ++ List.replicate n ((32, 1, s) : Ce)).length = 0 := by simp; omega
  rw [e, List.drop_eq_getElem_cons (by omega : a + n < l.length), List.set_cons_zero, List.replicate_succ', Nat.add_assoc]
  simp only [List.append_assoc, List.cons_append, List.nil_append]

set_option maxRecDepth 100000 in
set_option maxHeartbeats 1000000 in
theorem fill_any (b cap a n c : Nat) (l : List Ce) (fg bg at_ : Int) (w : World) (h : CellsAt w b l cap) (hn : a + n ≤ l.length) (hl : l.length ≤ 1000000) :
    Calls Tryd.prog 40 #[slV b (5 * a) n c, .agg #[.int .i64 fg, .int .i64 bg, .int .i64 at_]] w fun e w' => e = .returned (.tuple #[]) ∧ CellsAt w' b (fillR l a n (fg, bg, at_)) cap ∧ Only [b] w w' := by
  unfold slV
  have hbl := h.lt
  have hA := BL.new w 33 [.int .i64 fg, .int .i64 bg, .int .i64 at_]
  have h0 := h.alloc (.cells #[.int .i64 fg, .int .i64 bg, .int .i64 at_] 33)
  have ho : Only [b] w (w.alloc (.cells #[.int .i64 fg, .int .i64 bg, .int .i64 at_] 33)) := (Only.refl _ _).alloc _
  go_enter Tryd.func40, Tryd.ntmps40
  go_wp2_with fail
  go_loopw [4, 7] (fun _ i wr => ∃ k : Nat, k ≤ n ∧ i = .int .i64 (k : Int) ∧ CellsAt wr b (fillR l a k (fg, bg, at_)) cap ∧ BL wr w.heap.size 33 [.int .i64 fg, .int .i64 bg, .int .i64 at_] ∧ Only [b] w wr) (fun _ i _ => n - (intOf i).toNat)
  case atStart => exact ⟨0, Nat.zero_le _, rfl, by rw [fillR_zero]; exact h0, hA, ho⟩
  case round =>
    obtain ⟨k, hk, rfl, hc, hA, ho⟩ := hrel
    clear h h0
    by_cases hlt : k < n
    · have hAl := hA.lt
      have hcl := hc.lt
      have hlen := fillR_len (l := l) (a := a) (n := k) (by omega) (fg, bg, at_)
      have hst := fillR_succ (l := l) (a := a) (n := k) (by omega) (fg, bg, at_)
      go_wp2_with (first
        | (refine wpList_load_row rfl 33 _ rfl w.heap.size rfl _ _ _ _ hA Tryd.underlying33 rfl (by kernel_rfl) ?_)
        | (go_at_call 60; refine (blank_any _ _ _ _).mono ?_; rintro _ w1 ⟨rfl, hb1⟩; have ho1 := ho.trans (Only.of_below hb1); have hc1 := hc.only (F := []) (Only.of_below hb1) (by simp); have hA1 := hA.only (F := []) (Only.of_below hb1) (by simp))
        | (refine wpList_store_cell rfl (.tmp 14) (.tmp 13) rfl b _ (a + k) cap _ _ _ _ _ _ rfl rfl hc1 (by omega) (by omega) ?_; intro w2 hc2 hw2))
      rw [hst] at hc2
      go_roundw
      case rel => exact ⟨k + 1, by omega, by go_num, hc2, hA1.only hw2.only (by simp; omega), hw2.2 _ _ ho1 (.inl (by simp))⟩
      case measure => simp [intOf]; omega
    · obtain rfl : k = n := by omega
      go_wp2_with fail
      exact body_end rfl rfl ⟨rfl, hc, ho⟩
end Go.Proofs.YtgjlohplgpcghaaDoor.Grd
/- A cut at a column of a row. -/
namespace Go.Proofs.YtgjlohplgpcghaaDoor.Grd
open Go.RowKit

/-- A row with a cut at column x. -/
def cutL (l : List Ce) (x : Nat) : List Ce :=
  if 1 ≤ x ∧ x < l.length ∧ (l.getD x default).2.1 = 0 then fillR l (x - 1) 2 (l.getD x default).2.2 else l
theorem cutL_len (l : List Ce) (x : Nat) : (cutL l x).length = l.length := by
  unfold cutL
  split
  · exact fillR_len (by omega) _
  · rfl
/-- The five values of a cell, at its place. -/
theorem CellsAt.five {w : World} {b cap : Nat} {l : List Ce} (h : CellsAt w b l cap) {i : Nat} (hi : i < l.length) :
    w.cell? ⟨b, i * 5, none⟩ = some (.int .i32 l[i].1) ∧ w.cell? ⟨b, i * 5 + 1, none⟩ = some (.int .i64 l[i].2.1) ∧ w.cell? ⟨b, i * 5 + 2, none⟩ = some (.int .i64 l[i].2.2.1) ∧ w.cell? ⟨b, i * 5 + 3, none⟩ = some (.int .i64 l[i].2.2.2.1) ∧ w.cell? ⟨b, i * 5 + 4, none⟩ = some (.int .i64 l[i].2.2.2.2) := by
  have hr := h.range hi
  rw [Nat.mul_comm 5 i] at hr
  exact ⟨hr 0 _ rfl, hr 1 _ rfl, hr 2 _ rfl, hr 3 _ rfl, hr 4 _ rfl⟩

set_option maxRecDepth 100000 in
set_option maxHeartbeats 1000000 in
theorem cut_any (b cap c x : Nat) (l : List Ce) (w : World) (h : CellsAt w b l cap) (hl : l.length ≤ 1000000) (hc : l.length ≤ c) (hx : x ≤ 1000000) :
    Calls Tryd.prog 37 #[slV b 0 l.length c, .int .i64 (x : Int)] w fun e w' => e = .returned (.tuple #[]) ∧ CellsAt w' b (cutL l x) cap ∧ Only [b] w w' := by
  unfold slV
  by_cases hx1 : 1 ≤ x ∧ x < l.length
  · obtain ⟨hx0, hx1⟩ := hx1
    obtain ⟨y, rfl⟩ : ∃ y, x = y + 1 := ⟨x - 1, by omega⟩
    have hyc : y + 2 ≤ c := by omega
    have hyc2 : y + 1 + 1 ≤ c := by omega
    obtain ⟨f0, f1, f2, f3, f4⟩ := h.five hx1
    have hg : l.getD (y + 1) default = l[y + 1] := by simp [hx1]
    have hCUT : Hid (cutL l (y + 1) = if l[y + 1].2.1 = 0 then fillR l y 2 l[y + 1].2.2 else l) := by
      show _ = _
      unfold cutL
      rw [hg]
      by_cases h0 : l[y + 1].2.1 = 0
      · rw [if_pos ⟨hx0, hx1, h0⟩, if_pos h0]; rfl
      · rw [if_neg (fun e => h0 e.2.2), if_neg h0]
    have hlk := h.look hx1
    obtain ⟨⟨r, wd, s1, s2, s3⟩, hq⟩ : ∃ q, l[y + 1] = q := ⟨_, rfl⟩
    rw [hq] at f0 f1 f2 f3 f4 hCUT hlk
    clear hg
    simp only at f0 f1 f2 f3 f4 hCUT hlk
    have hip := fun w => isPadding_any r wd s1 s2 s3 w
    by_cases h0 : wd = 0
    · subst h0
      have hbq : ((0 : Int) == 0) = true := rfl
      rw [hbq] at hip
      rw [if_pos rfl] at hCUT
      clear hbq
      go_enter Tryd.func37, Tryd.ntmps37
      go_wp2_with (go_at_call 54; refine (hip _).mono ?_; rintro _ w1 ⟨rfl, hb1⟩; have h1 := h.only (F := []) (Only.of_below hb1) (by simp))
      have g := h1.five hx1
      rw [hq] at g
      obtain ⟨g0, g1, g2, g3, g4⟩ := g
      simp only at g2 g3 g4
      clear f0 f1 f2 f3 f4 hip hlk g0 g1
      have hs : Only [b] w w1 := Only.of_below hb1
      have hfill := fun w h => fill_any b cap y 2 (c - y) l s1 s2 s3 w h (by omega) hl
      unfold slV at hfill
      have i0 : (0 : Int) ≤ (y : Int) := Int.natCast_nonneg _
      have i1 : (y : Int) ≤ (y : Int) + 1 + 1 := by omega
      have i2 : (y : Int) + 1 + 1 ≤ (c : Int) := by omega
      have j2 : IntKind.i64.wrap (y : Int) = (y : Int) := IntWalk.i64_in _ ⟨by omega, by omega⟩
      have i00 : (0 : Int) ≤ (y : Int) + 1 + 1 := by omega
      have j1 : IntKind.i64.wrap ((y : Int) + 1 + 1) = (y : Int) + 1 + 1 := IntWalk.i64_in _ ⟨by omega, by omega⟩
      have m1 : max ((y : Int) + 1 + 1) 0 = (y : Int) + 1 + 1 := by omega
      have t1 : ((y : Int) + 1 + 1).toNat - y = 2 := by omega
      have cy : ¬ c = y := by omega
      rw [Nat.mul_comm 5 y] at hfill
      have h1d : CellsAt w1.drew b l cap := h1
      have hsd : Only [b] w w1.drew := hs.drew
      go_region_with (go_at_call 40; refine (hfill _ h1d).mono ?_; rintro _ w2 ⟨rfl, hc2, ho2⟩)
      exact body_end rfl rfl ⟨rfl, by rw [hCUT.out]; exact hc2, hsd.trans ho2⟩
    · have hbq : (wd == 0) = false := by simpa using h0
      rw [hbq] at hip
      rw [if_neg h0] at hCUT
      clear hbq h0
      go_enter Tryd.func37, Tryd.ntmps37
      go_wp2_with (go_at_call 54; refine (hip _).mono ?_; rintro _ w1 ⟨rfl, hb1⟩; have h1 := h.only (F := []) (Only.of_below hb1) (by simp))
      exact bodyPost_ret (results_none rfl _ _) rfl ⟨rfl, by rw [hCUT.out]; exact h1, Only.of_below hb1⟩
  · have hCUT : Hid (cutL l x = l) := by
      show _ = _
      unfold cutL
      rw [if_neg (fun e => hx1 ⟨e.1, e.2.1⟩)]
    by_cases hx0 : x < 1
    · clear hx1
      go_enter Tryd.func37, Tryd.ntmps37
      go_wp2_with fail
      exact bodyPost_ret (results_none rfl _ _) rfl ⟨rfl, by rw [hCUT.out]; exact h, Only.refl _ _⟩
    · have hx2 : l.length ≤ x := by omega
      clear hx1
      go_enter Tryd.func37, Tryd.ntmps37
      go_wp2_with fail
      exact bodyPost_ret (results_none rfl _ _) rfl ⟨rfl, by rw [hCUT.out]; exact h, Only.refl _ _⟩
end Go.Proofs.YtgjlohplgpcghaaDoor.Grd
