/- Several values stored at once. -/
import Derived.Test.YtbiinghmopgjnaaGreatDoorFha
import Derived.Deep.MidRow
namespace Go.Proofs.YtbiinghmopgjnaaGreatDoor.Fmt
open Go.RowKit
def splice (xs : List Value) (o : Nat) (vs : List Value) : List Value := xs.take o ++ vs ++ xs.drop (o + vs.length)
theorem splice_len {xs vs : List Value} {o : Nat} (h : o + vs.length ≤ xs.length) : (splice xs o vs).length = xs.length := by
  unfold splice; simp only [List.length_append, List.length_take, List.length_drop]; omega
theorem splice_nil (xs : List Value) (o : Nat) : splice xs o [] = xs := by unfold splice; simp
theorem splice_cons {xs : List Value} {o : Nat} (v : Value) (vs : List Value) (h : o + (vs.length + 1) ≤ xs.length) : splice (xs.set o v) (o + 1) vs = splice xs o (v :: vs) := by
  unfold splice
  rw [List.length_cons, List.take_set, List.drop_set_of_lt (by omega), List.take_succ_eq_append_getElem (by omega), List.set_append_right _ _ (by rw [List.length_take]; omega)]
  rw [List.length_take, Nat.min_eq_left (by omega), Nat.sub_self]
  simp only [List.set_cons_zero, List.append_assoc, List.cons_append, List.nil_append]
  rw [show o + 1 + vs.length = o + (vs.length + 1) by omega]
theorem BL.setCells {b : Nat} {t : TypeId} : ∀ (vs : List Value) {w : World} {xs : List Value} (o : Nat), BL w b t xs → o + vs.length ≤ xs.length → BL (w.setCells b o vs) b t (splice xs o vs)
  | [], w, xs, o, h, _ => by rw [splice_nil]; exact h
  | v :: vs, w, xs, o, h, hl => by
    rw [World.setCells]
    rw [List.length_cons] at hl
    have := BL.setCells vs (o + 1) (h.set_ o v) (by rw [List.length_set]; omega)
    rwa [splice_cons v vs (by omega)] at this

theorem setCells_far (b : Nat) : ∀ (vs : List Value) (o : Nat) (w : World), (w.setCells b o vs).heap.size = w.heap.size ∧ (w.setCells b o vs).os = w.os ∧ (w.setCells b o vs).tape = w.tape ∧ (w.setCells b o vs).output = w.output ∧ ∀ k, k ≠ b → (w.setCells b o vs).heap[k]? = w.heap[k]?
  | [], o, w => ⟨rfl, rfl, rfl, rfl, fun _ _ => rfl⟩
  | v :: vs, o, w => by
    rw [World.setCells]
    obtain ⟨h1, h2, h3, h4, h5⟩ := setCells_far b vs (o + 1) (w.setCell ⟨b, o, none⟩ v)
    exact ⟨by rw [h1]; simp [World.setCell], h2, h3, h4, fun k hk => by rw [h5 k hk]; exact Below.heap_setCell w ⟨b, o, none⟩ v k hk⟩
theorem Only.setCells {F : List Nat} {a w : World} (h : Only F a w) (b o : Nat) (vs : List Value) (hb : b ∈ F ∨ a.heap.size ≤ b) : Only F a (w.setCells b o vs) := by
  obtain ⟨h1, h2, h3, h4, h5⟩ := setCells_far b vs o w
  exact ⟨h2.trans h.os, h3.trans h.tape, h4.trans h.output, by rw [h1]; exact h.size, fun k hk hn => by
    rw [h5 k (fun e => by subst e; rcases hb with x | x; exact hn x; omega)]; exact h.block k hk hn⟩
theorem splice_all {xs vs : List Value} (h : xs.length = vs.length) : splice xs 0 vs = vs := by
  unfold splice
  rw [List.take_zero, List.nil_append, Nat.zero_add, ← h, List.drop_length, List.append_nil]
section
variable {P : Program} {ops : Array Oper} {rest : List Oper} {op : Oper} {a : Act} {w : World} {Q : Exit → Act → World → Prop}
/-- Values are written into a block, from a place on. -/
theorem wpList_store_at (hgd : op.guard = none) (ty : TypeId) (x y : Operand) (ho : op.op = .store ty x y) (g o : Nat) (vs : List Value) (hx : a.eval x = .pointer (some ⟨g, o, none⟩)) (hy : a.eval y = .agg vs.toArray)
    (t : TypeId) (cur : List Value) (hg : BL w g t cur) (hl : o + vs.length ≤ cur.length) (hi : (P.info? ty).map (·.size) = some vs.length) (h1 : vs.toArray.all (·.oneCell') = true)
    (h : ∀ w1, BL w1 g t (splice cur o vs) → Only [g] w w1 → w1.heap.size = w.heap.size → wpList P ops Q rest (a.put op.dst undef) w1) : wpList P ops Q (op :: rest) a w := by
  have hb := hg.setCells vs o hl
  refine wpList_store_mid hgd ty x y ho g o vs.toArray hx hy (hg.there (by simp; omega)) (by simpa using hi) h1 ?_
  exact h _ hb ((Only.refl [g] w).setCells g o vs (.inl (by simp))) (setCells_far g vs o w).1
end
theorem results_ct {P : Program} {fn : Func} {p u : Tmp} {ty : TypeId} (h : fn.results = #[.cell p ty, .tmp u]) (tmps : Array Value) (w : World) (g : Nat) (t : TypeId) (cs : List Value) (d : TypeDesc)
    (hp : tmps.getD p undef = .pointer (some ⟨g, 0, none⟩)) (hg : BL w g t cs) (hu : P.underlying ty = some d) (hd : d.isRow = true) (hi : (P.info? ty).map (·.size) = some cs.length) :
    (results fn tmps).run P w = .ok (.tuple #[.agg cs.toArray, tmps.getD u undef]) w := by
  have hp' : tmps[p]?.getD undef = .pointer (some ⟨g, 0, none⟩) := by simpa using hp
  simp [results, h, hp', asAddr, run_loadVar_mid w g 0 ty cs d (hg.range (fun j v hj => by simpa using hj)) hu hd hi]
end Go.Proofs.YtbiinghmopgjnaaGreatDoor.Fmt
