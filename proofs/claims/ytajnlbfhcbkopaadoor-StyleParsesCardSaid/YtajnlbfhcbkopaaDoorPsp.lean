/- Package style's Parse: what it stands on. -/
import Derived.Test.YtajnlbfhcbkopaaDoorTrn
import Derived.Test.YtajnlbfhcbkopaaDoorItm
namespace Go.Proofs.YtajnlbfhcbkopaaDoor.Sty
open Go.RowKit

/-- What items, one by one, make of a look. -/
noncomputable def foldS (over : St) : St → List Tx → Option St
  | now, [] => some now
  | now, q :: r => if q = tDefault then foldS over over r else match turnS now q with
    | some t => foldS over t r
    | none => none
noncomputable def parseS (l : Tx) (over : St) : Option St := foldS over over (items (low l))
/-- What Parse answers. -/
noncomputable def parseV (l : Tx) (over : St) : Value :=
  if 256 < l.length then .tuple #[.agg #[.int .i64 0, .int .i64 0, .int .i64 0], .int .i64 2]
  else match parseS l over with
    | some t => .tuple #[styV t, .int .i64 0]
    | none => .tuple #[.agg #[.int .i64 0, .int .i64 0, .int .i64 0], .int .i64 4]

theorem parts_pays (w : World) : PredAtRunes Tryd.prog 41 #[] isSepR w := fun W x hx _ => by
  unfold FnGives
  have hx2 : (x : Int) ≤ 1114111 := by omega
  by_cases h1 : x = 44
  · have c1 : ((x : Int) == 44) = true := by simp [h1]
    rw [(isSepR_iff x).2 (.inl h1)]
    clear h1
    go_enter Tryd.func41, Tryd.ntmps41
    go_wp2
    go_ret
    exact ⟨rfl, 0, rfl⟩
  · by_cases h2 : x = 32
    · have c1 : ((x : Int) == 44) = false := by simp [h2]
      have c2 : ((x : Int) == 32) = true := by simp [h2]
      rw [(isSepR_iff x).2 (.inr h2)]
      clear h1 h2
      go_enter Tryd.func41, Tryd.ntmps41
      go_wp2
      go_ret
      exact ⟨rfl, 0, rfl⟩
    · have c1 : ((x : Int) == 44) = false := by simp; omega
      have c2 : ((x : Int) == 32) = false := by simp; omega
      have c3 : isSepR x = false := by
        cases h : isSepR x
        · rfl
        · have := (isSepR_iff x).1 h
          omega
      rw [c3]
      clear h1 h2 c3
      go_enter Tryd.func41, Tryd.ntmps41
      go_wp2
      go_ret
      exact ⟨rfl, 0, rfl⟩

section
variable {P : Program} {ops : Array Oper} {rest : List Oper} {op : Oper} {a : Act} {w : World} {Q : Exit → Act → World → Prop}
/-- A store of a whole row: no other block turns. -/
theorem wpList_store_row2 (hgd : op.guard = none) (ty : TypeId) (x y : Operand) (ho : op.op = .store ty x y) (g : Nat) (cells : Array Value) (hx : a.eval x = .pointer (some ⟨g, 0, none⟩)) (hy : a.eval y = .agg cells)
    (t : TypeId) (old : Array Value) (hg : Blk w g t old) (hi : (P.info? ty).map (·.size) = some cells.size) (hold : old.size = cells.size) (h1 : cells.all (·.oneCell') = true)
    (h : ∀ w1, Blk w1 g t cells → (∀ B, B ≤ g → Below B w w1) → (∀ k, k ≠ g → w1.heap[k]? = w.heap[k]?) → w1.heap.size = w.heap.size → wpList P ops Q rest (a.put op.dst undef) w1) : wpList P ops Q (op :: rest) a w :=
  wpList_store_row hgd ty x y ho g cells hx hy t old hg hi hold h1
    (h _ (setRow_heap w g old cells _ _ hg) (fun B hB => ⟨rfl, rfl, rfl, by simp, fun k hk => setRow_other w g k _ (by omega)⟩) (fun k hk => setRow_other w g k _ hk) (by simp))
end
/-- A row of texts. -/
def RowS (w : World) (g : Nat) (xs : List Tx) : Prop := ∃ cur fz, w.heap[g]? = some (.cells cur 9 fz) ∧ ∀ (j : Nat) x, xs[j]? = some x → cur[j]? = some (.string (bs x))
theorem RowS.cell {w : World} {g : Nat} {xs : List Tx} (h : RowS w g xs) (j : Nat) (x : Tx) (hx : xs[j]? = some x) : w.cell? ⟨g, j, none⟩ = some (.string (bs x)) := by
  obtain ⟨cur, fz, h1, h2⟩ := h
  rw [cell_of_row w g j cur _ fz h1]
  exact h2 j x hx
theorem RowS.lt {w : World} {g : Nat} {xs : List Tx} (h : RowS w g xs) : g < w.heap.size := by
  obtain ⟨cur, fz, h1, _⟩ := h
  exact (Array.getElem?_eq_some_iff.1 h1).1
theorem RowS.keep {w w' : World} {g : Nat} {xs : List Tx} (h : RowS w g xs) (e : w'.heap[g]? = w.heap[g]?) : RowS w' g xs := by
  obtain ⟨cur, fz, h1, h2⟩ := h
  exact ⟨cur, fz, e.trans h1, h2⟩
theorem AttrMap.keep {w w' : World} {g : Nat} (h : AttrMap w g) (e : w'.heap[g]? = w.heap[g]?) : AttrMap w' g := by
  obtain ⟨es, clock, h1, h2⟩ := h
  exact ⟨es, clock, e.trans h1, h2⟩
theorem Blk.keep {w w' : World} {g : Nat} {t : TypeId} {cs : Array Value} (h : Blk w g t cs) (e : w'.heap[g]? = w.heap[g]?) : Blk w' g t cs := e.trans h
theorem rowS_of {w : World} {base g n c : Nat} {xs : List Tx} (h : w.ownsRow base 9 1 (.slice (some ⟨g, 0, none⟩) n c) n ((xs.map bs).map Value.string)) : RowS w g xs := by
  obtain ⟨h1, h2⟩ := h
  rcases h2 with ⟨h3, _⟩ | ⟨g', cap, cur, h3, k1, k2, k3, k4, k5, k6⟩
  · cases h3
  · injection h3 with e1 e2 e3
    injection e1 with e1
    injection e1 with e1
    subst e1
    refine ⟨cur, _, k2, fun j x hx => ?_⟩
    have hj : j < xs.length := (List.getElem?_eq_some_iff.1 hx).1
    have h8 : (cur.toList.take (n * 1))[j]? = ((xs.map bs).map Value.string)[j]? := by rw [k6]
    have hn : xs.length = n := by simpa using h1
    rw [List.getElem?_take, if_pos (by omega)] at h8
    rw [← Array.getElem?_toList, h8]
    simp [hx]
end Go.Proofs.YtajnlbfhcbkopaaDoor.Sty
