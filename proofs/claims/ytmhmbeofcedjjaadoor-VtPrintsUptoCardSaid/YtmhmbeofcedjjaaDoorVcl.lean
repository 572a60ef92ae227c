/- The walks of slices.Clone at ints and of a Feed's telling of what was begun. -/
import Derived.Test.YtmhmbeofcedjjaaDoorVpt
import Derived.Laws.BytesArg
import Derived.Lib.SliceRun
import Derived.Laws.IdiomStrings
namespace Go.Proofs.YtmhmbeofcedjjaaDoor.Vt
open Go.RowKit
open Cel (Blk Kept Tabs low Owns At)

theorem info_int : (Tryd.prog.info? 3).map (fun i => (i.zero, i.size, i.bytes)) = some (some (.int .i64 0), 1, 8) := by kernel_rfl
theorem ints_one (l : List Int) : ∀ u ∈ ints l, u.oneCell' = true := by
  intro u hu
  obtain ⟨z, _, rfl⟩ := List.mem_map.1 hu
  rfl
section
variable {ops : Array Oper} {rest : List Oper} {op : Oper} {a : Act} {w : World} {Q : Exit → Act → World → Prop}
/-- Ints appended to a list of the call's own. -/
theorem wpList_append_ints (hgd : op.guard = none) (s x : Operand) (ho : op.op = .call { callee := .builtin .append, args := #[s, x], argTypes := #[28, 28] })
    (base : Nat) (v : Value) (l k : List Int) (g m c : Nat) (hs : a.eval s = v) (hown : Ints w base v l) (hx : a.eval x = .slice (some ⟨g, 0, none⟩) m c) (hm : m = k.length) (hg : ∀ (j : Nat) (z : Int), k[j]? = some z → w.cell? ⟨g, j, none⟩ = some (.int .i64 z)) (hbase : base ≤ w.heap.size) (hn : l.length + k.length ≤ 4294967296)
    (h : ∀ v' w', Ints w' base v' (l ++ k) → Kept w w' (fun j => v.ownBlock = some j) → (v'.ownBlock = v.ownBlock ∨ ∃ j, v'.ownBlock = some j ∧ w.heap.size ≤ j) → wpList Tryd.prog ops Q rest (a.put op.dst v') w') :
    wpList Tryd.prog ops Q (op :: rest) a w := by
  subst hm
  obtain ⟨i0, hi0, hz0, hz1, hz2⟩ := info_parts info_int
  refine wpList_append_own_at _ hgd s x 28 ho base 3 i0 _ 1 8 Tryd.underlying28 hi0 hz0 hz1 hz2 rfl (by decide) v l.length (ints l) hs hown ⟨g, 0, none⟩ k.length c (ints k) hx (by rw [ints_len]; omega) ?_ (ints_one k) (by unfold maxLen; omega) (by omega) hbase ?_
  · intro j u hj
    have ha : (⟨g, 0, none⟩ : Addr).add j = ⟨g, j, none⟩ := by unfold Addr.add; split <;> simp_all
    unfold ints at hj
    rw [List.getElem?_map] at hj
    obtain ⟨z, hz, rfl⟩ := Option.map_eq_some_iff.1 hj
    rw [ha]
    exact hg j z hz
  · intro v' w' h1 h2 _ h4
    refine h v' w' ?_ ((Kept.refl w _).grown h2 fun j hj _ => hj) ?_
    · show w'.ownsRow base _ 1 v' (l ++ k).length (ints (l ++ k))
      rw [List.length_append, ints_app]
      exact h1
    · rcases h4 with h4 | h4
      · exact .inl h4
      · exact .inr ⟨_, h4, Nat.le_refl _⟩
end
theorem ints_cell {w : World} {base : Nat} {g m c : Nat} {l : List Int} (h : Ints w base (.slice (some ⟨g, 0, none⟩) m c) l) (k : Nat) (z : Int) (hk : l[k]? = some z) : w.cell? ⟨g, k, none⟩ = some (.int .i64 z) := by
  have := h.cells (g := g) rfl k (.int .i64 z) (by simp [ints, hk])
  have e : (⟨g, 0, none⟩ : Addr).add k = ⟨g, k, none⟩ := by unfold Addr.add; split <;> simp_all
  rw [e] at this
  exact this
theorem own_some2 {w : World} {base e size n : Nat} {v : Value} {xs : List Value} (h : w.ownsRow base e size v n xs) (hn : n ≠ 0) : ∃ g m cap, v = .slice (some ⟨g, 0, none⟩) m cap ∧ m = n := by
  rcases h.2 with ⟨_, h0⟩ | ⟨g, cap, cur, rfl, _⟩
  · exact absurd h0 hn
  · exact ⟨g, _, cap, rfl, rfl⟩
set_option maxRecDepth 100000 in
theorem clone_any {w : World} {B : Nat} {v : Value} {l : List Int} (h : Ints w B v l) (hnil : l = [] → v = nilV) (hn : l.length ≤ 4294967296) :
    Calls Tryd.prog 57 #[v] w fun e w' => ∃ v', e = .returned v' ∧ Ints w' w.heap.size v' l ∧ Below w.heap.size w w' := by
  by_cases hl : l = []
  · rw [hnil hl]
    subst hl
    have hq := fun (w : World) => Lib.run_eql_slice_nil (P := Tryd.prog) w 28 3 none 0 0 0 0 Tryd.underlying28
    go_enter Tryd.func57, Tryd.ntmps57
    go_wp2
    go_ret
    exact ⟨_, rfl, ints_nil _ _, Below.refl _ _⟩
  · have hl0 : l.length ≠ 0 := fun e => hl (List.eq_nil_of_length_eq_zero e)
    obtain ⟨g, m, cap, rfl, e2⟩ := own_some2 h hl0
    have HM := Lib.hid e2
    have hgl := (h.lt g rfl).2
    have hn' : ([] : List Int).length + l.length ≤ 4294967296 := by simpa using hn
    have hq := fun (w : World) => Lib.run_eql_slice_nil (P := Tryd.prog) w 28 3 (some ⟨g, 0, none⟩) m cap 0 0 Tryd.underlying28
    clear e2 hnil
    have hown : Ints (w.alloc (.cells #[] 3)) w.heap.size (.slice (some ⟨w.heap.size, 0, none⟩) 0 0) [] := World.ownsRow_made w #[] 0 (Nat.le_refl _) (by unfold maxLen; omega) rfl
    have hsrc : ∀ (j : Nat) (z : Int), l[j]? = some z → (w.alloc (.cells #[] 3)).cell? ⟨g, j, none⟩ = some (.int .i64 z) := fun j z hj => ints_cell (h.alloc _) j z hj
    go_enter Tryd.func57, Tryd.ntmps57
    go_wp2_with (at_builtin; refine wpList_append_ints rfl (.tmp 5) (.tmp 6) rfl w.heap.size (.slice (some ⟨w.heap.size, 0, none⟩) 0 0) [] l g m cap rfl hown rfl HM.out hsrc (by simp) hn' ?_; intro v' w2 ho2 hk2 hat2)
    go_ret
    refine ⟨_, rfl, ho2, ((Below.refl _ _).alloc (Nat.le_refl _) _).trans (hk2.below (by simp) fun k hk e => ?_)⟩
    have e2 : w.heap.size = k := by injection e
    omega
end Go.Proofs.YtmhmbeofcedjjaaDoor.Vt
