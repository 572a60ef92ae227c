/- A list of runes appended to another one, both of the call's own. -/
import Derived.Test.YtmnembhfbboljaaDoorShow
import Derived.Laws.AppendOwnNone
namespace Go.Proofs.YtmnembhfbboljaaDoor.Cel
open Go.RowKit

section
variable {ops : Array Oper} {rest : List Oper} {op : Oper} {a : Act} {w : World} {Q : Exit → Act → World → Prop}
theorem wpList_append_list (hgd : op.guard = none) (s x : Operand) (ho : op.op = .call { callee := .builtin .append, args := #[s, x], argTypes := #[27, 27] })
    (base base' : Nat) (v u : Value) (l k : List Int) (hs : a.eval s = v) (hown : Owns w base v l) (hx : a.eval x = u) (hu : Owns w base' u k) (hbase : base ≤ w.heap.size) (hn : l.length + k.length ≤ 1099511627776)
    (h : ∀ v' w', Owns w' base v' (l ++ k) → Kept w w' (fun j => v.ownBlock = some j) → (v'.ownBlock = v.ownBlock ∨ ∃ j, v'.ownBlock = some j ∧ w.heap.size ≤ j) → wpList Tryd.prog ops Q rest (a.put op.dst v') w') :
    wpList Tryd.prog ops Q (op :: rest) a w := by
  obtain ⟨i0, hi0, hz0, hz1, hz2⟩ := info_parts info_rune
  by_cases hk : k = []
  · subst hk
    rcases hu.2 with ⟨rfl, _⟩ | ⟨g, cap, cur, rfl, _, hh, _⟩
    · refine wpList_append_own_none hgd s x 27 ho base 21 i0 1 Tryd.underlying27 hi0 v l.length (zs l) hs hown hx ?_
      exact h v w (by rw [List.append_nil]; exact hown) (Kept.refl _ _) (.inl rfl)
    · refine wpList_append_own_at _ hgd s x 27 ho base 21 i0 (.int .i32 0) 1 4 Tryd.underlying27 hi0 hz0 hz1 hz2 rfl (by decide) v l.length (zs l) hs hown ⟨g, 0, none⟩ 0 cap [] hx rfl (by intro j u hj; simp at hj)
        (by intro u hu; simp at hu) (by unfold maxLen; simp at hn; omega) (by simp at hn; omega) hbase ?_
      intro v' w' h1 h2 _ h4
      refine h v' w' ?_ ((Kept.refl w _).grown h2 fun j hj _ => hj) ?_
      · show w'.ownsRow base 21 1 v' (l ++ []).length (zs (l ++ []))
        rw [List.append_nil]
        simpa using h1
      · rcases h4 with h4 | h4
        · exact .inl h4
        · exact .inr ⟨_, h4, Nat.le_refl _⟩
  · rcases hu.2 with ⟨rfl, h0⟩ | ⟨g, cap, cur, rfl, _, hh, _⟩
    · exact absurd (List.eq_nil_of_length_eq_zero h0) hk
    · refine wpList_append_own_at _ hgd s x 27 ho base 21 i0 (.int .i32 0) 1 4 Tryd.underlying27 hi0 hz0 hz1 hz2 rfl (by decide) v l.length (zs l) hs hown ⟨g, 0, none⟩ k.length cap (zs k) hx (by rw [zs_length]; omega) (hu.cells (g := g) rfl)
        (by intro u hu; simp [zs] at hu; obtain ⟨r, _, rfl⟩ := hu; rfl) (by unfold maxLen; omega) (by omega) hbase ?_
      intro v' w' h1 h2 _ h4
      refine h v' w' ?_ ((Kept.refl w _).grown h2 fun j hj _ => hj) ?_
      · show w'.ownsRow base 21 1 v' (l ++ k).length (zs (l ++ k))
        rw [List.length_append, zs_append]
        exact h1
      · rcases h4 with h4 | h4
        · exact .inl h4
        · exact .inr ⟨_, h4, Nat.le_refl _⟩
end

/-- What stands for a number that is no rune. -/
def mend (r : Int) : Int := if Utf8.valid r = true then r else 65533
theorem mend_good (r : Int) : good (mend r) := by
  unfold mend
  split
  · rename_i h
    rw [validRune_eq] at h
    unfold validRune at h
    simp at h
    unfold good
    omega
  · unfold good; omega
theorem mend_enc (r : Int) : enc (mend r) = enc r := by
  unfold mend
  split
  · rfl
  · rename_i h
    have hv : Utf8.valid r = false := by simpa using h
    unfold enc Utf8.encode
    simp only [hv]
    rfl
theorem mend_bytes (ns : List Int) : bytes (ns.map mend) = bytes ns := by
  induction ns with
  | nil => rfl
  | cons r ns ih => rw [List.map_cons, bytes_cons, bytes_cons, mend_enc, ih]
theorem runes_any_bytes (ns : List Int) (l : List UInt8) : runes (bytes ns ++ l) = ns.map mend ++ runes l := by
  rw [← mend_bytes]
  exact runes_behind _ _ fun r hr => by
    obtain ⟨x, _, rfl⟩ := List.mem_map.1 hr
    exact mend_good x
theorem runes_any_bytes0 (ns : List Int) : runes (bytes ns) = ns.map mend := by
  have h := runes_any_bytes ns []
  rw [List.append_nil] at h
  rw [h]
  simp [runes, run, lost, zero]
/-- Two lists that are owned. -/
theorem same_owned (v u : Value) (base base' : Nat) (l k : List Int) (w : World) (h : Owns w base v l) (h' : Owns w base' u k) (hl : l.length ≤ 1099511627776) (b : Bool) (hb : decide (l = k) = b) :
    Calls Tryd.prog 14 #[v, u] w fun e w' => e = .returned (.bool b) ∧ Below w.heap.size w w' := by
  obtain ⟨A, d, rfl, hrd, _⟩ := Owns.rd h
  obtain ⟨B, c, rfl, hrd', _⟩ := Owns.rd h'
  exact (same_any l k A B d c w hrd hrd' hl).mono fun e w' ⟨he, hw⟩ => ⟨by rw [he, hb], hw⟩
end Go.Proofs.YtmnembhfbboljaaDoor.Cel
