/- strings.Join of a list of the call's own. -/
import Derived.Test.YtajnlbfhcbkopaaDoorEqs
namespace Go.Proofs.YtajnlbfhcbkopaaDoor.Sty
open Go.RowKit

theorem join_len (s : Tx) (m : Nat) : ∀ L : List Tx, (∀ x ∈ L, x.length ≤ m) → (Lib.join L s).length ≤ L.length * (m + s.length)
  | [], _ => by simp [Lib.join, List.intercalate]
  | [x], h => by
    have := h x (by simp)
    simp [Lib.join, List.intercalate]
    omega
  | x :: y :: r, h => by
    have h1 := h x (by simp)
    have h2 := join_len s m (y :: r) (fun z hz => h z (by simp [hz]))
    have e : Lib.join (x :: y :: r) s = x ++ s ++ Lib.join (y :: r) s := by simp [Lib.join, List.intercalate]
    rw [e, List.length_append, List.length_append]
    simp only [List.length_cons, Nat.add_mul] at h2 ⊢
    omega
theorem join_any (v : Value) (L : List Tx) (base : Nat) (w : World) (h : w.ownsRow base 9 1 v L.length (strv L)) (hL : L.length ≤ 100) (hx : ∀ x ∈ L, x.length ≤ 100) :
    Calls Tryd.prog 48 #[v, .string { data := #[59] }] w fun e w' => e = .returned (.string (bs (Lib.join L [59]))) ∧ Below w.heap.size w w' := by
  have hlt := h.lt
  obtain ⟨h1, h2⟩ := h
  rcases h2 with ⟨rfl, h0⟩ | ⟨g, cap, cur, rfl, k1, k2, k3, k4, k5, k6⟩
  · have e : L = [] := List.eq_nil_of_length_eq_zero h0
    subst e
    refine (Tryd.strings_Join_none none 0 { data := #[59] } w).mono fun e w' ⟨he, hw⟩ => ⟨?_, ?_⟩
    · rw [he]; rfl
    · rw [hw]; exact Below.refl _ _
  · have hgl : g < w.heap.size := (hlt g rfl).2
    have e1 : (L.map bs).map (fun x => x.data.toList) = L := by
      rw [List.map_map]
      conv => rhs; rw [← List.map_id L]
      exact List.map_congr_left fun x _ => bs_list x
    have hj := Tryd.strings_Join g 0 cap (L.map bs) { data := #[59] } w (fun j x hjx => by
      rw [List.getElem?_map] at hjx
      obtain ⟨y, hy, rfl⟩ := Option.map_eq_some_iff.1 hjx
      have hjl : j < L.length := (List.getElem?_eq_some_iff.1 hy).1
      rw [Nat.zero_add, cell_of_row w g j cur _ _ k2, ← Array.getElem?_toList]
      have h8 : (cur.toList.take (L.length * 1))[j]? = (strv L)[j]? := by rw [k6]
      rw [List.getElem?_take, if_pos (by omega)] at h8
      rw [h8]
      simp [strv, hy]) hgl (by rw [List.length_map]; omega) (by rw [List.length_map]; omega) (by
        rw [e1]
        have hj1 : (Lib.join L [59]).length ≤ L.length * 101 := join_len [59] 100 L hx
        show (Lib.join L [59]).length ≤ _
        omega)
    rw [e1, List.length_map] at hj
    exact hj
end Go.Proofs.YtajnlbfhcbkopaaDoor.Sty
