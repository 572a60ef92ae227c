/- The walk of withByte: numbers, and a digit or a ; behind. -/
import Derived.Test.YtmhmbeofcedjjaaDoorVhe
import Derived.Laws.OwnMore
namespace Go.Proofs.YtmhmbeofcedjjaaDoor.Vt
open Go.RowKit
open Cel (Blk Kept Tabs low Owns At)

/-- What withByte leaves. -/
def Wb (w : World) (B : Nat) (v : Value) (l : List Int) (x : Int) (e : Ending) (w' : World) : Prop :=
  ∃ v', e = .returned v' ∧ Ints w' B v' (withB l x) ∧ Kept w w' (fun i => v.ownBlock = some i) ∧ ∀ i, v'.ownBlock = some i → v.ownBlock = some i ∨ w.heap.size ≤ i
theorem wb_store {w : World} {B g m cap : Nat} {l0 : List Int} {z x y : Int} (h : Ints w B (.slice (some ⟨g, 0, none⟩) (m + 1) cap) (l0 ++ [z])) (hm : l0.length = m) (hx : x ≠ 59) (hy : y = min (max z 0 * 10 + (x - 48)) 9999) :
    Ints (w.setCell ⟨g, m, none⟩ (.int .i64 y)) B (.slice (some ⟨g, 0, none⟩) (m + 1) cap) (withB (l0 ++ [z]) x) ∧ Kept w (w.setCell ⟨g, m, none⟩ (.int .i64 y)) (fun i => (Value.slice (some ⟨g, 0, none⟩) (m + 1) cap).ownBlock = some i) := by
  have hl : (l0 ++ [z]).length = m + 1 := by simp [hm]
  have h2 : w.ownsRow B 3 1 (.slice (some ⟨g, 0, none⟩) (m + 1) cap) (m + 1) (ints (l0 ++ [z])) := by have := h; rw [Ints, hl] at this; exact this
  have e : withB (l0 ++ [z]) x = l0 ++ [y] := by
    have e1 : more1 (l0 ++ [z]) = l0 ++ [z] := by unfold more1; rw [if_neg (by simp)]
    have e2 : lastOf (l0 ++ [z]) = z := by unfold lastOf; rw [hl, Nat.add_sub_cancel, List.getD_eq_getElem?_getD, List.getElem?_append_right (by omega)]; simp [hm]
    unfold withB
    rw [if_pos hx, e1]
    unfold digit
    rw [e2, hl, Nat.add_sub_cancel, ← hy, List.set_append_right _ _ (by omega)]
    simp [hm]
  obtain ⟨a, b⟩ := World.ownsRow.stored h2 m (.int .i64 y)
  refine ⟨?_, (Kept.refl w _).grown b fun k hk _ => hk⟩
  rw [e]
  show World.ownsRow _ _ _ _ _ (l0 ++ [y]).length _
  have hl2 : (l0 ++ [y]).length = m + 1 := by simp [hm]
  rw [hl2]
  have e3 : (ints (l0 ++ [z])).set m (.int .i64 y) = ints (l0 ++ [y]) := by
    rw [ints_app, ints_app, List.set_append_right _ _ (by rw [ints_len]; omega), ints_len, hm]
    simp [ints]
  rw [← e3]
  exact a
theorem wb_c {w : World} {B g m cap : Nat} {l0 : List Int} {z x y : Int} (h : Ints w B (.slice (some ⟨g, 0, none⟩) (m + 1) cap) (l0 ++ [z])) (hm : l0.length = m) (hx : x ≠ 59) (hy : y = min (max z 0 * 10 + (x - 48)) 9999) :
    Wb w B (.slice (some ⟨g, 0, none⟩) (m + 1) cap) (l0 ++ [z]) x (.returned (.slice (some ⟨g, 0, none⟩) (m + 1) cap)) (w.setCell ⟨g, m, none⟩ (.int .i64 y)) := by
  obtain ⟨a, b⟩ := wb_store h hm hx hy
  exact ⟨_, rfl, a, b, fun i hi => .inl hi⟩
set_option maxRecDepth 100000 in
/-- A digit, behind numbers. -/
theorem withByte_c {w : World} {B g m cap : Nat} {l0 : List Int} {z x : Int} (h : Ints w B (.slice (some ⟨g, 0, none⟩) (m + 1) cap) (l0 ++ [z])) (hm : l0.length = m) (hm2 : m ≤ 40) (hz0 : -1 ≤ z) (hz1 : z ≤ 9999) (hx : x ≠ 59) (hx0 : 48 ≤ x) (hx1 : x ≤ 255) :
    Calls Tryd.prog 63 #[.slice (some ⟨g, 0, none⟩) (m + 1) cap, .int .u8 x] w (Wb w B (.slice (some ⟨g, 0, none⟩) (m + 1) cap) (l0 ++ [z]) x) := by
  have hc := ints_cell h m z (by rw [← hm]; simp)
  have hf : w.frozen? ⟨g, m, none⟩ = false := World.ownsRow.frozenAt (n := m + 1) (by have := h; simp only [Ints, List.length_append, List.length_singleton, hm] at this; exact this) m
  have H := Lib.hid h
  clear h
  go_enter Tryd.func63, Tryd.ntmps63
  go_wp2
  all_goals
    go_ret
    refine wb_c H.out hm hx ?_
    omega
theorem new_one (w : World) (B : Nat) (hB : B ≤ w.heap.size) (z : Int) : Ints (w.alloc (.cells #[.int .i64 z] 3)) B (.slice (some ⟨w.heap.size, 0, none⟩) 1 1) [z] :=
  ⟨rfl, .inr ⟨w.heap.size, 1, #[.int .i64 z], rfl, hB, Blk.new w _ _, Nat.le_refl _, by unfold maxLen; omega, rfl, rfl⟩⟩
set_option maxRecDepth 100000 in
/-- A digit, the first of all. -/
theorem withByte_a {w : World} {B : Nat} {x : Int} (hB : B ≤ w.heap.size) (hx : x ≠ 59) (hx0 : 48 ≤ x) (hx1 : x ≤ 255) :
    Calls Tryd.prog 63 #[nilV, .int .u8 x] w (Wb w B nilV [] x) := by
  obtain ⟨o, ho⟩ : ∃ o, o = Obj.cells #[.int .i64 (-1)] 3 := ⟨_, rfl⟩
  have h : Ints (w.alloc o) B (.slice (some ⟨w.heap.size, 0, none⟩) 1 1) [-1] := by rw [ho]; exact new_one w B hB (-1)
  have hc := ints_cell (l := [-1]) h 0 (-1) rfl
  have hf : (w.alloc o).frozen? ⟨w.heap.size, 0, none⟩ = false := World.ownsRow.frozenAt (n := 1) h 0
  have H := Lib.hid h
  have HO := Lib.hid ho
  clear h ho
  go_enter Tryd.func63, Tryd.ntmps63
  go_wp2_with (rw [← HO.out])
  all_goals
    have e : withB [] x = withB ([] ++ [-1]) x := by unfold withB more1; simp
    rw [show Wb w B nilV [] x = fun e' w' => ∃ v', e' = .returned v' ∧ Ints w' B v' (withB ([] ++ [-1]) x) ∧ Kept w w' (fun i => nilV.ownBlock = some i) ∧ ∀ i, v'.ownBlock = some i → nilV.ownBlock = some i ∨ w.heap.size ≤ i from by funext e' w'; unfold Wb; rw [e]]
    obtain ⟨a, b⟩ := wb_store (y := min (max (-1) 0 * 10 + (x - 48)) 9999) (l0 := []) (m := 0) H.out rfl hx rfl
    rw [show min (max (-1) 0 * 10 + (x - 48)) 9999 = x - 48 by omega] at a b
    go_ret
    refine ⟨_, rfl, a, ?_, ?_⟩
    · refine ((Kept.refl w _).alloc o).trans b ?_
      intro i hi q
      have q : w.heap.size = i := by simpa [Value.ownBlock] using q
      omega
    · intro i q
      have q : w.heap.size = i := by simpa [Value.ownBlock] using q
      exact .inr (by omega)
set_option maxRecDepth 100000 in
/-- A semicolon, behind numbers; there is room. -/
theorem withByte_d {w : World} {B g m cap : Nat} {l : List Int} (hB : B ≤ w.heap.size) (h : Ints w B (.slice (some ⟨g, 0, none⟩) (m + 1) cap) l) (hm : l.length = m + 1) (hm2 : m < 32) :
    Calls Tryd.prog 63 #[.slice (some ⟨g, 0, none⟩) (m + 1) cap, .int .u8 59] w (Wb w B (.slice (some ⟨g, 0, none⟩) (m + 1) cap) l 59) := by
  obtain ⟨o, ho⟩ : ∃ o, o = Obj.cells #[.int .i64 (-1)] 3 := ⟨_, rfl⟩
  have h1 : Ints (w.alloc o) B (.slice (some ⟨w.heap.size, 0, none⟩) 1 1) [-1] := by rw [ho]; exact new_one w B hB (-1)
  have h2 := h.alloc o
  have hsrc : ∀ (j : Nat) (z : Int), [(-1 : Int)][j]? = some z → (w.alloc o).cell? ⟨w.heap.size, j, none⟩ = some (.int .i64 z) := fun j z hj => ints_cell h1 j z hj
  have e : withB l 59 = l ++ [-1] := by
    have hne : l ≠ [] := fun q => by rw [q] at hm; simp at hm
    unfold withB more1
    rw [if_neg (by decide), if_neg hne, if_pos (by omega)]
  have HE := Lib.hid e
  have HO := Lib.hid ho
  have HB : B ≤ (w.alloc o).heap.size := by simp; omega
  have HL : l.length + [(-1 : Int)].length ≤ 4294967296 := by simp; omega
  clear h1 h e ho hm
  go_enter Tryd.func63, Tryd.ntmps63
  go_wp2_with (first | (at_builtin; refine wpList_append_ints rfl (.tmp 33) (.tmp 34) rfl B (.slice (some ⟨g, 0, none⟩) (m + 1) cap) l [-1] w.heap.size 1 1 rfl h2 rfl rfl hsrc HB HL ?_; intro v' w2 ho2 hk2 hat2) | rw [← HO.out])
  go_ret
  refine ⟨v', rfl, by rw [HE.out]; exact ho2, ((Kept.refl w _).alloc o).trans hk2 fun i _ q => q, fun i hi => ?_⟩
  rcases hat2 with q | ⟨j, q, q2⟩
  · rw [q] at hi; exact .inl hi
  · rw [q] at hi
    injection hi with hi
    have : (w.alloc o).heap.size = w.heap.size + 1 := by simp
    exact .inr (by omega)
set_option maxRecDepth 100000 in
/-- A semicolon, the first of all. -/
theorem withByte_b {w : World} {B : Nat} (hB : B ≤ w.heap.size) :
    Calls Tryd.prog 63 #[nilV, .int .u8 59] w (Wb w B nilV [] 59) := by
  obtain ⟨o, ho⟩ : ∃ o, o = Obj.cells #[.int .i64 (-1)] 3 := ⟨_, rfl⟩
  have h1 : Ints (w.alloc o) B (.slice (some ⟨w.heap.size, 0, none⟩) 1 1) [-1] := by rw [ho]; exact new_one w B hB (-1)
  have sz : (w.alloc o).heap.size = w.heap.size + 1 := by simp
  have h2 : Ints ((w.alloc o).alloc o) B (.slice (some ⟨w.heap.size + 1, 0, none⟩) 1 1) [-1] := by rw [← sz]; rw [ho]; exact new_one _ B (by simp; omega) (-1)
  have h3 := h1.alloc o
  have hsrc : ∀ (j : Nat) (z : Int), [(-1 : Int)][j]? = some z → ((w.alloc o).alloc o).cell? ⟨w.heap.size + 1, j, none⟩ = some (.int .i64 z) := fun j z hj => ints_cell h2 j z hj
  have HE : Hid (withB [] 59 = [-1] ++ [-1]) := by show _ = _; decide
  have HO := Lib.hid ho
  have HB : B ≤ ((w.alloc o).alloc o).heap.size := by simp; omega
  have HL : [(-1 : Int)].length + [(-1 : Int)].length ≤ 4294967296 := by simp
  clear h1 h2 ho
  go_enter Tryd.func63, Tryd.ntmps63
  go_wp2_with (first | (at_builtin; refine wpList_append_ints rfl (.tmp 33) (.tmp 34) rfl B (.slice (some ⟨w.heap.size, 0, none⟩) 1 1) [-1] [-1] (w.heap.size + 1) 1 1 rfl h3 rfl rfl hsrc HB HL ?_; intro v' w2 ho2 hk2 hat2) | rw [← HO.out])
  go_ret
  refine ⟨v', rfl, by rw [HE.out]; exact ho2, (((Kept.refl w _).alloc o).alloc o).trans hk2 fun i hi q => ?_, fun i hi => ?_⟩
  · have q : w.heap.size = i := by simpa [Value.ownBlock] using q
    omega
  · rcases hat2 with q | ⟨j, q, q2⟩
    · rw [q] at hi
      have hi : w.heap.size = i := by simpa [Value.ownBlock] using hi
      exact .inr (by omega)
    · rw [q] at hi
      injection hi with hi
      have : ((w.alloc o).alloc o).heap.size = w.heap.size + 2 := by simp
      exact .inr (by omega)
set_option maxRecDepth 100000 in
/-- A semicolon where there is no room. -/
theorem withByte_e {w : World} {B g m cap : Nat} {l : List Int} (h : Ints w B (.slice (some ⟨g, 0, none⟩) (m + 1) cap) l) (hm : l.length = m + 1) (hm2 : ¬ m < 32) (hm3 : m ≤ 1000) :
    Calls Tryd.prog 63 #[.slice (some ⟨g, 0, none⟩) (m + 1) cap, .int .u8 59] w (Wb w B (.slice (some ⟨g, 0, none⟩) (m + 1) cap) l 59) := by
  have e : withB l 59 = l := by
    have hne : l ≠ [] := fun q => by rw [q] at hm; simp at hm
    unfold withB more1
    rw [if_neg (by decide), if_neg hne, if_neg (by omega)]
  have HE := Lib.hid e
  clear e hm
  go_enter Tryd.func63, Tryd.ntmps63
  go_wp2
  go_ret
  exact ⟨_, rfl, by rw [HE.out]; exact h, Kept.refl _ _, fun i hi => .inl hi⟩
/-- Numbers, and a digit or a semicolon behind. -/
theorem withByte_any {w : World} {B : Nat} {v : Value} {l : List Int} (hB : B ≤ w.heap.size) (h : Ints w B v l) (hnil : l = [] → v = nilV) (hl : l.length ≤ 33) (hz : ∀ p ∈ l, -1 ≤ p ∧ p ≤ 9999) {x : Int} (hx0 : 48 ≤ x) (hx1 : x ≤ 255) :
    Calls Tryd.prog 63 #[v, .int .u8 x] w (Wb w B v l x) := by
  by_cases h0 : l = []
  · subst h0
    rw [hnil rfl]
    by_cases hx : x = 59
    · rw [hx]; exact withByte_b hB
    · exact withByte_a hB hx hx0 hx1
  · obtain ⟨g, m, cap, rfl, e2⟩ := own_some2 h (fun e => h0 (List.eq_nil_of_length_eq_zero e))
    obtain ⟨k, rfl⟩ : ∃ k, m = k + 1 := ⟨m - 1, by have := List.length_pos_iff.2 h0; omega⟩
    by_cases hx : x = 59
    · rw [hx]
      by_cases hk : k < 32
      · exact withByte_d hB h e2.symm hk
      · exact withByte_e h e2.symm hk (by omega)
    · obtain ⟨l0, z, rfl⟩ : ∃ l0 z, l = l0 ++ [z] := ⟨l.dropLast, l.getLast h0, (List.dropLast_concat_getLast h0).symm⟩
      rw [List.length_append, List.length_singleton] at e2
      have hz' := hz z (by simp)
      rw [List.length_append, List.length_singleton] at hl
      exact withByte_c h (by omega) (by omega) hz'.1 hz'.2 hx hx0 hx1
end Go.Proofs.YtmhmbeofcedjjaaDoor.Vt
