/- New. -/
import Derived.Test.YtgnlfikkmomghaaGreatDoorOst
namespace Go.Proofs.YtgnlfikkmomghaaGreatDoor.Opt
open Go.RowKit

/-- A set in memory. -/
def SetB (w : World) (b : Nat) (sc : Int) (own : Value) (q : Option Addr) : Prop := BL w b 68 [.int .i64 sc, own, .pointer q]

set_option maxRecDepth 100000 in
set_option maxHeartbeats 2000000 in
theorem new_no (sc : Int) (hs : sc < 1 ∨ 4 < sc) (p : Option Addr) (w : World) :
    Calls Tryz.prog 10 #[.int .i64 sc, .pointer p] w fun e w' => e = .returned (.tuple #[.pointer none, .int .i64 1]) ∧ w' = w := by
  rcases hs with h | h
  · go_enter Tryz.func10, Tryz.ntmps10
    go_wp2_with fail
    go_ret2
    exact ⟨rfl, rfl⟩
  · have h2 : ¬ sc < 1 := by omega
    have h3 : sc > 4 := h
    go_enter Tryz.func10, Tryz.ntmps10
    go_wp2_with fail
    go_ret2
    exact ⟨rfl, rfl⟩
set_option maxRecDepth 100000 in
set_option maxHeartbeats 2000000 in
theorem new_nil (sc : Int) (h1 : 1 ≤ sc) (h2 : sc ≤ 4) (w : World) :
    Calls Tryz.prog 10 #[.int .i64 sc, .pointer none] w fun e w' => e = .returned (.tuple #[.pointer (some ⟨w.heap.size, 0, none⟩), .int .i64 0]) ∧ SetB w' w.heap.size sc (.map none) none ∧ Below w.heap.size w w' := by
  have h3 : ¬ sc < 1 := by omega
  have h4 : ¬ sc > 4 := by omega
  have d3 : decide (sc < 1) = false := decide_eq_false h3
  have d4 : decide (4 < sc) = false := decide_eq_false h4
  have HB := Lib.hid (BL.new w 68 [.int .i64 sc, .map none, .pointer none])
  go_enter Tryz.func10, Tryz.ntmps10
  go_wp2_with fail
  go_ret2
  exact ⟨rfl, HB.out, (Below.refl _ w).alloc (Nat.le_refl _) _⟩
set_option maxRecDepth 100000 in
set_option maxHeartbeats 2000000 in
theorem new_over (sc : Int) (h1 : 1 ≤ sc) (h2 : sc ≤ 4) (pb : Nat) (ps : Int) (own : Value) (q : Option Addr) (w : World) (hp : SetB w pb ps own q) (hle : ps ≤ sc) :
    Calls Tryz.prog 10 #[.int .i64 sc, .pointer (some ⟨pb, 0, none⟩)] w fun e w' => e = .returned (.tuple #[.pointer (some ⟨w.heap.size, 0, none⟩), .int .i64 0]) ∧ SetB w' w.heap.size sc (.map none) (some ⟨pb, 1, none⟩) ∧ Below w.heap.size w w' := by
  have h3 : ¬ sc < 1 := by omega
  have h4 : ¬ sc > 4 := by omega
  have h5 : ¬ ps > sc := by omega
  have d3 : decide (sc < 1) = false := decide_eq_false h3
  have d4 : decide (4 < sc) = false := decide_eq_false h4
  have d5 : decide (sc < ps) = false := decide_eq_false h5
  have c0 := BL.cell hp 0
  simp only [List.getElem?_cons_zero] at c0
  have HB := Lib.hid (BL.new w 68 [.int .i64 sc, .map none, .pointer (some ⟨pb, 1, none⟩)])
  have hne : ¬ pb = w.heap.size := by have := BL.lt hp; omega
  clear hp
  go_enter Tryz.func10, Tryz.ntmps10
  go_wp2_with fail
  go_ret2
  exact ⟨rfl, HB.out, (Below.refl _ w).alloc (Nat.le_refl _) _⟩
theorem SetB.refuse (sc : Int) (h1 : 1 ≤ sc) (h2 : sc ≤ 4) (pb : Nat) (ps : Int) (own : Value) (q : Option Addr) (w : World) (hp : SetB w pb ps own q) (hle : sc < ps) :
    Calls Tryz.prog 10 #[.int .i64 sc, .pointer (some ⟨pb, 0, none⟩)] w fun e w' => e = .returned (.tuple #[.pointer none, .int .i64 1]) ∧ w' = w := by
  have h3 : ¬ sc < 1 := by omega
  have h4 : ¬ sc > 4 := by omega
  have h5 : ps > sc := by omega
  have d3 : decide (sc < 1) = false := decide_eq_false h3
  have d4 : decide (4 < sc) = false := decide_eq_false h4
  have d5 : decide (sc < ps) = true := decide_eq_true h5
  have c0 := BL.cell hp 0
  simp only [List.getElem?_cons_zero] at c0
  clear hp
  go_enter Tryz.func10, Tryz.ntmps10
  go_wp2_with fail
  go_ret2
  exact ⟨rfl, rfl⟩
end Go.Proofs.YtgnlfikkmomghaaGreatDoor.Opt
