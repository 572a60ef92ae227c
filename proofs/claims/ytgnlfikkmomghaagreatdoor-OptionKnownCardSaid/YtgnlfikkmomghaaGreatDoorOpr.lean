/- A set without values, printed; the document's own New. -/
import Derived.Test.YtgnlfikkmomghaaGreatDoorOna
import Derived.Test.YtgnlfikkmomghaaGreatDoorShelg
namespace Go.Proofs.YtgnlfikkmomghaaGreatDoor.Opt
open Go.RowKit Go.Maps

set_option maxRecDepth 100000 in
set_option maxHeartbeats 4000000 in
theorem print_nil (b : Nat) (sc : Int) (q : Option Addr) (w : World) (hs : SetB w b sc (.map none) q) :
    Calls Tryz.prog 13 #[.pointer (some ⟨b, 0, none⟩), .string ⟨#[]⟩] w fun e w' => e = .returned (.string ⟨#[]⟩) ∧ Below w.heap.size w w' := by
  have HN := Lib.hid (fun w' (hb : Below w.heap.size w w') => names_nil b sc q w' (BL.keep hs (hb.block _ (BL.lt hs))))
  have hbd := BL.new (w.alloc (.cells #[.string ⟨#[115, 101, 116, 45, 111, 112, 116, 105, 111, 110, 32]⟩] 9)) 82 [.pointer none, .slice none 0 0]
  rw [size_alloc] at hbd
  have HB := Lib.hid hbd
  have HS := Lib.hid (fun w' (h : Lib.IsBuilder 82 5 (w.heap.size + 1) (w.heap.size + 1) [] w') (hb : w.heap.size + 1 ≤ w'.heap.size) => Tryz.Builder_String_empty (w.heap.size + 1) (w.heap.size + 1) w' h hb)
  have hb0 : Below w.heap.size w ((w.alloc (.cells #[.string ⟨#[115, 101, 116, 45, 111, 112, 116, 105, 111, 110, 32]⟩] 9)).alloc (.cells #[.pointer none, .slice none 0 0] 82)) := ((Below.refl _ w).alloc (Nat.le_refl _) _).alloc (by simp) _
  have HB0 := Lib.hid hb0
  clear hs hb0 hbd
  go_enter Tryz.func13, Tryz.ntmps13
  go_wp2_with fail
  refine (HN.out _ HB0.out).mono ?_
  rintro e w1 ⟨rfl, hb1⟩
  have hbw := HB0.out.trans (hb1.mono HB0.out.size)
  have hbb : Lib.IsBuilder 82 5 (w.heap.size + 1) (w.heap.size + 1) [] w1 :=
    .inl ⟨Nat.le_refl _, .slice none 0 0, HB.out.keep (hb1.block _ HB.out.lt), ⟨rfl, .inl ⟨rfl, rfl⟩⟩, by simp [Value.ownBlock]⟩
  have hsz : w.heap.size + 1 ≤ w1.heap.size := by have := hb1.size; rw [size_alloc, size_alloc] at this; omega
  have HW := Lib.hid hbw
  clear hb1 hbw HN HB0 HB
  go_wp2_with fail
  refine wp_loop_rounds 1 ?_
  rw [rounds_succ]
  go_wp2_with fail
  refine (HS.out _ hbb hsz).mono ?_
  rintro e w2 ⟨rfl, hb2⟩
  have HW2 := Lib.hid (HW.out.trans (hb2.mono (by omega)))
  clear hb2 hbb HS
  go_wp2_with fail
  go_ret
  exact ⟨rfl, HW2.out⟩
/-! ### The document's own New -/
set_option maxRecDepth 100000 in
set_option maxHeartbeats 2000000 in
theorem rnew_no (sc : Int) (hs : sc < 1 ∨ 4 < sc) (p : Option Addr) (w : World) :
    Calls Tryz.prog 11 #[.int .i64 sc, .pointer p] w fun e w' => e = .returned (.tuple #[.pointer none, .bool false]) ∧ w' = w := by
  rcases hs with h | h
  · go_enter Tryz.func11, Tryz.ntmps11
    go_wp2_with fail
    go_ret2
    exact ⟨rfl, rfl⟩
  · have h2 : ¬ sc < 1 := by omega
    have h3 : sc > 4 := h
    go_enter Tryz.func11, Tryz.ntmps11
    go_wp2_with fail
    go_ret2
    exact ⟨rfl, rfl⟩
set_option maxRecDepth 100000 in
set_option maxHeartbeats 2000000 in
theorem rnew_nil (sc : Int) (h1 : 1 ≤ sc) (h2 : sc ≤ 4) (w : World) :
    Calls Tryz.prog 11 #[.int .i64 sc, .pointer none] w fun e w' => e = .returned (.tuple #[.pointer (some ⟨w.heap.size, 0, none⟩), .bool true]) ∧ BL w' w.heap.size 71 [.int .i64 sc, .pointer none, .slice none 0 0] ∧ Below w.heap.size w w' := by
  have d3 : decide (sc < 1) = false := decide_eq_false (by omega)
  have d4 : decide (4 < sc) = false := decide_eq_false (by omega)
  have HB := Lib.hid (BL.new w 71 [.int .i64 sc, .pointer none, .slice none 0 0])
  go_enter Tryz.func11, Tryz.ntmps11
  go_wp2_with fail
  go_ret2
  exact ⟨rfl, HB.out, (Below.refl _ w).alloc (Nat.le_refl _) _⟩
set_option maxRecDepth 100000 in
set_option maxHeartbeats 2000000 in
theorem rnew_over (sc : Int) (h1 : 1 ≤ sc) (h2 : sc ≤ 4) (pb : Nat) (ps : Int) (x y : Value) (w : World) (hp : BL w pb 71 [.int .i64 ps, x, y]) :
    Calls Tryz.prog 11 #[.int .i64 sc, .pointer (some ⟨pb, 0, none⟩)] w fun e w' => (∃ r, e = .returned (.tuple #[.pointer r, .bool (decide (ps ≤ sc))])) ∧ Below w.heap.size w w' := by
  have d3 : decide (sc < 1) = false := decide_eq_false (by omega)
  have d4 : decide (4 < sc) = false := decide_eq_false (by omega)
  have c0 : w.cell? ⟨pb, 0, none⟩ = some (.int .i64 ps) := hp.cell 0
  clear hp
  by_cases hle : ps ≤ sc
  · have d5 : decide (sc < ps) = false := decide_eq_false (by omega)
    have d6 : decide (ps ≤ sc) = true := decide_eq_true hle
    rw [d6]
    clear d6
    go_enter Tryz.func11, Tryz.ntmps11
    go_wp2_with fail
    go_ret2
    exact ⟨⟨_, rfl⟩, (Below.refl _ w).alloc (Nat.le_refl _) _⟩
  · have d5 : decide (sc < ps) = true := decide_eq_true (by omega)
    have d6 : decide (ps ≤ sc) = false := decide_eq_false hle
    rw [d6]
    clear d6
    go_enter Tryz.func11, Tryz.ntmps11
    go_wp2_with fail
    go_ret2
    exact ⟨⟨_, rfl⟩, Below.refl _ w⟩
end Go.Proofs.YtgnlfikkmomghaaGreatDoor.Opt
