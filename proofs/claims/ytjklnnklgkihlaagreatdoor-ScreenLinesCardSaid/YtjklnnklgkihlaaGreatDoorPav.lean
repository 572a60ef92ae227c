/- What a screen tells of itself: Region, Bells, Style, Grid, its modes. -/
import Derived.Test.YtjklnnklgkihlaaGreatDoorPad
namespace Go.Proofs.YtjklnnklgkihlaaGreatDoor.Scr
open Go.RowKit Cel Sty Grd

section
variable {w : World} {sb g : Nat} {pp tv : Value} {o : Option Nat} {S : ScP}
set_option maxRecDepth 100000 in
theorem style_at (h : scB w sb pp g o tv S) : Calls Tryz.prog 11 #[ptrV sb] w fun e w' => e = .returned (.agg #[.int .i64 S.now.pen.1, .int .i64 S.now.pen.2.1, .int .i64 S.now.pen.2.2]) ∧ Below w.heap.size w w' := by
  have hlt := h.lt
  have hb0 : Below w.heap.size w (w.alloc (.cells #[.int .i64 0, .int .i64 0, .int .i64 0] 23)) := (Below.refl _ _).alloc (Nat.le_refl _) _
  have e6 : (w.alloc (.cells #[.int .i64 0, .int .i64 0, .int .i64 0] 23)).cell? ⟨sb, 6, none⟩ = some (.int .i64 S.now.pen.1) := (hb0.cell (p := ⟨sb, 6, none⟩) hlt).trans (h.cell 6)
  have e7 : (w.alloc (.cells #[.int .i64 0, .int .i64 0, .int .i64 0] 23)).cell? ⟨sb, 7, none⟩ = some (.int .i64 S.now.pen.2.1) := (hb0.cell (p := ⟨sb, 7, none⟩) hlt).trans (h.cell 7)
  have e8 : (w.alloc (.cells #[.int .i64 0, .int .i64 0, .int .i64 0] 23)).cell? ⟨sb, 8, none⟩ = some (.int .i64 S.now.pen.2.2) := (hb0.cell (p := ⟨sb, 8, none⟩) hlt).trans (h.cell 8)
  generalize S.now.pen.1 = p1 at *
  generalize S.now.pen.2.1 = p2 at *
  generalize S.now.pen.2.2 = p3 at *
  have hb1 : Below w.heap.size w (w.alloc (.cells #[.int .i64 p1, .int .i64 p2, .int .i64 p3] 23)) := (Below.refl _ _).alloc (Nat.le_refl _) _
  clear h
  unfold ptrV
  go_enter Tryz.func11, Tryz.ntmps11
  go_wp2_with fail
  exact bodyPost_ret (v := .agg #[.int .i64 p1, .int .i64 p2, .int .i64 p3]) (results_cell (p := 2) (by kernel_rfl) _ _ w.heap.size _ _ _ _ rfl (BL.new w 23 [.int .i64 p1, .int .i64 p2, .int .i64 p3]) Tryz.underlying23 rfl (by kernel_rfl)) rfl ⟨rfl, hb1⟩
/-- The modes that are told. -/
def modesP (o : Option Nat) (S : ScP) : Int :=
  let m := if S.now.origin then bits .or .i64 S.modes 4 else S.modes
  match o with
  | none => m
  | some _ => bits .or .i64 m 256
set_option maxRecDepth 100000 in
theorem modes_at (h : scB w sb pp g o tv S) : Calls Tryz.prog 36 #[ptrV sb] w fun e w' => e = .returned (.int .i64 (modesP o S)) ∧ w = w' := by
  have e1 : w.cell? ⟨sb, 33, none⟩ = some (.int .i64 S.modes) := h.cell 33
  have e2 : w.cell? ⟨sb, 9, none⟩ = some (.bool S.now.origin) := h.cell 9
  have e3 : w.cell? ⟨sb, 2, none⟩ = some (optV o) := h.cell 2
  clear h
  unfold modesP
  generalize S.modes = m at *
  generalize S.now.origin = b at *
  unfold ptrV
  cases b <;> cases o <;> simp only [optV, ptrV] at e3
  all_goals go_enter Tryz.func36, Tryz.ntmps36
  all_goals go_wp2_with fail
  all_goals go_ret
  all_goals exact ⟨rfl, rfl⟩
/-- The grid that is seen, as a copy. -/
theorem grid_at {F : List Nat} {c lim : Nat} {past rows : List Ro} (h : SG w sb g F c lim past rows pp tv S) :
    Calls Tryz.prog 12 #[ptrV sb] w fun e w' => ∃ g2 F2, e = .returned (ptrV g2) ∧ GA w' g2 F2 c lim past rows ∧ (∀ x ∈ F2, w.heap.size ≤ x) ∧ Below w.heap.size w w' := by
  have hs := Lib.hid (shown_at h.blk)
  have hc := Lib.hid (clone_ga h.grd)
  clear h
  unfold seen ptrV at hs
  unfold ptrV
  go_enter Tryz.func12, Tryz.ntmps12
  go_wp2_with fail
  refine hs.out.mono ?_
  rintro _ w1 ⟨rfl, rfl⟩
  go_wp2_with fail
  refine hc.out.mono ?_
  rintro _ w2 ⟨g2, F2, rfl, hG, hF, hb⟩
  go_wp2_with fail
  go_ret
  exact ⟨g2, F2, rfl, hG, hF, hb⟩
end
end Go.Proofs.YtjklnnklgkihlaaGreatDoor.Scr
