/- What a call may change of a row: reach. -/
import Derived.Test.YtgjlohplgpcghaaDoorGke
namespace Go.Proofs.YtgjlohplgpcghaaDoor.Grd
open Go.RowKit Cel Sty

/-- May such a call do something? -/
def mayR (cols rows : Nat) (x y n : Int) (s1 s2 s3 : Int) : Bool := decide (0 ≤ y ∧ y < (rows : Int)) && (decide (0 ≤ x ∧ x < (cols : Int)) && (decide (1 ≤ n) && rightS s1 s2 s3))
set_option maxRecDepth 100000 in
set_option maxHeartbeats 1000000 in
theorem reach_no {w : World} {g s : Nat} {pv : Value} {fp : List Nat} {G : GS} (h : GridAt w g s pv fp G) (x y n s1 s2 s3 : Int) (hno : mayR G.cols G.scr.length x y n s1 s2 s3 = false) :
    Calls Tryd.prog 39 #[.pointer (some ⟨g, 0, none⟩), .int .i64 x, .int .i64 y, .int .i64 n, .agg #[.int .i64 s1, .int .i64 s2, .int .i64 s3]] w fun e w' => e = .returned (.tuple #[.slice none 0 0, .int .i64 0]) ∧ Below w.heap.size w w' := by
  have hb0 : Below w.heap.size w (w.alloc (.cells #[.int .i64 s1, .int .i64 s2, .int .i64 s3] 33)) := (Below.refl _ _).alloc (Nat.le_refl _) _
  have hs0 := hb0.size
  have hA := BL.new w 33 [.int .i64 s1, .int .i64 s2, .int .i64 s3]
  have a0 := hA.cell 0
  have a1 := hA.cell 1
  have a2 := hA.cell 2
  have h0 := h.below hb0
  have f0 := h0.f0
  have hlt := h0.blk.lt
  have hsh := fun w h => shows_any (w := w) (g := g) (s := s) (pv := pv) (fp := fp) (G := G) h y
  obtain ⟨c, hc⟩ : ∃ c, G.cols = c := ⟨_, rfl⟩
  rw [hc] at hno f0
  have HX := Lib.hid hc
  clear hc
  by_cases h1 : 0 ≤ y ∧ y < (G.scr.length : Int)
  · have hsh1 := hsh _ h0 true (by simpa using h1)
    by_cases h2 : x < 0
    · clear hno hsh h1
      go_enter Tryd.func39, Tryd.ntmps39
      go_wp2_with (go_at_call 35; refine hsh1.mono ?_; rintro _ w1 ⟨rfl, rfl⟩)
      go_ret2
      exact ⟨rfl, hb0⟩
    · have h2' : 0 ≤ x := by omega
      by_cases h3 : (c : Int) ≤ x
      · clear hno hsh h1 h2
        go_enter Tryd.func39, Tryd.ntmps39
        go_wp2_with (go_at_call 35; refine hsh1.mono ?_; rintro _ w1 ⟨rfl, rfl⟩)
        go_ret2
        exact ⟨rfl, hb0⟩
      · have h3' : x < (c : Int) := by omega
        by_cases h4 : n < 1
        · clear hno hsh h1 h2 h3
          go_enter Tryd.func39, Tryd.ntmps39
          go_wp2_with (go_at_call 35; refine hsh1.mono ?_; rintro _ w1 ⟨rfl, rfl⟩)
          go_ret2
          exact ⟨rfl, hb0⟩
        · have h4' : 1 ≤ n := by omega
          have hr : rightS s1 s2 s3 = false := by
            unfold mayR at hno
            simpa [h1, h2', h3', h4'] using hno
          have hrt := fun w => right_any s1 s2 s3 _ hr w
          clear hno hsh h1 h2 h3 h4 hr
          go_enter Tryd.func39, Tryd.ntmps39
          go_wp2_with (first
            | (go_at_call 35; refine hsh1.mono ?_; rintro _ w1 ⟨rfl, rfl⟩)
            | (go_at_call 59; refine (hrt _).mono ?_; rintro _ w1 ⟨rfl, hb1⟩; have hbw := hb0.trans (hb1.mono hs0)))
          go_ret2
          exact ⟨rfl, hbw⟩
  · have hsh1 := hsh _ h0 false (by simpa using h1)
    clear hno hsh h1
    go_enter Tryd.func39, Tryd.ntmps39
    go_wp2_with (go_at_call 35; refine hsh1.mono ?_; rintro _ w1 ⟨rfl, rfl⟩)
    go_ret2
    exact ⟨rfl, hb0⟩
set_option maxRecDepth 100000 in
set_option maxHeartbeats 1000000 in
theorem reach_yes {w : World} {g s : Nat} {pv : Value} {fp : List Nat} {G : GS} (h : GridAt w g s pv fp G) (x k q : Nat) (hk : k < G.scr.length) (hx : x < G.cols) (n s1 s2 s3 : Int) (hn : 1 ≤ n) (hq : (q : Int) = min n ((G.cols : Int) - (x : Int))) (hst : rightS s1 s2 s3 = true) :
    Calls Tryd.prog 39 #[.pointer (some ⟨g, 0, none⟩), .int .i64 (x : Int), .int .i64 (k : Int), .int .i64 n, .agg #[.int .i64 s1, .int .i64 s2, .int .i64 s3]] w fun e w' => e = .returned (.tuple #[.slice (some ⟨G.scr[k].b, 0, none⟩) G.cols G.scr[k].cap, .int .i64 (q : Int)]) ∧ Below w.heap.size w w' := by
  have hb0 : Below w.heap.size w (w.alloc (.cells #[.int .i64 s1, .int .i64 s2, .int .i64 s3] 33)) := (Below.refl _ _).alloc (Nat.le_refl _) _
  have hs0 := hb0.size
  have hA := BL.new w 33 [.int .i64 s1, .int .i64 s2, .int .i64 s3]
  have a0 := hA.cell 0
  have a1 := hA.cell 1
  have a2 := hA.cell 2
  have h0 := h.below hb0
  have f0 := h0.f0
  have hsh1 := shows_any h0 (k : Int) true (by simp; omega)
  have hrt := fun w => right_any s1 s2 s3 _ hst w
  have HH := Lib.hid h0
  have hc1 := h.c1
  have hc2 := h.c2
  have hr2 := h.r2
  have hcl := h.cells _ (List.mem_append_right _ (List.getElem_mem hk))
  obtain ⟨m, hm⟩ : ∃ m, G.scr[k] = m := ⟨_, rfl⟩
  have HM := Lib.hid hm
  have HK := Lib.hid hk
  rw [hm] at hcl ⊢
  obtain ⟨c, hc⟩ : ∃ c, G.cols = c := ⟨_, rfl⟩
  have HX := Lib.hid hc
  have HCL := Lib.hid hcl
  rw [hc] at f0 hc1 hc2 hx hq ⊢
  obtain ⟨r, hr⟩ : ∃ r, G.scr.length = r := ⟨_, rfl⟩
  have HR := Lib.hid hr
  rw [hr] at hr2 hk
  have HQ := Lib.hid hq
  clear hc hm hr h h0 hst hcl hq
  have d1 : decide ((x : Int) < 0) = false := by simp
  have d2 : decide ((c : Int) ≤ (x : Int)) = false := by simp; omega
  have d3 : decide (n < 1) = false := by simp; omega
  have i0 : (0 : Int) ≤ (k : Int) := Int.natCast_nonneg _
  have i1 : (k : Int) < (r : Int) := by omega
  have j1 : IntKind.i64.wrap ((c : Int) - (x : Int)) = (c : Int) - (x : Int) := IntWalk.i64_in _ ⟨by omega, by omega⟩
  go_enter Tryd.func39, Tryd.ntmps39
  go_wp2_with (first
    | (go_at_call 35; refine hsh1.mono ?_; rintro _ w1 ⟨rfl, rfl⟩)
    | (go_at_call 59; refine (hrt _).mono ?_; rintro _ w1 ⟨rfl, hb1⟩; have hbw := hb0.trans (hb1.mono hs0); have hG1 := HH.out.below hb1; have g3 := hG1.f3; have g0 := hG1.f0; obtain ⟨q0, q1⟩ := hG1.row_cells HK.out; rw [HM.out] at q0 q1; rw [HX.out] at g0; rw [HR.out] at g3; rw [HCL.out, HX.out] at q0; clear hG1))
  have hbd : Below w.heap.size w w1.drew := hbw.drew
  go_region
  all_goals go_wp2_with fail
  all_goals
    go_ret2
    refine ⟨?_, hbd⟩
    have e := HQ.out
    first
      | (have e2 : n = (q : Int) := by omega
         rw [← e2]; rfl)
      | (have e2 : (c : Int) - (x : Int) = (q : Int) := by omega
         rw [← e2]; rfl)
end Go.Proofs.YtgjlohplgpcghaaDoor.Grd
