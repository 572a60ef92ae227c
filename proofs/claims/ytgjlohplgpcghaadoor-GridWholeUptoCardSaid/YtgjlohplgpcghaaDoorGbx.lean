/- Laid anew in a wider and higher grid, and back. -/
import Derived.Test.YtgjlohplgpcghaaDoorGsm
namespace Go.Proofs.YtgjlohplgpcghaaDoor.Grd
open Go.RowKit Cel Sty

/-- What a grid is behind a Resize with reflow: where the place lies then, what has scrolled off, the rows. -/
structure FlowTo (past rows : List Ro) (c lim : Nat) (X Y : Int) (cols n : Nat) (px py : Int) (past' rows' : List Ro) : Prop where
  a1 : (flowOf (past ++ rows) ((past.length : Int) + (clampZ Y rows.length : Int)) (clampZ X c : Int) cols).px = px
  a2 : (flowOf (past ++ rows) ((past.length : Int) + (clampZ Y rows.length : Int)) (clampZ X c : Int) cols).py - (firstOf (flowOf (past ++ rows) ((past.length : Int) + (clampZ Y rows.length : Int)) (clampZ X c : Int) cols) n : Int) = py
  a3 : ((flowOf (past ++ rows) ((past.length : Int) + (clampZ Y rows.length : Int)) (clampZ X c : Int) cols).rows.take (firstOf (flowOf (past ++ rows) ((past.length : Int) + (clampZ Y rows.length : Int)) (clampZ X c : Int) cols) n)).drop (firstOf (flowOf (past ++ rows) ((past.length : Int) + (clampZ Y rows.length : Int)) (clampZ X c : Int) cols) n - lim) = past'
  a4 : filledR ((flowOf (past ++ rows) ((past.length : Int) + (clampZ Y rows.length : Int)) (clampZ X c : Int) cols).rows.drop (firstOf (flowOf (past ++ rows) ((past.length : Int) + (clampZ Y rows.length : Int)) (clampZ X c : Int) cols) n)) cols n = rows'
theorem FlowTo.of {past rows : List Ro} {c lim : Nat} {X Y : Int} {cols n : Nat} {px py : Int} {past' rows' : List Ro} {P : PF} (h : flowOf (past ++ rows) ((past.length : Int) + (clampZ Y rows.length : Int)) (clampZ X c : Int) cols = P)
    (h1 : P.px = px) (h2 : P.py - (firstOf P n : Int) = py) (h3 : (P.rows.take (firstOf P n)).drop (firstOf P n - lim) = past') (h4 : filledR (P.rows.drop (firstOf P n)) cols n = rows') : FlowTo past rows c lim X Y cols n px py past' rows' := by
  subst h
  exact ⟨h1, h2, h3, h4⟩
theorem resize_to {w : World} {g : Nat} {F : List Nat} {c lim : Nat} {past rows : List Ro} (h : GA w g F c lim past rows) (cols n : Nat) (X Y : Int) (hc1 : 1 ≤ cols) (hc2 : cols ≤ 250) (hr1 : 1 ≤ n) (hr2 : n ≤ 120) (hsz : (past.length + rows.length) * c ≤ 400000) (px py : Int) (past' rows' : List Ro)
    (hf : FlowTo past rows c lim X Y cols n px py past' rows') :
    Calls Tryd.prog 18 #[.pointer (some ⟨g, 0, none⟩), .int .i64 (cols : Int), .int .i64 (n : Int), .agg #[.int .i64 X, .int .i64 Y], .bool true] w fun e w' =>
      e = .returned (.tuple #[.agg #[.int .i64 px, .int .i64 py], .int .i64 0]) ∧ ∃ F', GA w' g F' cols lim past' rows' ∧ Went F F' w w' :=
  resize_lit h cols n X Y hc1 hc2 hr1 hr2 hsz px py past' rows' hf.a1 hf.a2 hf.a3 hf.a4
theorem clamp_last (n : Nat) (h : 1 ≤ n) : clampZ ((n : Int) - 1) n = n - 1 := by unfold clampZ; omega
theorem clamp_in (y n : Nat) (h : y < n) : clampZ (y : Int) n = y := by unfold clampZ; omega
theorem there_back {c lim : Nat} {past rows : List Ro} (bd : GBd c lim past rows) (hf : Fine (past ++ rows)) {c' n' : Nat} (hcc : c ≤ c') (hn : rows.length ≤ n') :
    ∃ (past1 rows1 : List Ro) (Y1 : Nat), FlowTo past rows c lim ((c : Int) - 1) ((rows.length : Int) - 1) c' n' ((c : Int) - 1) (Y1 : Int) past1 rows1 ∧ FlowTo past1 rows1 c' lim ((c : Int) - 1) (Y1 : Int) c rows.length ((c : Int) - 1) ((rows.length : Int) - 1) past rows ∧ past1.length + rows1.length ≤ past.length + n' := by
  have hc1 := bd.c1
  have hr1 := bd.r1
  have hp2 := bd.p2
  obtain ⟨N, hN⟩ : ∃ N, past.length + rows.length = N := ⟨_, rfl⟩
  have hRl : (past ++ rows).length = N := by rw [List.length_append]; exact hN
  have ho : OwnL c (past ++ rows) := ⟨hf, bd.cells⟩
  obtain ⟨nx, hP⟩ := flow_there ho hc1 hcc (by omega)
  obtain ⟨f1, hf1⟩ : ∃ f, N - n' = f := ⟨_, rfl⟩
  obtain ⟨E, hE⟩ : ∃ E, (past ++ rows).map (extR c c') = E := ⟨_, rfl⟩
  have hEl : E.length = N := by rw [← hE, List.length_map]; exact hRl
  obtain ⟨K, hK⟩ : ∃ K, n' - (N - f1) = K := ⟨_, rfl⟩
  obtain ⟨nx2, hP2⟩ := flow_back ho hc1 hcc (by omega) K
  rw [hRl] at hP hP2
  rw [hE] at hP hP2
  have hall : E.take f1 ++ (E.drop f1 ++ List.replicate K (plainR c')) = E ++ List.replicate K (plainR c') := by rw [← List.append_assoc, List.take_append_drop]
  refine ⟨E.take f1, E.drop f1 ++ List.replicate K (plainR c'), N - 1 - f1, ?_, ?_, ?_⟩
  · have e1 : (past.length : Int) + (clampZ ((rows.length : Int) - 1) rows.length : Int) = ((N - 1 : Nat) : Int) := by rw [clamp_last _ hr1]; omega
    have e2 : (clampZ ((c : Int) - 1) c : Int) = ((c - 1 : Nat) : Int) := by rw [clamp_last _ hc1]
    have hfi : firstOf ⟨c', E, nx, ((c - 1 : Nat) : Int), ((N - 1 : Nat) : Int)⟩ n' = f1 := by
      unfold firstOf
      simp only [hEl, Int.toNat_natCast]
      omega
    refine FlowTo.of (P := ⟨c', E, nx, ((c - 1 : Nat) : Int), ((N - 1 : Nat) : Int)⟩) (by rw [e1, e2]; exact hP) ?_ ?_ ?_ ?_
    · show ((c - 1 : Nat) : Int) = _; omega
    · rw [hfi]; show ((N - 1 : Nat) : Int) - _ = _; omega
    · rw [hfi, show f1 - lim = 0 by omega, List.drop_zero]
    · rw [hfi]
      unfold filledR
      show (E.drop f1).take n' ++ List.replicate (n' - (E.drop f1).length) (plainR c') = _
      rw [List.take_of_length_le (by rw [List.length_drop]; omega), List.length_drop, hEl, hK]
  · have hpl : (E.take f1).length = f1 := by rw [List.length_take]; omega
    have hrl : (E.drop f1 ++ List.replicate K (plainR c')).length = n' := by rw [List.length_append, List.length_drop, List.length_replicate]; omega
    have e1 : ((E.take f1).length : Int) + (clampZ ((N - 1 - f1 : Nat) : Int) (E.drop f1 ++ List.replicate K (plainR c')).length : Int) = ((N - 1 : Nat) : Int) := by rw [hpl, hrl, clamp_in _ _ (by omega)]; omega
    have e2 : (clampZ ((c : Int) - 1) c' : Int) = ((c - 1 : Nat) : Int) := by
      have := clamp_in (c - 1) c' (by omega)
      rw [show (((c - 1 : Nat)) : Int) = (c : Int) - 1 by omega] at this
      rw [this]
    have hfi : firstOf ⟨c, past ++ rows, nx2, ((c - 1 : Nat) : Int), ((N - 1 : Nat) : Int)⟩ rows.length = past.length := by
      unfold firstOf
      simp only [hRl, Int.toNat_natCast]
      omega
    refine FlowTo.of (P := ⟨c, past ++ rows, nx2, ((c - 1 : Nat) : Int), ((N - 1 : Nat) : Int)⟩) (by rw [e1, e2, hall]; exact hP2) ?_ ?_ ?_ ?_
    · show ((c - 1 : Nat) : Int) = _; omega
    · rw [hfi]; show ((N - 1 : Nat) : Int) - _ = _; omega
    · rw [hfi, show past.length - lim = 0 by omega, List.drop_zero]
      simp
    · rw [hfi]
      unfold filledR
      simp
  · rw [List.length_take, List.length_append, List.length_drop, List.length_replicate]
    omega
end Go.Proofs.YtgjlohplgpcghaaDoor.Grd
