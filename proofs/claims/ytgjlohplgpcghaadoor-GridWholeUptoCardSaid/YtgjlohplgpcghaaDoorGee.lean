/- Erase, Insert, Delete where they do something. -/
import Derived.Test.YtgjlohplgpcghaaDoorGer
namespace Go.Proofs.YtgjlohplgpcghaaDoor.Grd
open Go.RowKit Cel Sty

set_option maxRecDepth 100000 in
set_option maxHeartbeats 2000000 in
theorem erase_any {w : World} {g s : Nat} {pv : Value} {fp : List Nat} {G : GS} (h : GridAt w g s pv fp G) (x k q : Nat) (hk : k < G.scr.length) (hx : x < G.cols) (n s1 s2 s3 : Int) (hn : 1 ≤ n) (hq : (q : Int) = min n ((G.cols : Int) - (x : Int))) (hst : rightS s1 s2 s3 = true) :
    Calls Tryd.prog 12 #[.pointer (some ⟨g, 0, none⟩), .int .i64 (x : Int), .int .i64 (k : Int), .int .i64 n, .agg #[.int .i64 s1, .int .i64 s2, .int .i64 s3]] w fun e w' => e = .returned (.tuple #[]) ∧
      GridAt w' g s pv fp { G with scr := G.scr.set k { G.scr[k] with l := fillR (cutL (cutL G.scr[k].l x) (x + q)) x q (s1, s2, s3) } } ∧ Only [G.scr[k].b] w w' := by
  have hmem : G.scr[k] ∈ G.past ++ G.scr := List.mem_append_right _ (List.getElem_mem hk)
  have hcl := h.cells _ hmem
  have hc0 := h.held.at_ _ hmem
  have hfin := fun w' l => h.set_cells (w' := w') hk (l := l)
  have hlt := h.held.lt hmem
  have hgl := h.blk.lt
  have hfar := h.far _ hmem
  simp only [List.mem_cons, not_or] at hfar
  have hgb := hfar.1
  have hc1 := h.c1
  have hc2 := h.c2
  have hb0 : Below w.heap.size w (w.alloc (.cells #[.int .i64 s1, .int .i64 s2, .int .i64 s3] 33)) := (Below.refl _ _).alloc (Nat.le_refl _) _
  have hs0 := hb0.size
  have hA := BL.new w 33 [.int .i64 s1, .int .i64 s2, .int .i64 s3]
  have hre := reach_yes (h.below hb0) x k q hk hx n s1 s2 s3 hn hq hst
  have hf0 := h.f0
  clear hfar
  generalize hM : G.scr[k] = m at *
  have HC := Lib.hid hcl
  have hcap := hc0.1
  obtain ⟨c, hc⟩ : ∃ c, G.cols = c := ⟨_, rfl⟩
  rw [hc] at hx hcl hc1 hc2 hq hre hf0
  have q1 : 1 ≤ q := by omega
  have qc : x + q ≤ c := by omega
  have HB0 := Lib.hid hb0
  clear hst hn hq h
  have cu1 := fun w h => cut_any m.b m.cap m.cap x m.l w h (by omega) hcap (by omega)
  have cu2 := fun w h => cut_any m.b m.cap m.cap (x + q) (cutL m.l x) w h (by rw [cutL_len]; omega) (by rw [cutL_len]; exact hcap) (by omega)
  have fi := fun w h => fill_any m.b m.cap x q (m.cap - x) (cutL (cutL m.l x) (x + q)) s1 s2 s3 w h (by rw [cutL_len, cutL_len]; omega) (by rw [cutL_len, cutL_len]; omega)
  have e2 : ((x + q : Nat) : Int) = (x : Int) + (q : Int) := by omega
  rw [cutL_len, e2] at cu2
  rw [hcl] at cu1 cu2
  unfold slV at fi
  rw [Nat.mul_comm 5 x] at fi
  clear e2
  have j1 : IntKind.i64.wrap ((x : Int) + (q : Int)) = (x : Int) + (q : Int) := IntWalk.i64_in _ ⟨by omega, by omega⟩
  have j0 : IntKind.i64.wrap (x : Int) = (x : Int) := IntWalk.i64_in _ ⟨by omega, by omega⟩
  have dq : ((q : Int) == 0) = false := by simp; omega
  have i0 : (0 : Int) ≤ (x : Int) := Int.natCast_nonneg _
  have i1 : (x : Int) ≤ (x : Int) + (q : Int) := by omega
  have i2 : (x : Int) + (q : Int) ≤ (m.cap : Int) := by omega
  have i00 : (0 : Int) ≤ (x : Int) + (q : Int) := by omega
  have m1 : max ((x : Int) + (q : Int)) 0 = (x : Int) + (q : Int) := by omega
  have t1 : ((x : Int) + (q : Int)).toNat - x = q := by omega
  have cy : ¬ m.cap = x := by omega
  go_enter Tryd.func12, Tryd.ntmps12
  go_wp2_with (go_at_call 39; refine hre.mono ?_; rintro _ w1 ⟨rfl, hb1⟩; have hA1 := hA.only (F := []) (Only.of_below hb1) (by simp); have hbw := HB0.out.trans (hb1.mono hs0); have hcm := hc0.only (F := []) (Only.of_below hbw) (by simp); clear hre)
  with_reducible refine (cu1 _ hcm).mono ?_
  rintro _ w2 ⟨rfl, hc2, ho2⟩
  have hA2 := hA1.only ho2 (by simp; omega)
  have how := (Only.of_below (F := [m.b]) hbw).trans ho2
  clear hA1 hcm cu1
  go_wp2_with fail
  with_reducible refine (cu2 _ hc2).mono ?_
  rintro _ w3 ⟨rfl, hc3, ho3⟩
  have hA3 := hA2.only ho3 (by simp; omega)
  have a0 := hA3.cell 0
  have a1 := hA3.cell 1
  have a2 := hA3.cell 2
  have how3 := (how.trans ho3).drew
  have hc3d : CellsAt w3.drew m.b (cutL (cutL m.l x) (x + q)) m.cap := hc3
  clear hA2 hc2 cu2
  go_wp2_with fail
  go_region_with (go_at_call 40; refine (fi _ hc3d).mono ?_; rintro _ w4 ⟨rfl, hc4, ho4⟩)
  all_goals go_wp2_with fail
  all_goals
    have how4 := how3.trans ho4
    exact body_end rfl rfl ⟨rfl, hfin _ _ (by rw [fillR_len (by rw [cutL_len, cutL_len]; omega), cutL_len, cutL_len]; exact HC.out) hc4 how4, how4⟩
end Go.Proofs.YtgjlohplgpcghaaDoor.Grd
