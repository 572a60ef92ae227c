/- Delete where it does something. -/
import Derived.Test.YtgjlohplgpcghaaDoorGei
namespace Go.Proofs.YtgjlohplgpcghaaDoor.Grd
open Go.RowKit Cel Sty

set_option maxRecDepth 100000 in
set_option maxHeartbeats 2000000 in
theorem delete_any {w : World} {g s : Nat} {pv : Value} {fp : List Nat} {G : GS} (h : GridAt w g s pv fp G) (x k q : Nat) (hk : k < G.scr.length) (hx : x < G.cols) (n s1 s2 s3 : Int) (hn : 1 ≤ n) (hq : (q : Int) = min n ((G.cols : Int) - (x : Int))) (hst : rightS s1 s2 s3 = true) :
    Calls Tryd.prog 14 #[.pointer (some ⟨g, 0, none⟩), .int .i64 (x : Int), .int .i64 (k : Int), .int .i64 n, .agg #[.int .i64 s1, .int .i64 s2, .int .i64 s3]] w fun e w' => e = .returned (.tuple #[]) ∧
      GridAt w' g s pv fp { G with scr := G.scr.set k { G.scr[k] with l := fillR ((cutL (cutL G.scr[k].l x) (x + q)).take x ++ (cutL (cutL G.scr[k].l x) (x + q)).drop (x + q) ++ (cutL (cutL G.scr[k].l x) (x + q)).drop (G.cols - q)) (G.cols - q) q (s1, s2, s3) } } ∧ Only [G.scr[k].b] w w' := by
  have hmem : G.scr[k] ∈ G.past ++ G.scr := List.mem_append_right _ (List.getElem_mem hk)
  have hcl := h.cells _ hmem
  have hc0 := h.held.at_ _ hmem
  have hfin := fun w' l => h.set_cells (w' := w') hk (l := l)
  have hlt := h.held.lt hmem
  have hgl := h.blk.lt
  have hfar := h.far _ hmem
  simp only [List.mem_cons, not_or] at hfar
  have hgb := hfar.1
  have hc1 := h.c1
  have hc2 := h.c2
  have hb0 : Below w.heap.size w (w.alloc (.cells #[.int .i64 s1, .int .i64 s2, .int .i64 s3] 33)) := (Below.refl _ _).alloc (Nat.le_refl _) _
  have hs0 := hb0.size
  have hA := BL.new w 33 [.int .i64 s1, .int .i64 s2, .int .i64 s3]
  have hre := reach_yes (h.below hb0) x k q hk hx n s1 s2 s3 hn hq hst
  have hf0 := h.f0
  clear hfar
  generalize hM : G.scr[k] = m at *
  have HC := Lib.hid hcl
  have hcap := hc0.1
  obtain ⟨c, hc⟩ : ∃ c, G.cols = c := ⟨_, rfl⟩
  rw [hc] at hx hcl hc1 hc2 hq hre hf0
  have q1 : 1 ≤ q := by omega
  have qc : x + q ≤ c := by omega
  have HB0 := Lib.hid hb0
  clear hst hn hq h
  have cu1 := fun w h => cut_any m.b m.cap m.cap x m.l w h (by omega) hcap (by omega)
  have cu2 := fun w h => cut_any m.b m.cap m.cap (x + q) (cutL m.l x) w h (by rw [cutL_len]; omega) (by rw [cutL_len]; exact hcap) (by omega)
  obtain ⟨L, hL⟩ : ∃ L, cutL (cutL m.l x) (x + q) = L := ⟨_, rfl⟩
  have hLl : L.length = c := by rw [← hL, cutL_len, cutL_len]; exact hcl
  have e2 : ((x + q : Nat) : Int) = (x : Int) + (q : Int) := by omega
  rw [cutL_len, e2, hL] at cu2
  rw [hcl] at cu1 cu2
  clear e2
  obtain ⟨p, hp⟩ : ∃ p, c - q = p := ⟨_, rfl⟩
  obtain ⟨L2, hL2⟩ : ∃ L2, L.take x ++ L.drop (x + q) ++ L.drop p = L2 := ⟨_, rfl⟩
  have hL2l : L2.length = c := by rw [← hL2]; simp only [List.length_append, List.length_take, List.length_drop]; omega
  have fi := fun w h => fill_any m.b m.cap p q (m.cap - p) L2 s1 s2 s3 w h (by omega) (by omega)
  unfold slV at fi
  rw [Nat.mul_comm 5 p] at fi
  have HL2 := Lib.hid hL2
  have hFIN : Hid (∀ w', CellsAt w' m.b (fillR L2 p q (s1, s2, s3)) m.cap → Only [m.b] w w' → GridAt w' g s pv fp { G with scr := G.scr.set k { m with l := fillR ((cutL (cutL m.l x) (x + q)).take x ++ (cutL (cutL m.l x) (x + q)).drop (x + q) ++ (cutL (cutL m.l x) (x + q)).drop (G.cols - q)) (G.cols - q) q (s1, s2, s3) } }) := fun w' h1 h2 => by
    have hE : fillR ((cutL (cutL m.l x) (x + q)).take x ++ (cutL (cutL m.l x) (x + q)).drop (x + q) ++ (cutL (cutL m.l x) (x + q)).drop (G.cols - q)) (G.cols - q) q (s1, s2, s3) = fillR L2 p q (s1, s2, s3) := by rw [hc, hL, hp, hL2]
    rw [hE]
    exact hfin w' _ (by rw [fillR_len (by omega), hL2l, hc]) h1 h2
  clear hfin hL2
  have j1 : IntKind.i64.wrap ((x : Int) + (q : Int)) = (x : Int) + (q : Int) := IntWalk.i64_in _ ⟨by omega, by omega⟩
  have j2 : IntKind.i64.wrap ((c : Int) - (q : Int)) = (p : Int) := by rw [IntWalk.i64_in _ ⟨by omega, by omega⟩]; omega
  have j0 : IntKind.i64.wrap (x : Int) = (x : Int) := IntWalk.i64_in _ ⟨by omega, by omega⟩
  have j3 : IntKind.i64.wrap (p : Int) = (p : Int) := IntWalk.i64_in _ ⟨by omega, by omega⟩
  have dq : ((q : Int) == 0) = false := by simp; omega
  have i0 : (0 : Int) ≤ (x : Int) := Int.natCast_nonneg _
  have i1 : (x : Int) ≤ (x : Int) + (q : Int) := by omega
  have i2 : (x : Int) + (q : Int) ≤ (m.cap : Int) := by omega
  have i3 : (x : Int) + (q : Int) ≤ (c : Int) := by omega
  have i4 : (x : Int) ≤ (c : Int) := by omega
  have i5 : (p : Int) ≤ (c : Int) := by omega
  have i6 : (0 : Int) ≤ (p : Int) := Int.natCast_nonneg _
  have i00 : (0 : Int) ≤ (x : Int) + (q : Int) := by omega
  have m1 : max ((x : Int) + (q : Int)) 0 = (x : Int) + (q : Int) := by omega
  have t2 : ((x : Int) + (q : Int)).toNat = x + q := by omega
  have t4 : c - p = q := by omega
  have cy : ¬ m.cap = x := by omega
  have cp : ¬ m.cap = p := by omega
  have hgf : ∀ (V : World), Only [m.b] w V → V.cell? ⟨g, 0, none⟩ = some (.int .i64 (c : Int)) := fun V hV => (World.cell?_of_block (hV.block g hgl (by simpa using fun e => hgb e.symm))).trans hf0
  have hmin : Nat.min (c - (x + q)) (c - x) = c - (x + q) := Nat.min_eq_left (by omega)
  have HHP := Lib.hid hp
  clear hp
  go_enter Tryd.func14, Tryd.ntmps14
  go_wp2_with (go_at_call 39; refine hre.mono ?_; rintro _ w1 ⟨rfl, hb1⟩; have hA1 := hA.only (F := []) (Only.of_below hb1) (by simp); have hbw := HB0.out.trans (hb1.mono hs0); have hcm := hc0.only (F := []) (Only.of_below hbw) (by simp); clear hre)
  with_reducible refine (cu1 _ hcm).mono ?_
  rintro _ w2 ⟨rfl, hc2', ho2⟩
  have hA2 := hA1.only ho2 (by simp; omega)
  have how := (Only.of_below (F := [m.b]) hbw).trans ho2
  clear hA1 hcm cu1
  go_wp2_with fail
  with_reducible refine (cu2 _ hc2').mono ?_
  rintro _ w3 ⟨rfl, hc3, ho3⟩
  have hA3 := hA2.only ho3 (by simp; omega)
  have how3 := (how.trans ho3).drew
  have hc3d : CellsAt w3.drew m.b L m.cap := hc3
  have hA3d : BL w3.drew w.heap.size 33 [.int .i64 s1, .int .i64 s2, .int .i64 s3] := hA3
  clear hA2 hc2' cu2 hA3 hc3
  go_wp2_with fail
  have hE2 : L.take x ++ (L.drop (x + q)).take (c - (x + q)) ++ L.drop (x + (c - (x + q))) = L2 := by
    have h9 := HHP.out
    rw [← HL2.out, List.take_of_length_le (i := c - (x + q)) (by rw [List.length_drop]; omega), show x + (c - (x + q)) = p by omega]
  have hE3 : x + q = c → L.take x ++ (L.drop 0).take 0 ++ L.drop (x + 0) = L2 := fun e => by
    have h9 := HHP.out
    rw [← HL2.out, show p = x by omega, List.drop_of_length_le (i := x + q) (by omega)]
    simp
  have HE2 := Lib.hid hE2
  have HE3 := Lib.hid hE3
  have HM := Lib.hid hmin
  clear hE2 hE3 hmin
  go_cut [] (fun wx => CellsAt wx m.b L2 m.cap ∧ Only [m.b] w wx ∧ BL wx w.heap.size 33 [.int .i64 s1, .int .i64 s2, .int .i64 s3])
  case first =>
    clear t4
    by_cases hz : m.cap = x + q
    · have HCQ : Hid (x + q = c) := by show _ = _; omega
      have hz' : (m.cap = x + q) = True := by simp [hz]
      clear hz
      go_region_law (refine step_copy_cells rfl (.tmp 32) (.tmp 37) rfl m.b m.cap x (c - x) (m.cap - x) m.b m.cap 0 (c - (x + q)) (m.cap - (x + q)) (x * 5) 0 L L (by go_simp) (by go_simp) (by omega) (by omega) hc3d hc3d (by omega) (by have := HCQ.out; omega) ?_; intro w5 hc5 hw5)
      all_goals
        rw [HM.out, show c - (x + q) = 0 by have := HCQ.out; omega, HE3.out HCQ.out] at hc5
        have ho5 := hw5.2 _ _ how3 (.inl (by simp))
        have hA5 := hA3d.only hw5.only (by simp; omega)
        go_wp2_with fail
        go_meet
        exact ⟨hc5, ho5, hA5⟩
    · go_region_law (refine step_copy_cells rfl (.tmp 32) (.tmp 37) rfl m.b m.cap x (c - x) (m.cap - x) m.b m.cap (x + q) (c - (x + q)) (m.cap - (x + q)) (x * 5) ((x + q) * 5) L L (by go_simp) (by go_simp) (by omega) (by omega) hc3d hc3d (by omega) (by omega) ?_; intro w5 hc5 hw5)
      all_goals
        rw [HM.out, HE2.out] at hc5
        have ho5 := hw5.2 _ _ how3 (.inl (by simp))
        have hA5 := hA3d.only hw5.only (by simp; omega)
        go_wp2_with fail
        go_meet
        exact ⟨hc5, ho5, hA5⟩
  case rest =>
    obtain ⟨hc5, ho5, hA5⟩ := hcut
    have a0 := hA5.cell 0
    have a1 := hA5.cell 1
    have a2 := hA5.cell 2
    have ho5d := ho5.drew
    have g5 := hgf _ ho5
    have hc5d : CellsAt wc.drew m.b L2 m.cap := hc5
    clear HE2 HE3 HM HL2 hc3d hA3d hc5
    go_wp2_with fail
    go_region_with (go_at_call 40; refine (fi _ hc5d).mono ?_; rintro _ w4 ⟨rfl, hc6, ho6⟩)
    all_goals go_wp2_with fail
    all_goals
      have ho7 := ho5d.trans ho6
      exact body_end rfl rfl ⟨rfl, hFIN.out _ hc6 ho7, ho7⟩
end Go.Proofs.YtgjlohplgpcghaaDoor.Grd
