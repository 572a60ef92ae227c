/- A cell laid into a grid. -/
import Derived.Test.YtgjlohplgpcghaaDoorGwi
import Derived.Deep.DeepAppendWide
import Derived.Deep.AppendSrc
namespace Go.Proofs.YtgjlohplgpcghaaDoor.Grd
open Go.RowKit Cel Sty

/-- A row with a cell laid at column x. -/
def putL (l : List Ce) (x : Nat) (c : Ce) : List Ce :=
  if c.2.1 = 2 then ((cutL (cutL l x) (x + 2)).set x c).set (x + 1) (0, 0, c.2.2) else (cutL (cutL l x) (x + 1)).set x c
theorem putL_len (l : List Ce) (x : Nat) (c : Ce) : (putL l x c).length = l.length := by
  unfold putL
  split
  · simp only [List.length_set, cutL_len]
  · simp only [List.length_set, cutL_len]
theorem rowsL_same {ms : List MR} {k : Nat} (hk : k < ms.length) {m : MR} (h : mrL m = mrL ms[k]) : rowsL (ms.set k m) = rowsL ms := by
  have h1 := rowsL_set hk m
  have h2 := rowsL_set hk ms[k]
  rw [h1, h, ← h2, List.set_getElem_self]
theorem GridAt.set_cells {w w' : World} {g s : Nat} {pv : Value} {fp : List Nat} {G : GS} (h : GridAt w g s pv fp G) {k : Nat} (hk : k < G.scr.length) {l : List Ce} (hl : l.length = G.cols)
    (hm : CellsAt w' G.scr[k].b l G.scr[k].cap) (ho : Only [G.scr[k].b] w w') : GridAt w' g s pv fp { G with scr := G.scr.set k { G.scr[k] with l := l } } := by
  have hmem : G.scr[k] ∈ G.past ++ G.scr := List.mem_append_right _ (List.getElem_mem hk)
  have hfar := h.far _ hmem
  simp only [List.mem_cons, not_or] at hfar
  refine h.set_row (m := { G.scr[k] with l := l }) hk rfl hl hm ho (by simp; exact fun e => hfar.1 e.symm) (fun x hx e => ?_) ?_ (fun x hx => .inr (by simpa using hx))
  · simp only [List.mem_cons, List.not_mem_nil, or_false] at e
    exact hfar.2.2 (e ▸ hx)
  · rw [rowsL_same hk (by unfold mrL; rw [show ({ G.scr[k] with l := l } : MR).l.length = G.scr[k].l.length from hl.trans (h.cells _ hmem).symm])]
    exact h.scr.only ho (by simp; exact fun e => hfar.2.1 e.symm)

set_option maxRecDepth 100000 in
set_option maxHeartbeats 2000000 in
theorem put_any {B : Nat} {w : World} {g s : Nat} {pv : Value} {fp : List Nat} {G : GS} (h : GridAt w g s pv fp G) (ht : Tabs B w) (hB : B ≤ w.heap.size) (x k : Nat) (hk : k < G.scr.length) (r wd s1 s2 s3 : Int) (hr0 : -2147483648 ≤ r) (hr1 : r ≤ 2147483647)
    (hmay : mayS r wd s1 s2 s3 = true) (hx : (x : Int) + wd ≤ (G.cols : Int)) :
    Calls Tryd.prog 11 #[.pointer (some ⟨g, 0, none⟩), .int .i64 (x : Int), .int .i64 (k : Int), .agg #[.int .i32 r, .int .i64 wd, .int .i64 s1, .int .i64 s2, .int .i64 s3]] w fun e w' => e = .returned (.tuple #[]) ∧
      GridAt w' g s pv fp { G with scr := G.scr.set k { G.scr[k] with l := putL G.scr[k].l x (r, wd, s1, s2, s3) } } ∧ Only [G.scr[k].b] w w' := by
  have hmem : G.scr[k] ∈ G.past ++ G.scr := List.mem_append_right _ (List.getElem_mem hk)
  have hcl := h.cells _ hmem
  have hc0 := h.held.at_ _ hmem
  have hfin := fun w' l => h.set_cells (w' := w') hk (l := l)
  have hfr := h.row_cells hk
  have hlt := h.held.lt hmem
  have hc1 := h.c1
  have hc2 := h.c2
  have hr2 := h.r2
  have hwd : wd = 1 ∨ wd = 2 := by
    have h1 : 0 < wd ∧ wd = width r := by unfold mayS at hmay; simp at hmay; exact ⟨hmay.1, hmay.2.1⟩
    have := width_bd r
    omega
  have hgl := h.blk.lt
  have hsl := h.scr.lt
  have hA := BL.new w 35 [.int .i32 r, .int .i64 wd, .int .i64 s1, .int .i64 s2, .int .i64 s3]
  have hb0 : Below w.heap.size w (w.alloc (.cells #[.int .i32 r, .int .i64 wd, .int .i64 s1, .int .i64 s2, .int .i64 s3] 35)) := (Below.refl _ _).alloc (Nat.le_refl _) _
  have hs0 := hb0.size
  have HA := Lib.hid hA
  have HG := Lib.hid (h.below hb0)
  have HT := Lib.hid (ht.below hb0 hB)
  have hAl := hA.lt
  have hsh := fun w h => shows_any (w := w) (g := g) (s := s) (pv := pv) (fp := fp) (G := G) h (k : Int) true (by simp; omega)
  have hmb := fun w ht hB => mayBePut_any (B := B) r wd s1 s2 s3 hr0 hr1 true hmay w ht hB
  clear hmay hr0 hr1 hA
  generalize hM : G.scr[k] = m at *
  have HC := Lib.hid hcl
  obtain ⟨n, hn⟩ : ∃ n, G.cols = n := ⟨_, rfl⟩
  rw [hn] at hx hcl hc1 hc2
  rcases hwd with rfl | rfl
  · have hx2 : x + 1 ≤ n := by omega
    have d1 : decide ((x : Int) < 0) = false := by simp
    have d2 : decide ((n : Int) - 1 < (x : Int)) = false := by simp; omega
    have d3 : (x : Int) ≤ (n : Int) - 1 := by omega
    have j1 : IntKind.i64.wrap ((n : Int) - 1) = (n : Int) - 1 := IntWalk.i64_in _ ⟨by omega, by omega⟩
    have hcap := hc0.1
    have cu1 := fun w h => cut_any m.b m.cap m.cap x m.l w h (by omega) hcap (by omega)
    have cu2 := fun w h => cut_any m.b m.cap m.cap (x + 1) (cutL m.l x) w h (by rw [cutL_len]; omega) (by rw [cutL_len]; exact hcap) (by omega)
    have e2 : ((x + 1 : Nat) : Int) = (x : Int) + 1 := by omega
    rw [cutL_len, e2] at cu2
    clear e2
    rw [hcl] at cu1 cu2
    have hPUT : Hid (putL m.l x (r, 1, s1, s2, s3) = (cutL (cutL m.l x) (x + 1)).set x (r, 1, s1, s2, s3)) := by show _ = _; unfold putL; rw [if_neg (by simp)]
    go_enter Tryd.func11, Tryd.ntmps11
    go_wp2_with fail
    generalize w.alloc (.cells #[.int .i32 r, .int .i64 1, .int .i64 s1, .int .i64 s2, .int .i64 s3] 35) = W at *
    go_cut [32] (fun s32 wx => s32 = .bool false ∧ Below W.heap.size W wx)
    case first =>
      have SS : ∀ V, Below W.heap.size W V → (V.cell? ⟨w.heap.size, 0, none⟩ = some (.int .i32 r) ∧ V.cell? ⟨w.heap.size, 1, none⟩ = some (.int .i64 1) ∧ V.cell? ⟨w.heap.size, 2, none⟩ = some (.int .i64 s1) ∧ V.cell? ⟨w.heap.size, 3, none⟩ = some (.int .i64 s2) ∧ V.cell? ⟨w.heap.size, 4, none⟩ = some (.int .i64 s3) ∧ V.cell? ⟨g, 0, none⟩ = some (.int .i64 (n : Int)) ∧ GridAt V g s pv fp G ∧ Tabs B V ∧ Below W.heap.size W V) := fun V hkk => by
        have hA2 := HA.out.only (F := []) (Only.of_below hkk) (by simp)
        have hG2 := HG.out.below hkk
        exact ⟨hA2.cell 0, hA2.cell 1, hA2.cell 2, hA2.cell 3, hA2.cell 4, by rw [← hn]; exact hG2.f0, hG2, HT.out.below hkk (by omega), hkk⟩
      have hdr : Below W.heap.size W W.drew := (Below.refl _ _).drew
      have HX := Lib.hid hn
      clear hn
      go_region_held3 (fun V => V.cell? ⟨w.heap.size, 0, none⟩ = some (.int .i32 r) ∧ V.cell? ⟨w.heap.size, 1, none⟩ = some (.int .i64 1) ∧ V.cell? ⟨w.heap.size, 2, none⟩ = some (.int .i64 s1) ∧ V.cell? ⟨w.heap.size, 3, none⟩ = some (.int .i64 s2) ∧ V.cell? ⟨w.heap.size, 4, none⟩ = some (.int .i64 s3) ∧ V.cell? ⟨g, 0, none⟩ = some (.int .i64 (n : Int)) ∧ GridAt V g s pv fp G ∧ Tabs B V ∧ Below W.heap.size W V)
        (first
          | (refine SS _ ?_; assumption)
          | fail)
        (first
          | (go_at_call 35; obtain ⟨_, _, _, _, _, _, kg, _, k2⟩ := (by assumption : _ ∧ _ ∧ _ ∧ _ ∧ _ ∧ _ ∧ GridAt _ g s pv fp G ∧ Tabs B _ ∧ Below W.heap.size W _); refine (hsh _ kg).mono ?_; rintro _ w2 ⟨rfl, rfl⟩)
          | (go_at_call 36; obtain ⟨_, _, _, _, _, _, _, kt, k3⟩ := (by assumption : _ ∧ _ ∧ _ ∧ _ ∧ _ ∧ _ ∧ GridAt _ g s pv fp G ∧ Tabs B _ ∧ Below W.heap.size W _); refine (hmb _ kt (by have := k3.size; omega)).mono ?_; rintro _ w3 ⟨rfl, hb3⟩; have hby := k3.trans (hb3.mono k3.size)))
      all_goals go_wp2_with fail
      all_goals go_meet
      all_goals exact ⟨rfl, hby⟩
    case rest =>
      obtain ⟨rfl, hb1⟩ := hcut
      have hG1 := HG.out.below hb1
      have hA1 := HA.out.only (F := []) (Only.of_below hb1) (by simp)
      have hbw := hb0.trans (hb1.mono hs0)
      have hcm := hc0.only (F := []) (Only.of_below hbw) (by simp)
      have g3 := hG1.f3
      obtain ⟨q0, _⟩ := hG1.row_cells hk
      rw [hM] at q0
      have a1 := hA1.cell 1
      have hxl : x < (cutL (cutL m.l x) (x + 1)).length := by simp only [cutL_len]; omega
      clear hG1 HG HT hsh hmb hfr hn hb0
      go_wp2_with fail
      with_reducible refine (cu1 _ hcm).mono ?_
      rintro _ w2 ⟨rfl, hc2, ho2⟩
      have hA2 := hA1.only ho2 (by simp; omega)
      have a2 := hA2.cell 1
      have how := (Only.of_below (F := [m.b]) hbw).trans ho2
      clear hA1 a1 hcm cu1 q0 g3
      go_wp2_with fail
      with_reducible refine (cu2 _ hc2).mono ?_
      rintro _ w3 ⟨rfl, hc3, ho3⟩
      have hA3 := hA2.only ho3 (by simp; omega)
      have a3 := hA3.cell 1
      have how3 := how.trans ho3
      clear hA2 a2 hc2 cu2
      go_wp2_with (first
        | (refine wpList_load_row rfl 35 _ rfl w.heap.size rfl _ _ _ _ hA3 Tryd.underlying35 rfl (by kernel_rfl) ?_)
        | (refine wpList_store_cell rfl (.tmp 53) (.tmp 52) rfl m.b _ x m.cap _ _ _ _ _ _ rfl rfl hc3 hxl (by omega) ?_; intro w4 hc4 hw4; have hA4 := hA3.only hw4.only (by simp; omega); have a4 := hA4.cell 1))
      have how4 := hw4.2 _ _ how3 (.inl (by simp))
      exact body_end rfl rfl ⟨rfl, hfin _ _ (by rw [putL_len]; exact HC.out) (by rw [hPUT.out]; exact hc4) how4, how4⟩
  · have hx2 : x + 2 ≤ n := by omega
    have d1 : decide ((x : Int) < 0) = false := by simp
    have d2 : decide ((n : Int) - 2 < (x : Int)) = false := by simp; omega
    have d3 : (x : Int) ≤ (n : Int) - 2 := by omega
    have j1 : IntKind.i64.wrap ((n : Int) - 2) = (n : Int) - 2 := IntWalk.i64_in _ ⟨by omega, by omega⟩
    have hcap := hc0.1
    have j3 : (0 : Int) ≤ (x : Int) + 1 := by omega
    have j4 : (x : Int) + 1 < (n : Int) := by omega
    have cu1 := fun w h => cut_any m.b m.cap m.cap x m.l w h (by omega) hcap (by omega)
    have cu2 := fun w h => cut_any m.b m.cap m.cap (x + 2) (cutL m.l x) w h (by rw [cutL_len]; omega) (by rw [cutL_len]; exact hcap) (by omega)
    have e2 : ((x + 2 : Nat) : Int) = (x : Int) + 2 := by omega
    rw [cutL_len, e2] at cu2
    clear e2
    rw [hcl] at cu1 cu2
    have hPUT : Hid (putL m.l x (r, 2, s1, s2, s3) = ((cutL (cutL m.l x) (x + 2)).set x (r, 2, s1, s2, s3)).set (x + 1) (0, 0, s1, s2, s3)) := by show _ = _; unfold putL; rw [if_pos rfl]
    go_enter Tryd.func11, Tryd.ntmps11
    go_wp2_with fail
    generalize w.alloc (.cells #[.int .i32 r, .int .i64 2, .int .i64 s1, .int .i64 s2, .int .i64 s3] 35) = W at *
    go_cut [32] (fun s32 wx => s32 = .bool false ∧ Below W.heap.size W wx)
    case first =>
      have SS : ∀ V, Below W.heap.size W V → (V.cell? ⟨w.heap.size, 0, none⟩ = some (.int .i32 r) ∧ V.cell? ⟨w.heap.size, 1, none⟩ = some (.int .i64 2) ∧ V.cell? ⟨w.heap.size, 2, none⟩ = some (.int .i64 s1) ∧ V.cell? ⟨w.heap.size, 3, none⟩ = some (.int .i64 s2) ∧ V.cell? ⟨w.heap.size, 4, none⟩ = some (.int .i64 s3) ∧ V.cell? ⟨g, 0, none⟩ = some (.int .i64 (n : Int)) ∧ GridAt V g s pv fp G ∧ Tabs B V ∧ Below W.heap.size W V) := fun V hkk => by
        have hA2 := HA.out.only (F := []) (Only.of_below hkk) (by simp)
        have hG2 := HG.out.below hkk
        exact ⟨hA2.cell 0, hA2.cell 1, hA2.cell 2, hA2.cell 3, hA2.cell 4, by rw [← hn]; exact hG2.f0, hG2, HT.out.below hkk (by omega), hkk⟩
      have hdr : Below W.heap.size W W.drew := (Below.refl _ _).drew
      have HX := Lib.hid hn
      clear hn
      go_region_held3 (fun V => V.cell? ⟨w.heap.size, 0, none⟩ = some (.int .i32 r) ∧ V.cell? ⟨w.heap.size, 1, none⟩ = some (.int .i64 2) ∧ V.cell? ⟨w.heap.size, 2, none⟩ = some (.int .i64 s1) ∧ V.cell? ⟨w.heap.size, 3, none⟩ = some (.int .i64 s2) ∧ V.cell? ⟨w.heap.size, 4, none⟩ = some (.int .i64 s3) ∧ V.cell? ⟨g, 0, none⟩ = some (.int .i64 (n : Int)) ∧ GridAt V g s pv fp G ∧ Tabs B V ∧ Below W.heap.size W V)
        (first
          | (refine SS _ ?_; assumption)
          | fail)
        (first
          | (go_at_call 35; obtain ⟨_, _, _, _, _, _, kg, _, k2⟩ := (by assumption : _ ∧ _ ∧ _ ∧ _ ∧ _ ∧ _ ∧ GridAt _ g s pv fp G ∧ Tabs B _ ∧ Below W.heap.size W _); refine (hsh _ kg).mono ?_; rintro _ w2 ⟨rfl, rfl⟩)
          | (go_at_call 36; obtain ⟨_, _, _, _, _, _, _, kt, k3⟩ := (by assumption : _ ∧ _ ∧ _ ∧ _ ∧ _ ∧ _ ∧ GridAt _ g s pv fp G ∧ Tabs B _ ∧ Below W.heap.size W _); refine (hmb _ kt (by have := k3.size; omega)).mono ?_; rintro _ w3 ⟨rfl, hb3⟩; have hby := k3.trans (hb3.mono k3.size)))
      all_goals go_wp2_with fail
      all_goals go_meet
      all_goals exact ⟨rfl, hby⟩
    case rest =>
      obtain ⟨rfl, hb1⟩ := hcut
      have hG1 := HG.out.below hb1
      have hA1 := HA.out.only (F := []) (Only.of_below hb1) (by simp)
      have hbw := hb0.trans (hb1.mono hs0)
      have hcm := hc0.only (F := []) (Only.of_below hbw) (by simp)
      have g3 := hG1.f3
      obtain ⟨q0, _⟩ := hG1.row_cells hk
      rw [hM] at q0
      have a1 := hA1.cell 1
      have hxl : x < (cutL (cutL m.l x) (x + 2)).length := by simp only [cutL_len]; omega
      have hxl2 : x + 1 < (cutL (cutL m.l x) (x + 2)).length := by simp only [cutL_len]; omega
      clear hG1 HG HT hsh hmb hfr hn hb0
      go_wp2_with fail
      with_reducible refine (cu1 _ hcm).mono ?_
      rintro _ w2 ⟨rfl, hc2, ho2⟩
      have hA2 := hA1.only ho2 (by simp; omega)
      have a2 := hA2.cell 1
      have how := (Only.of_below (F := [m.b]) hbw).trans ho2
      clear hA1 a1 hcm cu1 q0 g3
      go_wp2_with fail
      with_reducible refine (cu2 _ hc2).mono ?_
      rintro _ w3 ⟨rfl, hc3, ho3⟩
      have hA3 := hA2.only ho3 (by simp; omega)
      have a3 := hA3.cell 1
      have how3 := how.trans ho3
      clear hA2 a2 hc2 cu2
      go_wp2_with (first
        | (refine wpList_load_row rfl 35 _ rfl w.heap.size rfl _ _ _ _ hA3 Tryd.underlying35 rfl (by kernel_rfl) ?_)
        | (refine wpList_store_cell rfl (.tmp 53) (.tmp 52) rfl m.b _ x m.cap _ _ _ _ _ _ rfl rfl hc3 hxl (by omega) ?_; intro w4 hc4 hw4; have hA4 := hA3.only hw4.only (by simp; omega); have a4 := hA4.cell 1; have a42 := hA4.cell 2; have a43 := hA4.cell 3; have a44 := hA4.cell 4; have how4 := hw4.2 _ _ how3 (.inl (by simp)))
        | (go_at_call 38; refine (padding_any _ _ _ _).mono ?_; rintro _ w5 ⟨rfl, hb5⟩; have hc5 := hc4.only (F := []) (Only.of_below hb5) (by simp); have how5 := how4.trans (Only.of_below hb5))
        | (refine wpList_store_cell rfl (.tmp 63) (.tmp 62) rfl m.b _ (x + 1) m.cap _ _ _ _ _ _ rfl rfl hc5 (by rw [List.length_set]; omega) (by omega) ?_; intro w6 hc6 hw6))
      have how6 := hw6.2 _ _ how5 (.inl (by simp))
      exact body_end rfl rfl ⟨rfl, hfin _ _ (by rw [putL_len]; exact HC.out) (by rw [hPUT.out]; exact hc6) how6, how6⟩
end Go.Proofs.YtgjlohplgpcghaaDoor.Grd
/- The rows from one to another one. -/
namespace Go.Proofs.YtgjlohplgpcghaaDoor.Grd
open Go.RowKit Cel Sty

set_option maxRecDepth 100000 in
set_option maxHeartbeats 1000000 in
theorem region_any {w : World} {g s : Nat} {pv : Value} {fp : List Nat} {G : GS} (h : GridAt w g s pv fp G) (top bottom q : Nat) (htb : top ≤ bottom) (hbr : bottom < G.scr.length) (n : Int) (hn : 1 ≤ n) (hq : (q : Int) = min n ((bottom : Int) + 1 - (top : Int)))
    (s1 s2 s3 : Int) (hst : rightS s1 s2 s3 = true) :
    Calls Tryd.prog 41 #[.pointer (some ⟨g, 0, none⟩), .int .i64 (top : Int), .int .i64 (bottom : Int), .int .i64 n, .agg #[.int .i64 s1, .int .i64 s2, .int .i64 s3]] w fun e w' => e = .returned (.tuple #[.slice (some ⟨s, top * 2, none⟩) (bottom + 1 - top) (G.scr.length - top), .int .i64 (q : Int)]) ∧ Below w.heap.size w w' := by
  have h3 := h.f3
  have hr2 := h.r2
  have hgl := h.blk.lt
  have hrt := fun w => right_any s1 s2 s3 _ hst w
  have hA := BL.new w 33 [.int .i64 s1, .int .i64 s2, .int .i64 s3]
  have a0 := hA.cell 0
  have a1 := hA.cell 1
  have a2 := hA.cell 2
  have hb0 : Below w.heap.size w (w.alloc (.cells #[.int .i64 s1, .int .i64 s2, .int .i64 s3] 33)) := (Below.refl _ _).alloc (Nat.le_refl _) _
  have hs0 := hb0.size
  obtain ⟨r, hr⟩ : ∃ r, G.scr.length = r := ⟨_, rfl⟩
  rw [hr] at h3 hr2 hbr ⊢
  clear hr h hst
  have HQ := Lib.hid hq
  clear hq
  have d1 : decide ((top : Int) < 0) = false := by simp
  have d2 : decide ((bottom : Int) < (top : Int)) = false := by simp; omega
  have d3 : decide ((r : Int) ≤ (bottom : Int)) = false := by simp; omega
  have d4 : decide (n < 1) = false := by simp; omega
  have i0 : (0 : Int) ≤ (top : Int) := Int.natCast_nonneg _
  have i1 : (top : Int) ≤ (bottom : Int) + 1 := by omega
  have i2 : (bottom : Int) + 1 ≤ (r : Int) := by omega
  have i3 : (0 : Int) ≤ (bottom : Int) + 1 := by omega
  have cy : ¬ r = top := by omega
  have j1 : IntKind.i64.wrap ((bottom : Int) + 1) = (bottom : Int) + 1 := IntWalk.i64_in _ ⟨by omega, by omega⟩
  have m1 : max ((bottom : Int) + 1) 0 = (bottom : Int) + 1 := by omega
  go_enter Tryd.func41, Tryd.ntmps41
  go_wp2_with (go_at_call 59; refine (hrt _).mono ?_; rintro _ w1 ⟨rfl, hb1⟩; have hbw := hb0.trans (hb1.mono hs0); have g3 : w1.cell? ⟨g, 3, none⟩ = some (.slice (some ⟨s, 0, none⟩) r r) := (hbw.cell (p := ⟨g, 3, none⟩) hgl).trans h3)
  all_goals
    go_ret2
    refine ⟨?_, hbw⟩
    have e := HQ.out
    first
      | (have e2 : n = (q : Int) := by omega
         rw [← e2]; rfl)
      | (have e2 : ((bottom + 1 - top : Nat) : Int) = (q : Int) := by omega
         rw [← e2]; rfl)
end Go.Proofs.YtgjlohplgpcghaaDoor.Grd
/- Rows put behind those of a table. -/
namespace Go.Proofs.YtgjlohplgpcghaaDoor.Grd
open Go.RowKit

theorem one_rows (ms : List MR) : ∀ u ∈ rowsL ms, u.oneCell' = true := by
  intro u hu
  unfold rowsL at hu
  obtain ⟨m, _, hc⟩ := List.mem_flatMap.1 hu
  unfold mrL at hc
  simp only [List.mem_cons, List.not_mem_nil, or_false] at hc
  rcases hc with rfl | rfl <;> rfl
theorem append_rows (w : World) {pv : Value} {past : List MR} {fp : List Nat} (ht : TabAt w pv past fp) (ty : TypeId) (a : Addr) (c : Nat) (new : List MR) (h0 : 0 < new.length) (hnews : ∀ j u, (rowsL new)[j]? = some u → w.cell? (a.add j) = some u) (hl : past.length + new.length ≤ 1000000) :
    ∃ v' w' fp', (Builtin.append_ #[68, 68] ty #[pv, .slice (some a) new.length c]).run Tryd.prog w = .ok v' w' ∧ TabAt w' v' (past ++ new) fp' ∧ (∀ x ∈ fp', x ∈ fp ∨ w.heap.size ≤ x) ∧ Only fp w w' := by
  have hi := info_row
  cases hq : Tryd.prog.info? 73 with
  | none => rw [hq] at hi; cases hi
  | some i =>
    rw [hq] at hi
    simp only [Option.map_some, Option.some.injEq, Prod.mk.injEq] at hi
    obtain ⟨hz, hsz, hby⟩ := hi
    have hnl := rowsL_len new
    have hmx : maxLen = 9223372036854775807 := rfl
    have hlen : (rowsL new).length = new.length * i.size := by rw [hsz]; omega
    have grown : ∀ (olds : List Value) (k old : Nat), olds.length = 2 * k → ∀ cap, k + new.length ≤ cap → BL (w.drew.alloc (.cells (olds.toArray ++ (rowsL new).toArray ++ Builtin.zeroCells (Value.cells (.agg #[.slice none 0 0, .bool false])) (cap - (k + new.length))) 73)) w.heap.size 73 (olds ++ rowsL new ++ (Builtin.zeroCells (Value.cells (.agg #[.slice none 0 0, .bool false])) (cap - (k + new.length))).toList) := by
      intro olds k old _ cap _
      generalize Builtin.zeroCells (Value.cells (.agg #[.slice none 0 0, .bool false])) (cap - (k + new.length)) = Z
      have e : olds.toArray ++ (rowsL new).toArray ++ Z = (olds ++ rowsL new ++ Z.toList).toArray := by apply Array.toList_inj.1; simp
      rw [e]
      exact BL.new w.drew 73 (olds ++ rowsL new ++ Z.toList)
    have hzl : ∀ n, (Builtin.zeroCells (Value.cells (.agg #[.slice none 0 0, .bool false])) n).toList.length = n * 2 := fun n => by
      have := size_zeroCells (Value.cells (.agg #[.slice none 0 0, .bool false])) n
      exact (Array.length_toList (xs := Builtin.zeroCells (Value.cells (.agg #[.slice none 0 0, .bool false])) n)).trans this
    have ho : ∀ o : Obj, Only fp w (w.drew.alloc o) := fun o => (Only.refl fp w).drew.alloc o
    rcases ht with ⟨rfl, rfl, rfl⟩ | ⟨p, off, cp, pre, tail, rfl, hc1, hc2, hpre, htl, hB, rfl⟩
    · have hr := run_append_nil (P := Tryd.prog) w 68 ty 73 i _ Tryd.underlying68 hq hz a new.length c (rowsL new) hlen hnews h0 (by omega) (by rw [hby]; omega)
      have hge := grownCap_ge w new.length 0 73
      have hle := grownCap_le_maxLen w new.length 0 73 (by omega)
      have hb := grown [] 0 0 rfl (grownCap w new.length 0 73) (by omega)
      simp only [Nat.zero_add, List.nil_append, Array.empty_append] at hb
      refine ⟨_, _, [w.heap.size], hr, .inr ⟨w.heap.size, 0, _, [], (Builtin.zeroCells (Value.cells (.agg #[.slice none 0 0, .bool false])) (grownCap w new.length 0 73 - new.length)).toList, rfl, hge, hle, rfl, ?_, hb, rfl⟩, (fun x hx => .inr (by simp at hx; omega)), ho _⟩
      rw [hzl]
      show 2 * (_ - new.length) ≤ (_ - new.length) * 2
      omega
    · by_cases hroom : past.length + new.length ≤ cp
      · have hpl := rowsL_len past
        have hfit : 2 * off + past.length * 2 + (rowsL new).length ≤ (pre ++ rowsL past ++ tail).length := by simp only [List.length_append]; omega
        have hthere := hB.there (o := 2 * off + past.length * 2) (n := (rowsL new).length) hfit
        have hr := run_append_room_src (P := Tryd.prog) w 68 68 ty 73 i Tryd.underlying68 hq p (2 * off) past.length cp (.slice (some a) new.length c) new.length (rowsL new)
          (Src.ofSlice w Tryd.underlying68 a new.length c (rowsL new) hlen hnews (one_rows new)) hroom (fun j hj => by rw [hsz]; exact (hthere j hj).1) (fun j hj => by rw [hsz]; exact (hthere j hj).2)
        rw [hsz] at hr
        have hB2 := hB.setCells (rowsL new) (2 * off + past.length * 2) hfit
        have hsp : splice (pre ++ rowsL past ++ tail) (2 * off + past.length * 2) (rowsL new) = pre ++ rowsL (past ++ new) ++ tail.drop (2 * new.length) := by
          have h1 : (pre ++ rowsL past).length = 2 * off + past.length * 2 := by rw [List.length_append]; omega
          unfold splice
          rw [List.take_left' h1, List.drop_append, h1, List.drop_of_length_le (l := pre ++ rowsL past) (by omega), List.nil_append, hnl, show 2 * off + past.length * 2 + 2 * new.length - (2 * off + past.length * 2) = 2 * new.length by omega, rowsL_app]
          simp only [List.append_assoc]
        rw [hsp] at hB2
        refine ⟨_, _, [p], hr, .inr ⟨p, off, cp, pre, _, by rw [List.length_append], by rw [List.length_append]; exact hroom, hc2, hpre, ?_, hB2, rfl⟩, (fun x hx => .inl hx), (Only.refl _ _).setCells p _ _ (.inl (by simp))⟩
        rw [List.length_drop, List.length_append]
        omega
      · have hpl := rowsL_len past
        have hr := run_append_grow (P := Tryd.prog) w 68 ty 73 i _ Tryd.underlying68 hq hz ⟨p, 2 * off, none⟩ past.length cp (rowsL past) (by rw [hsz]; omega)
          (fun j u hj => by
            have hj2 := (List.getElem?_eq_some_iff.1 hj).1
            rw [Addr.add_mid, hB.cell, List.append_assoc, List.getElem?_append_right (by omega), hpre, show 2 * off + j - 2 * off = j by omega, List.getElem?_append_left hj2]
            exact hj)
          a new.length c (rowsL new) hlen hnews (by omega) (by omega) (growslice_fits_wide (by omega) (by rw [hby]; omega))
        have hge := grownCap_ge w (past.length + new.length) cp 73
        have hle := grownCap_le_maxLen w (past.length + new.length) cp 73 (by omega)
        have hb := grown (rowsL past) past.length 0 hpl (grownCap w (past.length + new.length) cp 73) (by omega)
        refine ⟨_, _, [w.heap.size], hr, .inr ⟨w.heap.size, 0, _, [], (Builtin.zeroCells (Value.cells (.agg #[.slice none 0 0, .bool false])) (grownCap w (past.length + new.length) cp 73 - (past.length + new.length))).toList, by rw [List.length_append], by rw [List.length_append]; exact hge, hle, rfl, ?_, ?_, rfl⟩, (fun x hx => .inr (by simp at hx; omega)), ho _⟩
        · rw [hzl, List.length_append]
          show 2 * (_ - (past.length + new.length)) ≤ (_ - (past.length + new.length)) * 2
          omega
        · rw [List.nil_append, rowsL_app]
          exact hb
end Go.Proofs.YtgjlohplgpcghaaDoor.Grd
