/- A grid cropped: the walk. -/
import Derived.Test.YtgjlohplgpcghaaDoorGco
namespace Go.Proofs.YtgjlohplgpcghaaDoor.Grd
open Go.RowKit Cel Sty

/-- Rows in another number of columns. -/
def cropP (c cols : Nat) (rs : List Ro) : List Ro := if cols = c then rs else rs.map fun r => (cropL r.1 cols, false)
theorem cropP_same (c : Nat) (rs : List Ro) : cropP c c rs = rs := if_pos rfl
theorem cropP_ne {c cols : Nat} (h : ¬ cols = c) (ms : List MR) : cropP c cols (ms.map MR.pl) = ms.map (cropR cols) := by
  unfold cropP
  rw [if_neg h, List.map_map]
  rfl
theorem cropL_len (l : List Ce) (cols : Nat) : (cropL l cols).length = cols := by
  unfold cropL
  rw [List.length_append, List.length_take, cutL_len, List.length_replicate]
  omega
theorem foot_pos {z : Nat} {w : World} {g s : Nat} {pv : Value} {fp : List Nat} {G : GS} (h : GridAt w g s pv fp G) (hz : z ∈ foot g s fp G) : z < w.heap.size := by
  unfold foot at hz
  rcases List.mem_append.1 hz with hz | hz
  · rcases List.mem_cons.1 hz with rfl | hz
    · exact h.blk.lt
    · rcases List.mem_cons.1 hz with rfl | hz
      · exact h.scr.lt
      · exact h.tab.lt _ hz
  · obtain ⟨m, hm, rfl⟩ := List.mem_map.1 hz
    exact h.held.lt hm
/-- What a crop leaves, ahead of its rows' number. -/
structure Mid1 (w wx : World) (g s : Nat) (pv : Value) (fp : List Nat) (G : GS) (cols x y : Nat) : Prop where
  grid : ∃ past1 scr1 : List MR, GridAt wx g s pv fp ⟨cols, G.limit, past1, scr1⟩ ∧ past1.map MR.pl = cropP G.cols cols (G.past.map MR.pl) ∧ scr1.map MR.pl = cropP G.cols cols (G.scr.map MR.pl) ∧ ∀ m ∈ past1 ++ scr1, m.b ∈ foot g s fp G ∨ w.heap.size + 2 ≤ m.b
  fr : Only (foot g s fp G) w wx
  pos : BL wx w.heap.size 44 [.int .i64 (x : Int), .int .i64 (y : Int)]
  res : BL wx (w.heap.size + 1) 44 [.int .i64 0, .int .i64 0]
theorem Held.left {w : World} {a b : List MR} (h : Held w (a ++ b)) : Held w a := ⟨fun m hm => h.at_ m (List.mem_append_left _ hm), h.apart.sublist ((List.sublist_append_left _ _).map _)⟩
theorem Held.right {w : World} {a b : List MR} (h : Held w (a ++ b)) : Held w b := ⟨fun m hm => h.at_ m (List.mem_append_right _ hm), h.apart.sublist ((List.sublist_append_right _ _).map _)⟩
theorem Mid1.same {w W : World} {g s : Nat} {pv : Value} {fp : List Nat} {G : GS} {x y : Nat} (h : GridAt W g s pv fp G) (hb : Below w.heap.size w W) (hp : BL W w.heap.size 44 [.int .i64 (x : Int), .int .i64 (y : Int)]) (hr : BL W (w.heap.size + 1) 44 [.int .i64 0, .int .i64 0]) : Mid1 w W g s pv fp G G.cols x y :=
  ⟨⟨G.past, G.scr, h, (cropP_same _ _).symm, (cropP_same _ _).symm, fun m hm => .inl (by unfold foot; exact List.mem_append_right _ (List.mem_map_of_mem hm))⟩, Only.of_below hb, hp, hr⟩

set_option maxRecDepth 100000 in
set_option maxHeartbeats 2000000 in
theorem crop_any {w : World} {g s : Nat} {pv : Value} {fp : List Nat} {G : GS} (h : GridAt w g s pv fp G) (cols rows x y : Nat) (hc1 : 1 ≤ cols) (hc2 : cols ≤ 250) (hr1 : 1 ≤ rows) (hr2 : rows ≤ 120) :
    Calls Tryd.prog 47 #[.pointer (some ⟨g, 0, none⟩), .int .i64 (cols : Int), .int .i64 (rows : Int), .agg #[.int .i64 (x : Int), .int .i64 (y : Int)]] w fun e w' =>
      e = .returned (.agg #[.int .i64 (min (x : Int) ((cols : Int) - 1)), .int .i64 (min (y : Int) ((rows : Int) - 1))]) ∧
      ∃ s' past2 scr2, GridAt w' g s' pv fp ⟨cols, G.limit, past2, scr2⟩ ∧ past2.map MR.pl = cropP G.cols cols (G.past.map MR.pl) ∧ scr2.map MR.pl = filledR (cropP G.cols cols (G.scr.map MR.pl)) cols rows ∧ (∀ z ∈ foot g s' fp ⟨cols, G.limit, past2, scr2⟩, z ∈ foot g s fp G ∨ w.heap.size ≤ z) ∧ Only (foot g s fp G) w w' := by
  have hP := (BL.new w 44 [.int .i64 (x : Int), .int .i64 (y : Int)]).alloc (.cells #[.int .i64 0, .int .i64 0] 44)
  have hR := BL.new (w.alloc (.cells #[.int .i64 (x : Int), .int .i64 (y : Int)] 44)) 44 [.int .i64 0, .int .i64 0]
  have hb0 : Below w.heap.size w ((w.alloc (.cells #[.int .i64 (x : Int), .int .i64 (y : Int)] 44)).alloc (.cells #[.int .i64 0, .int .i64 0] 44)) := ((Below.refl _ _).alloc (Nat.le_refl _) _).alloc (by simp) _
  rw [size_alloc] at hR
  have hz0 : ((w.alloc (.cells #[.int .i64 (x : Int), .int .i64 (y : Int)] 44)).alloc (.cells #[.int .i64 0, .int .i64 0] 44)).heap.size = w.heap.size + 2 := by rw [size_alloc, size_alloc]
  have hG0 := h.below hb0
  have hfl : ∀ z ∈ foot g s fp G, z < w.heap.size := fun z hz => foot_pos h hz
  have HH := Lib.hid h
  have k0 := hG0.f0
  have k2 := hG0.f2
  have k3 := hG0.f3
  have k0f := hG0.blk.frozen 0
  have HZ := Lib.hid hz0
  have HP := Lib.hid hP
  have HR := Lib.hid hR
  have HB := Lib.hid hb0
  have HG0 := Lib.hid hG0
  have HFL := Lib.hid hfl
  obtain ⟨c, hc⟩ : ∃ c, G.cols = c := ⟨_, rfl⟩
  have hcb := h.c2
  rw [hc] at k0 hcb
  have HC := Lib.hid hc
  clear h hP hR hb0 hz0 hG0 hfl hc
  have j1 : IntKind.i64.wrap ((cols : Int) - 1) = (cols : Int) - 1 := IntWalk.i64_in _ ⟨by omega, by omega⟩
  have j2 : IntKind.i64.wrap ((rows : Int) - 1) = (rows : Int) - 1 := IntWalk.i64_in _ ⟨by omega, by omega⟩
  by_cases hcc : cols = c
  · subst hcc
    go_enter Tryd.func47, Tryd.ntmps47
    go_upto_region 5 with fail
    generalize (w.alloc (.cells #[.int .i64 (x : Int), .int .i64 (y : Int)] 44)).alloc (.cells #[.int .i64 0, .int .i64 0] 44) = V at *
    have HMID : Hid (Mid1 w V g s pv fp G cols x y) := by
      have h9 := Mid1.same HG0.out HB.out HP.out HR.out
      rw [HC.out] at h9
      exact h9
    have HVZ : Hid (w.heap.size + 2 ≤ V.heap.size) := by have := HZ.out; show _ ≤ _; omega
    clear k0 k2 k3 k0f HG0 HP HR HB HZ
    obtain ⟨past1, scr1, hg1, hp1, hs1, hf1⟩ := HMID.out.grid
    have z3 := hg1.f3
    have hfi := filled_rows (c := scr1.length) (pre := []) (tail := []) (off := 0) (by simpa using hg1.scr) rfl cols rows hr1 (by omega) (by omega)
    rw [Nat.mul_zero] at hfi
    simp only at z3
    have hgV := hg1.blk.lt
    have hVz := HVZ.out
    have HG1 := Lib.hid hg1
    clear hg1
    go_upto_region 6 with (go_at_call 48; refine hfi.mono ?_; rintro _ w7 ⟨s7, new, rfl, hs7, hnl, hB7, hH7, hK7, hb7⟩; have b3 : w7.cell? ⟨g, 3, none⟩ = some (.slice (some ⟨s, 0, none⟩) scr1.length scr1.length) := (hb7.cell (p := ⟨g, 3, none⟩) hgV).trans z3; have b3f : w7.frozen? ⟨g, 3, none⟩ = false := (hb7.frozen (p := ⟨g, 3, none⟩) hgV).trans (HG1.out.blk.frozen 3))
    have o8 : Only [g] w7 (w7.setCell ⟨g, 3, none⟩ (.slice (some ⟨s7, 0, none⟩) rows rows)) := (Only.refl [g] w7).setCell (p := ⟨g, 3, none⟩) (.inl (by simp)) _
    have HG8 := Lib.hid (HG1.out.refill hb7 hs7 hB7 hnl hH7 hK7 hr1 hr2)
    have hgl := HFL.out g (by simp [foot])
    have hP8 := (HMID.out.pos.only (F := []) (Only.of_below hb7) (by simp)).only o8 (by simp; omega)
    have hR8 := (HMID.out.res.only (F := []) (Only.of_below hb7) (by simp)).only o8 (by simp; omega)
    have hO8 := Lib.hid ((HMID.out.fr.trans (Only.of_below hb7)).trans (o8.mono (G := foot g s fp G) (fun z hz => by rw [List.mem_singleton] at hz; rw [hz]; simp [foot])))
    have HK7 := Lib.hid hK7
    have HNL := Lib.hid hnl
    have hpl8 : (scr1.take rows ++ new).map MR.pl = filledR (cropP G.cols cols (G.scr.map MR.pl)) cols rows := by
      unfold filledR
      rw [← hs1, List.map_append, List.map_take, List.length_map, ← hnl]
      congr 1
      refine List.eq_replicate_iff.2 ⟨by rw [List.length_map], fun z hz => ?_⟩
      obtain ⟨m, hm, rfl⟩ := List.mem_map.1 hz
      have h9 := hK7 m hm
      unfold MR.pl
      rw [h9.1, h9.2.1]
    have HPL8 := Lib.hid hpl8
    have hs7w : w.heap.size + 2 ≤ s7 := by omega
    have hz8 : (w7.setCell ⟨g, 3, none⟩ (.slice (some ⟨s7, 0, none⟩) rows rows)).heap.size = w7.heap.size := by simp [World.setCell]
    clear hpl8 b3 b3f hB7 hH7 hK7 hnl hfi z3 o8 HG1 hb7
    generalize w7.setCell ⟨g, 3, none⟩ (.slice (some ⟨s7, 0, none⟩) rows rows) = V8 at *
    have HRES : Hid (∀ a b : Int, ∃ s' past2 scr2, GridAt ((V8.setCell ⟨w.heap.size + 1, 0, none⟩ (.int .i64 a)).setCell ⟨w.heap.size + 1, 1, none⟩ (.int .i64 b)) g s' pv fp ⟨cols, G.limit, past2, scr2⟩ ∧ past2.map MR.pl = cropP G.cols cols (G.past.map MR.pl) ∧ scr2.map MR.pl = filledR (cropP G.cols cols (G.scr.map MR.pl)) cols rows ∧ (∀ z ∈ foot g s' fp ⟨cols, G.limit, past2, scr2⟩, z ∈ foot g s fp G ∨ w.heap.size ≤ z) ∧ Only (foot g s fp G) w ((V8.setCell ⟨w.heap.size + 1, 0, none⟩ (.int .i64 a)).setCell ⟨w.heap.size + 1, 1, none⟩ (.int .i64 b))) := fun a b => by
      have ho9 : Only [w.heap.size + 1] V8 ((V8.setCell ⟨w.heap.size + 1, 0, none⟩ (.int .i64 a)).setCell ⟨w.heap.size + 1, 1, none⟩ (.int .i64 b)) := ((Only.refl [w.heap.size + 1] V8).setCell (p := ⟨w.heap.size + 1, 0, none⟩) (.inl (by simp)) _).setCell (p := ⟨w.heap.size + 1, 1, none⟩) (.inl (by simp)) _
      have hft : ∀ z ∈ foot g s7 fp ⟨cols, G.limit, past1, scr1.take rows ++ new⟩, z ∈ foot g s fp G ∨ w.heap.size + 2 ≤ z := fun z hz => by
        unfold foot at hz
        rcases List.mem_append.1 hz with hz | hz
        · rcases List.mem_cons.1 hz with rfl | hz
          · exact .inl (by simp [foot])
          · rcases List.mem_cons.1 hz with rfl | hz
            · exact .inr hs7w
            · exact .inl (by simp [foot, hz])
        · obtain ⟨m, hm, rfl⟩ := List.mem_map.1 hz
          rcases List.mem_append.1 hm with hm | hm
          · exact hf1 m (List.mem_append_left _ hm)
          · rcases List.mem_append.1 hm with hm | hm
            · exact hf1 m (List.mem_append_right _ (List.mem_of_mem_take hm))
            · exact .inr (by have := (HK7.out m hm).2.2; omega)
      refine ⟨s7, past1, _, HG8.out.only ho9 fun z hz hm => ?_, hp1, HPL8.out, fun z hz => (hft z hz).imp id (fun q => by omega), hO8.out.trans2 ho9 fun z hz => ?_⟩
      · rw [List.mem_singleton] at hm
        rcases hft z hz with q | q
        · have := HFL.out z q; omega
        · omega
      · rw [List.mem_singleton] at hz; exact .inr (by omega)
    have y0 := hP8.cell 0
    have y1 := hP8.cell 1
    have r0 := hR8.cell 0
    have r1 := hR8.cell 1
    have r0f := hR8.frozen 0
    have r1f := hR8.frozen 1
    have hRR := fun a b => (hR8.set_ 0 (.int .i64 a)).set_ 1 (.int .i64 b)
    clear HMID hf1 hp1 hs1 HG8 hO8 HK7 HNL HPL8 hP8 HFL HH HC hgV hVz hgl hz8 hs7w hs7
    go_wp2_with fail
    exact bodyPost_ret (v := .agg #[.int .i64 (min (x : Int) ((cols : Int) - 1)), .int .i64 (min (y : Int) ((rows : Int) - 1))]) (results_cell (p := 8) (by kernel_rfl) _ _ (w.heap.size + 1) _ _ _ _ rfl (hRR _ _) Tryd.underlying44 rfl (by kernel_rfl)) rfl ⟨rfl, HRES.out _ _⟩
  · have hcc2 : ¬ ((cols : Int) = (c : Int)) := by omega
    have hcc3 : ((cols : Int) != (c : Int)) = true := by simpa using hcc2
    have hcc4 : ¬ cols = G.cols := by rw [HC.out]; exact hcc
    go_enter Tryd.func47, Tryd.ntmps47
    go_upto_region 2 with fail
    generalize (w.alloc (.cells #[.int .i64 (x : Int), .int .i64 (y : Int)] 44)).alloc (.cells #[.int .i64 0, .int .i64 0] 44) = W at *
    have h0 := HG0.out
    have hcells := h0.cells
    rw [HC.out] at hcells
    have hcr1 := cropRows_tab cols c h0.tab h0.held.left (fun m hm e => h0.far m (List.mem_append_left _ hm) (by simp [e])) (fun m hm => hcells m (List.mem_append_left _ hm)) hcb hc1 hc2 (by have := h0.p2; have := h0.l2; omega)
    have hgl0 := h0.blk.lt
    have hgn1 : g ∉ fp ++ G.past.map MR.b := by
      rw [List.mem_append, not_or]
      refine ⟨fun e => by have := h0.apart; simp at this; exact this.1.2 e, fun e => ?_⟩
      obtain ⟨m, hm, e⟩ := List.mem_map.1 e
      exact h0.far m (List.mem_append_left _ hm) (by rw [e]; simp)
    have hgn2 : g ∉ s :: G.scr.map MR.b := by
      rw [List.mem_cons, not_or]
      refine ⟨fun e => by have := h0.apart; simp at this; exact this.1.1 e, fun e => ?_⟩
      obtain ⟨m, hm, e⟩ := List.mem_map.1 e
      exact h0.far m (List.mem_append_right _ hm) (by rw [e]; simp)
    have hsn1 : ∀ z ∈ fp ++ G.past.map MR.b, z ≠ s ∧ ∀ m ∈ G.scr, m.b ≠ z := fun z hz => by
      have hap := h0.apart
      simp at hap
      rcases List.mem_append.1 hz with hz | hz
      · exact ⟨fun e => hap.2.1 (e ▸ hz), fun m hm e => h0.far m (List.mem_append_right _ hm) (by rw [e]; simp [hz])⟩
      · obtain ⟨m, hm, rfl⟩ := List.mem_map.1 hz
        refine ⟨fun e => h0.far m (List.mem_append_left _ hm) (by rw [e]; simp), fun n hn e => ?_⟩
        have h9 := h0.held.apart
        rw [List.map_append] at h9
        exact (List.nodup_append.1 h9).2.2 _ (List.mem_map_of_mem hm) _ (List.mem_map_of_mem hn) e.symm
    have HN1 := Lib.hid hgn1
    have HN2 := Lib.hid hgn2
    have HS1 := Lib.hid hsn1
    have HCL := Lib.hid hcells
    clear h0 hcells hgn1 hgn2 hsn1
    go_upto_region 3 with (go_at_call 66; refine hcr1.mono ?_; rintro _ w1 ⟨rfl, past2, p1, p2, p3, p4, p5⟩)
    have hz1 := p5.size
    have e3 : w1.cell? ⟨g, 3, none⟩ = some (.slice (some ⟨s, 0, none⟩) G.scr.length G.scr.length) := (World.cell?_of_block (p5.block g hgl0 HN1.out)).trans k3
    have hB1 := HG0.out.scr.only p5 (fun hz => (HS1.out s hz).1 rfl)
    have hH1 := HG0.out.held.right.only p5 (fun m hm hz => (HS1.out _ hz).2 m hm rfl)
    have hcr2 := cropRows_any (c := G.scr.length) (pre := []) (tail := []) (off := 0) (ms := G.scr) cols c (by simpa using hB1) rfl hH1 (fun m hm e => HG0.out.far m (List.mem_append_right _ hm) (by rw [e]; simp)) (fun m hm => HCL.out m (List.mem_append_right _ hm)) hcb hc1 hc2 (by have := HG0.out.r2; omega)
    rw [Nat.mul_zero] at hcr2
    have e0 : w1.cell? ⟨g, 0, none⟩ = some (.int .i64 (c : Int)) := (World.cell?_of_block (p5.block g hgl0 HN1.out)).trans k0
    have hGb1 := HG0.out.blk.only p5 HN1.out
    have HP1 := Lib.hid p1
    have HP2 := Lib.hid p2
    have HP3 := Lib.hid p3
    have HP4 := Lib.hid p4
    have HP5 := Lib.hid p5
    clear hcr1 p1 p2 p3 p4 p5 k0 k2 k3 k0f hB1 hH1
    go_upto_region 4 with (go_at_call 66; refine hcr2.mono ?_; rintro _ w2 ⟨rfl, scr2, s1, s2, s3, s4, s5⟩)
    have hgl1 : g < w1.heap.size := by omega
    have f0 : w2.cell? ⟨g, 0, none⟩ = some (.int .i64 (c : Int)) := (World.cell?_of_block (s5.block g hgl1 HN2.out)).trans e0
    have f0f := (hGb1.only s5 HN2.out).frozen 0
    have hclen : ∀ m ∈ past2 ++ scr2, m.l.length = cols := fun m hm => by
      rcases List.mem_append.1 hm with hm | hm
      · have h9 : MR.pl m ∈ past2.map MR.pl := List.mem_map_of_mem hm
        rw [HP1.out] at h9
        obtain ⟨q, _, e⟩ := List.mem_map.1 h9
        rw [show m.l = cropL q.l cols from (congrArg Prod.fst e).symm]
        exact cropL_len _ _
      · have h9 : MR.pl m ∈ scr2.map MR.pl := List.mem_map_of_mem hm
        rw [s1] at h9
        obtain ⟨q, _, e⟩ := List.mem_map.1 h9
        rw [show m.l = cropL q.l cols from (congrArg Prod.fst e).symm]
        exact cropL_len _ _
    obtain ⟨hGC, hOC⟩ := HG0.out.cropped cols hc1 hc2 HP1.out s1 hclen HP2.out HP3.out HP4.out HP5.out (by simpa using s2) s3 s4 s5
    have HMID : Hid (Mid1 w (w2.setCell ⟨g, 0, none⟩ (.int .i64 (cols : Int))) g s pv fp G cols x y) := by
      have hz := HZ.out
      have hn : ∀ z, w.heap.size ≤ z → z ∉ foot g s fp G := fun z hz hm => by have := HFL.out z hm; omega
      refine ⟨⟨past2, scr2, hGC, by rw [cropP_ne hcc4]; exact HP1.out, by rw [cropP_ne hcc4]; exact s1, fun m hm => .inr ?_⟩, (Only.of_below HB.out).trans hOC, HP.out.only hOC (hn _ (Nat.le_refl _)), HR.out.only hOC (hn _ (by omega))⟩
      rcases List.mem_append.1 hm with hm | hm
      · have := HP4.out m hm; omega
      · have := s4 m hm; omega
    have HVZ : Hid (w.heap.size + 2 ≤ (w2.setCell ⟨g, 0, none⟩ (.int .i64 (cols : Int))).heap.size) := by
      have h1 := HZ.out
      have h2 := hOC.size
      show _ ≤ _
      omega
    clear hGC hOC hclen s1 s2 s3 s4 s5 hcr2 hGb1 e3 e0 hgl1
    go_upto_region 5 with fail
    clear f0 f0f
    generalize w2.setCell ⟨g, 0, none⟩ (.int .i64 (cols : Int)) = V at *
    clear HG0 HP HR HB HZ HP1 HP2 HP3 HP4 HP5 HN1 HN2 HS1 HCL
    obtain ⟨past1, scr1, hg1, hp1, hs1, hf1⟩ := HMID.out.grid
    have z3 := hg1.f3
    have hfi := filled_rows (c := scr1.length) (pre := []) (tail := []) (off := 0) (by simpa using hg1.scr) rfl cols rows hr1 (by omega) (by omega)
    rw [Nat.mul_zero] at hfi
    simp only at z3
    have hgV := hg1.blk.lt
    have hVz := HVZ.out
    have HG1 := Lib.hid hg1
    clear hg1
    go_upto_region 6 with (go_at_call 48; refine hfi.mono ?_; rintro _ w7 ⟨s7, new, rfl, hs7, hnl, hB7, hH7, hK7, hb7⟩; have b3 : w7.cell? ⟨g, 3, none⟩ = some (.slice (some ⟨s, 0, none⟩) scr1.length scr1.length) := (hb7.cell (p := ⟨g, 3, none⟩) hgV).trans z3; have b3f : w7.frozen? ⟨g, 3, none⟩ = false := (hb7.frozen (p := ⟨g, 3, none⟩) hgV).trans (HG1.out.blk.frozen 3))
    have o8 : Only [g] w7 (w7.setCell ⟨g, 3, none⟩ (.slice (some ⟨s7, 0, none⟩) rows rows)) := (Only.refl [g] w7).setCell (p := ⟨g, 3, none⟩) (.inl (by simp)) _
    have HG8 := Lib.hid (HG1.out.refill hb7 hs7 hB7 hnl hH7 hK7 hr1 hr2)
    have hgl := HFL.out g (by simp [foot])
    have hP8 := (HMID.out.pos.only (F := []) (Only.of_below hb7) (by simp)).only o8 (by simp; omega)
    have hR8 := (HMID.out.res.only (F := []) (Only.of_below hb7) (by simp)).only o8 (by simp; omega)
    have hO8 := Lib.hid ((HMID.out.fr.trans (Only.of_below hb7)).trans (o8.mono (G := foot g s fp G) (fun z hz => by rw [List.mem_singleton] at hz; rw [hz]; simp [foot])))
    have HK7 := Lib.hid hK7
    have HNL := Lib.hid hnl
    have hpl8 : (scr1.take rows ++ new).map MR.pl = filledR (cropP G.cols cols (G.scr.map MR.pl)) cols rows := by
      unfold filledR
      rw [← hs1, List.map_append, List.map_take, List.length_map, ← hnl]
      congr 1
      refine List.eq_replicate_iff.2 ⟨by rw [List.length_map], fun z hz => ?_⟩
      obtain ⟨m, hm, rfl⟩ := List.mem_map.1 hz
      have h9 := hK7 m hm
      unfold MR.pl
      rw [h9.1, h9.2.1]
    have HPL8 := Lib.hid hpl8
    have hs7w : w.heap.size + 2 ≤ s7 := by omega
    have hz8 : (w7.setCell ⟨g, 3, none⟩ (.slice (some ⟨s7, 0, none⟩) rows rows)).heap.size = w7.heap.size := by simp [World.setCell]
    clear hpl8 b3 b3f hB7 hH7 hK7 hnl hfi z3 o8 HG1 hb7
    generalize w7.setCell ⟨g, 3, none⟩ (.slice (some ⟨s7, 0, none⟩) rows rows) = V8 at *
    have HRES : Hid (∀ a b : Int, ∃ s' past2 scr2, GridAt ((V8.setCell ⟨w.heap.size + 1, 0, none⟩ (.int .i64 a)).setCell ⟨w.heap.size + 1, 1, none⟩ (.int .i64 b)) g s' pv fp ⟨cols, G.limit, past2, scr2⟩ ∧ past2.map MR.pl = cropP G.cols cols (G.past.map MR.pl) ∧ scr2.map MR.pl = filledR (cropP G.cols cols (G.scr.map MR.pl)) cols rows ∧ (∀ z ∈ foot g s' fp ⟨cols, G.limit, past2, scr2⟩, z ∈ foot g s fp G ∨ w.heap.size ≤ z) ∧ Only (foot g s fp G) w ((V8.setCell ⟨w.heap.size + 1, 0, none⟩ (.int .i64 a)).setCell ⟨w.heap.size + 1, 1, none⟩ (.int .i64 b))) := fun a b => by
      have ho9 : Only [w.heap.size + 1] V8 ((V8.setCell ⟨w.heap.size + 1, 0, none⟩ (.int .i64 a)).setCell ⟨w.heap.size + 1, 1, none⟩ (.int .i64 b)) := ((Only.refl [w.heap.size + 1] V8).setCell (p := ⟨w.heap.size + 1, 0, none⟩) (.inl (by simp)) _).setCell (p := ⟨w.heap.size + 1, 1, none⟩) (.inl (by simp)) _
      have hft : ∀ z ∈ foot g s7 fp ⟨cols, G.limit, past1, scr1.take rows ++ new⟩, z ∈ foot g s fp G ∨ w.heap.size + 2 ≤ z := fun z hz => by
        unfold foot at hz
        rcases List.mem_append.1 hz with hz | hz
        · rcases List.mem_cons.1 hz with rfl | hz
          · exact .inl (by simp [foot])
          · rcases List.mem_cons.1 hz with rfl | hz
            · exact .inr hs7w
            · exact .inl (by simp [foot, hz])
        · obtain ⟨m, hm, rfl⟩ := List.mem_map.1 hz
          rcases List.mem_append.1 hm with hm | hm
          · exact hf1 m (List.mem_append_left _ hm)
          · rcases List.mem_append.1 hm with hm | hm
            · exact hf1 m (List.mem_append_right _ (List.mem_of_mem_take hm))
            · exact .inr (by have := (HK7.out m hm).2.2; omega)
      refine ⟨s7, past1, _, HG8.out.only ho9 fun z hz hm => ?_, hp1, HPL8.out, fun z hz => (hft z hz).imp id (fun q => by omega), hO8.out.trans2 ho9 fun z hz => ?_⟩
      · rw [List.mem_singleton] at hm
        rcases hft z hz with q | q
        · have := HFL.out z q; omega
        · omega
      · rw [List.mem_singleton] at hz; exact .inr (by omega)
    have y0 := hP8.cell 0
    have y1 := hP8.cell 1
    have r0 := hR8.cell 0
    have r1 := hR8.cell 1
    have r0f := hR8.frozen 0
    have r1f := hR8.frozen 1
    have hRR := fun a b => (hR8.set_ 0 (.int .i64 a)).set_ 1 (.int .i64 b)
    clear HMID hf1 hp1 hs1 HG8 hO8 HK7 HNL HPL8 hP8 HFL HH HC hgV hVz hgl hz8 hs7w hs7
    go_wp2_with fail
    exact bodyPost_ret (v := .agg #[.int .i64 (min (x : Int) ((cols : Int) - 1)), .int .i64 (min (y : Int) ((rows : Int) - 1))]) (results_cell (p := 8) (by kernel_rfl) _ _ (w.heap.size + 1) _ _ _ _ rfl (hRR _ _) Tryd.underlying44 rfl (by kernel_rfl)) rfl ⟨rfl, HRES.out _ _⟩
end Go.Proofs.YtgjlohplgpcghaaDoor.Grd
