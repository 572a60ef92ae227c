/- Nothing kept; nothing scrolled up. -/
import Derived.Test.YtgjlohplgpcghaaDoorGnd
namespace Go.Proofs.YtgjlohplgpcghaaDoor.Grd
open Go.RowKit Cel Sty

set_option maxRecDepth 100000 in
set_option maxHeartbeats 1000000 in
theorem keep_nil {w : World} {g cols limit : Nat} {pv sv : Value} {past : List MR} {fp : List Nat} (hg : BL w g 70 [.int .i64 (cols : Int), .int .i64 (limit : Int), pv, sv]) (ht : TabAt w pv past fp) (hle : past.length ≤ limit) (hlim : limit ≤ 2000) :
    Calls Tryd.prog 42 #[.pointer (some ⟨g, 0, none⟩), .slice none 0 0] w fun e w' => e = .returned (.tuple #[]) ∧ BL w' g 70 [.int .i64 (cols : Int), .int .i64 (limit : Int), pv, sv] ∧ Only [g] w w' := by
  have hgl := hg.lt
  obtain ⟨base, n, c, hpv, hnl, hnc, hc0⟩ : ∃ base n c, pv = .slice base n c ∧ n ≤ limit ∧ n ≤ c ∧ (base = none ∨ ∃ p o, base = some ⟨p, o, none⟩) := by
    rcases ht with ⟨rfl, rfl, _⟩ | ⟨p, off, c, pre, tail, rfl, h1, _⟩
    · exact ⟨none, 0, 0, rfl, Nat.zero_le _, Nat.le_refl _, .inl rfl⟩
    · exact ⟨_, _, c, rfl, hle, h1, .inr ⟨_, _, rfl⟩⟩
  clear ht
  subst hpv
  have g2 : w.cell? ⟨g, 2, none⟩ = some (.slice base n c) := hg.cell 2
  have g2f := hg.frozen 2
  have hg1 := hg.set_ 2 (.slice base n c)
  have hg2 : BL (w.setCell ⟨g, 2, none⟩ (.slice base n c)) g 70 [.int .i64 (cols : Int), .int .i64 (limit : Int), .slice base n c, sv] := hg1
  have ho1 : Only [g] w (w.setCell ⟨g, 2, none⟩ (.slice base n c)) := (Only.refl _ _).setCell (p := ⟨g, 2, none⟩) (.inl (by simp)) _
  have j1 : IntKind.i64.wrap ((n : Int) - (limit : Int)) = (n : Int) - (limit : Int) := IntWalk.i64_in _ ⟨by omega, by omega⟩
  have HG2 := Lib.hid hg2
  have HO1 := Lib.hid ho1
  clear hg hg1 hg2 ho1
  rcases hc0 with rfl | ⟨p, o, rfl⟩
  · go_enter Tryd.func42, Tryd.ntmps42
    go_wp2_with (at_builtin; refine wpList_append_none rfl (.tmp 9) (.tmp 10) rfl _ _ _ rfl (by omega) rfl ?_)
    generalize w.setCell ⟨g, 2, none⟩ _ = W at *
    go_cut [4] (fun s4 wx => s4 = .int .i64 0 ∧ BL wx g 70 [.int .i64 (cols : Int), .int .i64 (limit : Int), .slice none n c, sv] ∧ Only [g] w wx)
    case first =>
      have hg3 := HG2.out
      have x1 : W.drew.cell? ⟨g, 1, none⟩ = some (.int .i64 (limit : Int)) := hg3.cell 1
      have x2 : W.drew.cell? ⟨g, 2, none⟩ = some (.slice none n c) := hg3.cell 2
      go_region
      all_goals go_wp2_with fail
      all_goals go_meet
      all_goals exact ⟨congrArg (Value.int .i64) (by omega), HG2.out, HO1.out.drew⟩
    case rest =>
      obtain ⟨rfl, hg4, ho4⟩ := hcut
      clear HG2 HO1
      have z2 : wc.cell? ⟨g, 2, none⟩ = some (.slice none n c) := hg4.cell 2
      have z2f := hg4.frozen 2
      have b1 : (0 : Int) ≤ (c : Int) := Int.natCast_nonneg _
      have b2 : (0 : Int) ≤ (n : Int) := Int.natCast_nonneg _
      have hg5 := hg4.set_ 2 (.slice none n c)
      have ho5 : Only [g] w (wc.setCell ⟨g, 2, none⟩ (.slice none n c)) := ho4.setCell (p := ⟨g, 2, none⟩) (.inl (by simp)) _
      have HG5 := Lib.hid hg5
      have HO5 := Lib.hid ho5
      clear hg4 ho4 hg5 ho5
      by_cases hc0 : c = 0
      · have hn0 : n = 0 := by omega
        subst hc0 hn0
        go_wp2_with (refine wpList_clear_zero rfl (.tmp 30) rfl _ _ rfl ?_)
        exact body_end rfl rfl ⟨rfl, HG5.out, HO5.out⟩
      · go_wp2_with (refine wpList_clear_zero rfl (.tmp 30) rfl _ _ rfl ?_)
        exact body_end rfl rfl ⟨rfl, HG5.out, HO5.out⟩
  · go_enter Tryd.func42, Tryd.ntmps42
    go_wp2_with (at_builtin; refine wpList_append_none rfl (.tmp 9) (.tmp 10) rfl _ _ _ rfl (by omega) rfl ?_)
    generalize w.setCell ⟨g, 2, none⟩ _ = W at *
    go_cut [4] (fun s4 wx => s4 = .int .i64 0 ∧ BL wx g 70 [.int .i64 (cols : Int), .int .i64 (limit : Int), .slice (some ⟨p, o, none⟩) n c, sv] ∧ Only [g] w wx)
    case first =>
      have hg3 := HG2.out
      have x1 : W.drew.cell? ⟨g, 1, none⟩ = some (.int .i64 (limit : Int)) := hg3.cell 1
      have x2 : W.drew.cell? ⟨g, 2, none⟩ = some (.slice (some ⟨p, o, none⟩) n c) := hg3.cell 2
      go_region
      all_goals go_wp2_with fail
      all_goals go_meet
      all_goals exact ⟨congrArg (Value.int .i64) (by omega), HG2.out, HO1.out.drew⟩
    case rest =>
      obtain ⟨rfl, hg4, ho4⟩ := hcut
      clear HG2 HO1
      have z2 : wc.cell? ⟨g, 2, none⟩ = some (.slice (some ⟨p, o, none⟩) n c) := hg4.cell 2
      have z2f := hg4.frozen 2
      have b1 : (0 : Int) ≤ (c : Int) := Int.natCast_nonneg _
      have b2 : (0 : Int) ≤ (n : Int) := Int.natCast_nonneg _
      have hg5 := hg4.set_ 2 (.slice (some ⟨p, o, none⟩) n c)
      have ho5 : Only [g] w (wc.setCell ⟨g, 2, none⟩ (.slice (some ⟨p, o, none⟩) n c)) := ho4.setCell (p := ⟨g, 2, none⟩) (.inl (by simp)) _
      have HG5 := Lib.hid hg5
      have HO5 := Lib.hid ho5
      clear hg4 ho4 hg5 ho5
      by_cases hc0 : c = 0
      · have hn0 : n = 0 := by omega
        subst hc0 hn0
        go_wp2_with (refine wpList_clear_zero rfl (.tmp 30) rfl _ _ rfl ?_)
        exact body_end rfl rfl ⟨rfl, HG5.out, HO5.out⟩
      · go_wp2_with (refine wpList_clear_zero rfl (.tmp 30) rfl _ _ rfl ?_)
        exact body_end rfl rfl ⟨rfl, HG5.out, HO5.out⟩
theorem GridAt.again {w w' : World} {g s : Nat} {pv : Value} {fp : List Nat} {G : GS} (h : GridAt w g s pv fp G) (ho : Only [g] w w') (hb : BL w' g 70 [.int .i64 (G.cols : Int), .int .i64 (G.limit : Int), pv, slV s 0 G.scr.length G.scr.length]) : GridAt w' g s pv fp G := by
  have hap := h.apart
  have hgf : g ∉ fp := fun e => by simp at hap; exact hap.1.2 e
  have hgs : g ≠ s := fun e => by simp at hap; exact hap.1.1 e
  have hfar : ∀ m ∈ G.past ++ G.scr, m.b ∉ [g] := fun m hm e => h.far m hm (by rw [List.mem_singleton] at e; rw [e]; simp)
  exact ⟨hb, h.tab.only ho (fun z hz e => by rw [List.mem_singleton] at e; exact hgf (e ▸ hz)), h.scr.only ho (by simpa using fun e => hgs e.symm), h.held.only ho hfar, hap, h.far, h.cells, h.c1, h.c2, h.r1, h.r2, h.l2, h.p2⟩
set_option maxRecDepth 100000 in
set_option maxHeartbeats 1000000 in
theorem up_no {w : World} {g s : Nat} {pv : Value} {fp : List Nat} {G : GS} (h : GridAt w g s pv fp G) (top bottom n s1 s2 s3 : Int) (kp : Bool) (hno : mayU G.scr.length top bottom n s1 s2 s3 = false) :
    Calls Tryd.prog 15 #[.pointer (some ⟨g, 0, none⟩), .int .i64 top, .int .i64 bottom, .int .i64 n, .agg #[.int .i64 s1, .int .i64 s2, .int .i64 s3], .bool kp] w fun e w' => e = .returned (.tuple #[]) ∧ GridAt w' g s pv fp G ∧ Only [g] w w' := by
  have hb0 : Below w.heap.size w (w.alloc (.cells #[.int .i64 s1, .int .i64 s2, .int .i64 s3] 33)) := (Below.refl _ _).alloc (Nat.le_refl _) _
  have hs0 := hb0.size
  have hA := BL.new w 33 [.int .i64 s1, .int .i64 s2, .int .i64 s3]
  have hre := region_no (h.below hb0) top bottom n s1 s2 s3 hno
  have hgl := h.blk.lt
  have HH := Lib.hid h
  have hkn := fun V (hV : GridAt V g s pv fp G) => keep_nil hV.blk hV.tab hV.p2 hV.l2
  clear hno h
  have hk : (kp = true ∧ top = 0) ∨ kp = false ∨ (kp = true ∧ top ≠ 0) := by
    cases kp
    · exact .inr (.inl rfl)
    · by_cases e : top = 0
      · exact .inl ⟨rfl, e⟩
      · exact .inr (.inr ⟨rfl, e⟩)
  rcases hk with ⟨rfl, rfl⟩ | hk
  · go_enter Tryd.func15, Tryd.ntmps15
    go_wp2_with (go_at_call 41; refine hre.mono ?_; rintro _ w1 ⟨rfl, hb1⟩; have hbw := hb0.trans (hb1.mono hs0); have hG1 := HH.out.below hbw)
    refine (hkn _ hG1).mono ?_
    rintro _ w2 ⟨rfl, hB2, ho2⟩
    have hG2 := hG1.again ho2 hB2
    have g0 := hG2.f0
    have hA2 := (hA.only (F := []) (Only.of_below hb1) (by simp)).only ho2 (by simp; omega)
    have ho := (Only.of_below (F := [g]) hbw).trans ho2
    clear hG1 hre hA hB2
    go_wp2_with (refine wpList_copy_nils rfl (.tmp 32) (.tmp 35) rfl rfl rfl ?_)
    have hod : Only [g] w w2.drew := ho.drew
    have hAd : BL w2.drew w.heap.size 33 [.int .i64 s1, .int .i64 s2, .int .i64 s3] := hA2
    have a0 := hAd.cell 0
    have a1 := hAd.cell 1
    have a2 := hAd.cell 2
    have g0d : w2.drew.cell? ⟨g, 0, none⟩ = some (.int .i64 (G.cols : Int)) := g0
    have HG2 := Lib.hid (hG2.below ((Below.refl w2.heap.size w2).drew))
    clear hA2 hAd g0 hG2
    go_region_with (go_at_call 43; refine (lay_nil _ _ _ _ _).mono ?_; rintro _ w3 ⟨rfl, hb3⟩)
    all_goals go_wp2_with fail
    all_goals
      exact body_end rfl rfl ⟨rfl, HG2.out.below hb3, hod.trans (Only.of_below hb3)⟩
  · rcases hk with rfl | ⟨rfl, hz⟩
    all_goals
      go_enter Tryd.func15, Tryd.ntmps15
      go_wp2_with (first
        | (go_at_call 41; refine hre.mono ?_; rintro _ w1 ⟨rfl, hb1⟩; have hbw := hb0.trans (hb1.mono hs0); have hG1 := HH.out.below hbw)
        | (refine wpList_copy_nils rfl (.tmp 32) (.tmp 35) rfl rfl rfl ?_))
      have g0 := hG1.f0
      have hA1 := hA.only (F := []) (Only.of_below hb1) (by simp)
      have hbd : Below w.heap.size w w1.drew := hbw.drew
      have hAd : BL w1.drew w.heap.size 33 [.int .i64 s1, .int .i64 s2, .int .i64 s3] := hA1
      have a0 := hAd.cell 0
      have a1 := hAd.cell 1
      have a2 := hAd.cell 2
      have g0d : w1.drew.cell? ⟨g, 0, none⟩ = some (.int .i64 (G.cols : Int)) := g0
      clear hA1 hAd g0 hG1 hA hre
      go_region_with (go_at_call 43; refine (lay_nil _ _ _ _ _).mono ?_; rintro _ w3 ⟨rfl, hb3⟩)
      all_goals go_wp2_with fail
      all_goals
        have hbz := hbd.trans (hb3.mono hbd.size)
        exact body_end rfl rfl ⟨rfl, HH.out.below hbz, Only.of_below hbz⟩
end Go.Proofs.YtgjlohplgpcghaaDoor.Grd
