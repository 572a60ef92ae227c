/- Chapter 7's examples in plain words. -/
import Derived.Test.YtkanglfpiahecaaDoorPYsq
import Derived.Test.YtkanglfpiahecaaDoorPYhx
import Derived.Test.YtkanglfpiahecaaDoorPYsa
import Derived.Test.YtkanglfpiahecaaDoorPYsb
import Derived.Lib.SliceRun
import Derived.Deep.AppendSrc
import Derived.Test.YtkanglfpiahecaaDoorPYrm
import Derived.Test.YtkanglfpiahecaaDoorPYat
namespace Go.Proofs.YtkanglfpiahecaaDoor.Lyt
open Go.RowKit

theorem inv_nil {f : F} (h : f.bare = .nil) : f = .nil := by
  cases f with
  | nil => rfl
  | leaf => simp [F.bare] at h
  | node => simp [F.bare] at h
theorem inv_leaf {f R : F} {p s0 s1 : Int} (h : f.bare = .leaf 0 p s0 s1 R) : ∃ b r, f = .leaf b p s0 s1 r ∧ r.bare = R := by
  cases f with
  | nil => simp [F.bare] at h
  | leaf b q u0 u1 r =>
    simp only [F.bare, F.leaf.injEq, true_and] at h
    obtain ⟨rfl, rfl, rfl, h⟩ := h
    exact ⟨b, r, rfl, h⟩
  | node => simp [F.bare] at h
theorem inv_node {f K R : F} {al : Int} (h : f.bare = .node 0 0 0 al K R) : ∃ b kb cap ks r, f = .node b kb cap al ks r ∧ ks.bare = K ∧ r.bare = R := by
  cases f with
  | nil => simp [F.bare] at h
  | leaf => simp [F.bare] at h
  | node b kb cap a ks r =>
    simp only [F.bare, F.node.injEq, true_and] at h
    obtain ⟨rfl, h1, h2⟩ := h
    exact ⟨b, kb, cap, ks, r, rfl, h1, h2⟩
/-- The trees of the examples, without their places. -/
def ex1 : F := .node 0 0 0 0 (.leaf 0 1 40 24 (.leaf 0 2 39 24 .nil)) .nil
def ex2 (u v : Int) : F := .node 0 0 0 0 (.leaf 0 1 40 24 (.node 0 0 0 1 (.leaf 0 2 39 u (.leaf 0 3 39 v .nil)) .nil)) .nil
def ex3 : F := .node 0 0 0 1 (.leaf 0 2 80 16 (.leaf 0 3 80 7 .nil)) .nil
theorem inv_ex1 {f : F} (h : f.bare = ex1) : ∃ b kb cap b1 b2, f = .node b kb cap 0 (.leaf b1 1 40 24 (.leaf b2 2 39 24 .nil)) .nil := by
  obtain ⟨b, kb, cap, ks, r, rfl, h1, h2⟩ := inv_node h
  obtain ⟨b1, r1, rfl, h3⟩ := inv_leaf h1
  obtain ⟨b2, r2, rfl, h4⟩ := inv_leaf h3
  rw [inv_nil h4, inv_nil h2]
  exact ⟨b, kb, cap, b1, b2, rfl⟩
theorem inv_ex2 {f : F} {u v : Int} (h : f.bare = ex2 u v) : ∃ b kb cap b1 b2 kb2 cap2 b3 b4, f = .node b kb cap 0 (.leaf b1 1 40 24 (.node b2 kb2 cap2 1 (.leaf b3 2 39 u (.leaf b4 3 39 v .nil)) .nil)) .nil := by
  obtain ⟨b, kb, cap, ks, r, rfl, h1, h2⟩ := inv_node h
  obtain ⟨b1, r1, rfl, h3⟩ := inv_leaf h1
  obtain ⟨b2, kb2, cap2, ks2, r2, rfl, h4, h5⟩ := inv_node h3
  obtain ⟨b3, r3, rfl, h6⟩ := inv_leaf h4
  obtain ⟨b4, r4, rfl, h7⟩ := inv_leaf h6
  rw [inv_nil h7, inv_nil h5, inv_nil h2]
  exact ⟨b, kb, cap, b1, b2, kb2, cap2, b3, b4, rfl⟩
theorem inv_ex3 {f : F} (h : f.bare = ex3) : ∃ b kb cap b1 b2, f = .node b kb cap 1 (.leaf b1 2 80 16 (.leaf b2 3 80 7 .nil)) .nil := by
  obtain ⟨b, kb, cap, ks, r, rfl, h1, h2⟩ := inv_node h
  obtain ⟨b1, r1, rfl, h3⟩ := inv_leaf h1
  obtain ⟨b2, r2, rfl, h4⟩ := inv_leaf h3
  rw [inv_nil h4, inv_nil h2]
  exact ⟨b, kb, cap, b1, b2, rfl⟩
/-- What is alike to a tree that is well but for its places is well. -/
theorem ok_of {f g : F} (h : f.bare = g.bare) (hb : f.blks.length ≤ 1000000) (hg : g.Ok) : f.Ok := by
  refine ⟨F.has1_bare.1 (by rw [h]; exact F.has1_bare.2 hg.one), F.all_bare.1 (by rw [h]; exact F.all_bare.2 hg.siz), ?_, F.ways_bare.1 (by rw [h]; exact F.ways_bare.2 hg.way), F.all_bare.1 (by rw [h]; exact F.all_bare.2 hg.pan), hb⟩
  rw [← F.cnt_bare, h, F.cnt_bare]
  exact hg.few
theorem ok_ex1 {f : F} (h : f.bare = ex1) : f.Ok := by
  obtain ⟨b, kb, cap, b1, b2, rfl⟩ := inv_ex1 h
  refine ⟨?_, ?_, ?_, ?_, ?_, ?_⟩ <;> simp [F.has1, F.sized, F.all, F.cnt, F.ways, F.blks, F.len]
theorem ok_ex2 {f : F} {u v : Int} (h : f.bare = ex2 u v) (hu : 0 ≤ u ∧ u ≤ 10000) (hv : 0 ≤ v ∧ v ≤ 10000) : f.Ok := by
  obtain ⟨b, kb, cap, b1, b2, kb2, cap2, b3, b4, rfl⟩ := inv_ex2 h
  refine ⟨?_, ?_, ?_, ?_, ?_, ?_⟩ <;> simp [F.has1, F.sized, F.all, F.cnt, F.ways, F.blks, F.len, hu.1, hu.2, hv.1, hv.2]
theorem ok_ex3 {f : F} (h : f.bare = ex3) : f.Ok := by
  obtain ⟨b, kb, cap, b1, b2, rfl⟩ := inv_ex3 h
  refine ⟨?_, ?_, ?_, ?_, ?_, ?_⟩ <;> simp [F.has1, F.sized, F.all, F.cnt, F.ways, F.blks, F.len]
theorem vals_ex2 (u v : Int) (hu : 1 ≤ u ∧ 1 ≤ v ∧ u + v = 23) : (ex2 u v).vals 0 (szA 0) = [80] ∧ (ex2 u v).vals 1 (szA 1) = [24] := by
  refine ⟨by rfl, ?_⟩
  have e : u + (v + 0) + (((2 : Nat) : Int) - 1) = 24 := by omega
  simp [ex2, F.vals, szA, maxL, F.len]
  omega
theorem vals_ex3 : ex3.vals 0 (szA 0) = [80] ∧ ex3.vals 1 (szA 1) = [24] := ⟨by kernel_rfl, by kernel_rfl⟩
def bx2 : List Bx := [(1, 0, 0, 40, 24), (2, 41, 0, 39, 16), (3, 41, 17, 39, 7)]
def bx3 : List Bx := [(2, 0, 0, 80, 16), (3, 0, 17, 80, 7)]
theorem bxl_ex2 : (ex2 16 7).bxl 0 0 = [bx2] := by kernel_rfl
theorem bxl_ex3 : ex3.bxl 0 0 = [bx3] := by kernel_rfl
def txT : Tx := [56, 48, 120, 50, 52, 44, 48, 44, 48, 123, 52, 48, 120, 50, 52, 44, 48, 44, 48, 44, 49, 44, 51, 57, 120, 50, 52, 44, 52, 49, 44, 48, 91, 51, 57, 120, 49, 56, 44, 52, 49, 44, 48, 44, 50, 44, 51, 57, 120, 53, 44, 52, 49, 44, 49, 57, 44, 51, 93, 125]
theorem itoa_lits : Lib.itoa 80 = [56, 48] ∧ Lib.itoa 24 = [50, 52] ∧ Lib.itoa 0 = [48] ∧ Lib.itoa 40 = [52, 48] ∧ Lib.itoa 1 = [49] ∧ Lib.itoa 39 = [51, 57] ∧ Lib.itoa 41 = [52, 49] ∧ Lib.itoa 18 = [49, 56] ∧ Lib.itoa 2 = [50] ∧ Lib.itoa 5 = [53] ∧ Lib.itoa 19 = [49, 57] ∧ Lib.itoa 3 = [51] := by
  refine ⟨?_, ?_, ?_, ?_, ?_, ?_, ?_, ?_, ?_, ?_, ?_, ?_⟩ <;> kernel_rfl
theorem txl_ex2 : (ex2 18 5).txl 0 0 = [txT] := by kernel_rfl
theorem print_ex2 : printP txT = [98, 97, 98, 99, 44] ++ txT := by kernel_rfl
theorem sum_ab : sumP [97, 98] = 32914 := by kernel_rfl
end Go.Proofs.YtkanglfpiahecaaDoor.Lyt
/- The edge that a pane moves, and a pane's edge moved: as in the chapter's examples. -/
namespace Go.Proofs.YtkanglfpiahecaaDoor.Lyt
open Go.RowKit

theorem cell_lt {w : World} {g o : Nat} {v : Value} (h : w.cell? ⟨g, o, none⟩ = some v) : g < w.heap.size := by
  rcases Nat.lt_or_ge g w.heap.size with q | q
  · exact q
  · unfold World.cell? at h
    simp [Array.getElem?_eq_none q] at h
set_option maxRecDepth 100000 in
set_option maxHeartbeats 4000000 in
theorem atEdge_ex {g c b2 kb cap b3 b4 : Nat} {w : World} (h0 : w.cell? ⟨g, 0, none⟩ = some (pV b4)) (h1 : w.cell? ⟨g, 1, none⟩ = some (pV b2)) (hc : 3 ≤ c) (hN : BN w b2 (nodeC kb 2 cap 1)) (hR : RowAt w kb cap [pV b3, pV b4]) (h34 : b3 ≠ b4) (hb3 : ∃ cs, BN w b3 cs) (hb4 : ∃ cs, BN w b4 cs) :
    Calls Tryd.prog 39 #[.slice (some ⟨g, 0, none⟩) 3 c, .int .i64 1] w fun e w' => e = .returned (.tuple #[pV b3, pV b4]) ∧ Below w.heap.size w w' := by
  have hgl : g < w.heap.size := cell_lt h0
  have hall : ∀ V, Below w.heap.size w V → V.cell? ⟨g, 0, none⟩ = some (pV b4) ∧ V.cell? ⟨b2, 3, none⟩ = some (.int .i64 1) ∧ V.cell? ⟨b2, 4, none⟩ = some (.slice (some ⟨kb, 0, none⟩) 2 cap) ∧ V.cell? ⟨kb, 0, none⟩ = some (pV b3) ∧ V.cell? ⟨kb, 1, none⟩ = some (pV b4) := fun V hV => by
    have hN2 := hN.only (Only.of_below (F := []) hV) (by simp)
    have hR2 := hR.only (Only.of_below (F := []) hV) (by simp)
    exact ⟨(hV.cell (p := ⟨g, 0, none⟩) hgl).trans h0, hN2.cell 3, hN2.cell 4, hR2.cell (i := 0) (by simp), hR2.cell (i := 1) (by simp)⟩
  have hix : ∀ V, Below w.heap.size w V → Calls Tryd.prog 31 #[.slice (some ⟨kb, 0, none⟩) 2 cap, pV b4] V fun e w' => e = .returned (.int .i64 1) ∧ V = w' := fun V hV => by
    obtain ⟨_, _, _, q0, q1⟩ := hall V hV
    exact Index_at (c := cap) (o := 0) (g := kb) (w := V) (bs := [b3, b4]) (k := 1) (b := b4) (fun i x hi => by
      match i, hi with
      | 0, hi => cases hi; exact q0
      | 1, hi => cases hi; exact q1
      | i + 2, hi => simp at hi) rfl (fun j hj => by
      obtain rfl : j = 0 := by omega
      simpa using h34) (by simp) (fun x hx => by
      simp only [List.mem_cons, List.not_mem_nil, or_false] at hx
      rcases hx with rfl | rfl
      · exact hb3.imp fun cs h => h.only (Only.of_below (F := []) hV) (by simp)
      · exact hb4.imp fun cs h => h.only (Only.of_below (F := []) hV) (by simp))
  have HALL := Lib.hid hall
  have HIX := Lib.hid hix
  have l4 : (1 : Int) ≤ 3 := by decide
  have hlc1 : (3 : Int) ≤ (c : Int) := by omega
  have hc1 : ¬ c = 1 := by omega
  have e3 : w.cell? ⟨b2, 3, none⟩ = some (.int .i64 1) := (hall w (Below.refl _ _)).2.1
  clear hall hix hN hR hb3 hb4
  unfold pV at HALL HIX h0 h1 ⊢
  go_enter Tryd.func39, Tryd.ntmps39
  go_wp2_with fail
  refine wp_loop_rounds 1 ?_
  rw [rounds_succ]
  go_wp2_with fail
  have hdr : Below w.heap.size w w.drew := (Below.refl _ _).drew
  obtain ⟨r0, r1, r2, r3, r4⟩ := HALL.out _ hdr
  have hmn : min (1 : Int) (IntKind.i64.wrap 0) = 0 := by kernel_rfl
  go_cut [8] (fun s8 wx => s8 = .int .i64 0 ∧ wx = w.drew)
  case first =>
    go_region_law
      (first
        | (go_simp; go_at_call 31; refine (HIX.out _ hdr).mono ?_; rintro _ w3 ⟨rfl, rfl⟩))
    all_goals go_wp2_with fail
    all_goals go_meet
    all_goals exact ⟨rfl, rfl⟩
  case rest =>
    obtain ⟨rfl, rfl⟩ := hcut
    have hdr2 : Below w.heap.size w w.drew.drew := hdr.drew
    obtain ⟨t0, t1, t2, t3, t4⟩ := HALL.out _ hdr2
    clear HALL HIX
    go_wp2_with fail
    go_region
    go_wp2_with fail
    go_ret2
    exact ⟨rfl, hdr2⟩
abbrev exT (tb kb cap b1 b2 kb2 cap2 b3 b4 : Nat) (u v : Int) : F := .node tb kb cap 0 (.leaf b1 1 40 24 (.node b2 kb2 cap2 1 (.leaf b3 2 39 u (.leaf b4 3 39 v .nil)) .nil)) .nil
/-- How the examples' tree lies in memory. -/
structure ExIn (w : World) (tb kb cap b1 b2 kb2 cap2 b3 b4 : Nat) (u v : Int) : Prop where
  t : BN w tb (nodeC kb 2 cap 0)
  r : RowAt w kb cap [pV b1, pV b2]
  l1 : BN w b1 (leafC 1 40 24)
  n2 : BN w b2 (nodeC kb2 2 cap2 1)
  r2 : RowAt w kb2 cap2 [pV b3, pV b4]
  l3 : BN w b3 (leafC 2 39 u)
  l4 : BN w b4 (leafC 3 39 v)
section
variable {tb kb cap b1 b2 kb2 cap2 b3 b4 : Nat} {u v : Int} {w w' : World} {G : List Nat}
theorem exIn : (exT tb kb cap b1 b2 kb2 cap2 b3 b4 u v).In w ↔ ExIn w tb kb cap b1 b2 kb2 cap2 b3 b4 u v :=
  ⟨fun ⟨h1, h2, ⟨h3, h4, h5, ⟨h6, h7, _⟩, _⟩, _⟩ => ⟨h1, h2, h3, h4, h5, h6, h7⟩, fun h => ⟨h.t, h.r, ⟨h.l1, h.n2, h.r2, ⟨h.l3, h.l4, trivial⟩, trivial⟩, trivial⟩⟩
theorem ExIn.below (h : ExIn w tb kb cap b1 b2 kb2 cap2 b3 b4 u v) (hb : Below w.heap.size w w') : ExIn w' tb kb cap b1 b2 kb2 cap2 b3 b4 u v := exIn.1 ((exIn.2 h).below hb)
/-- Its blocks are apart. -/
structure ExNd (tb kb b1 b2 kb2 b3 b4 : Nat) : Prop where
  n1 : tb ≠ kb ∧ tb ≠ b1 ∧ tb ≠ b2 ∧ tb ≠ kb2 ∧ tb ≠ b3 ∧ tb ≠ b4
  n2 : kb ≠ b1 ∧ kb ≠ b2 ∧ kb ≠ kb2 ∧ kb ≠ b3 ∧ kb ≠ b4
  n3 : b1 ≠ b2 ∧ b1 ≠ kb2 ∧ b1 ≠ b3 ∧ b1 ≠ b4
  n4 : b2 ≠ kb2 ∧ b2 ≠ b3 ∧ b2 ≠ b4
  n5 : kb2 ≠ b3 ∧ kb2 ≠ b4
  n6 : b3 ≠ b4
theorem exNd (h : (exT tb kb cap b1 b2 kb2 cap2 b3 b4 u v).blks.Nodup) : ExNd tb kb b1 b2 kb2 b3 b4 := by
  simp only [F.blks, List.nodup_cons, List.mem_cons, List.not_mem_nil, or_false, not_or, List.append_nil] at h
  obtain ⟨h1, h2, h3, h4, h5, h6, _⟩ := h
  exact ⟨⟨h1.1, h1.2.1, h1.2.2.1, h1.2.2.2.1, h1.2.2.2.2.1, h1.2.2.2.2.2⟩, ⟨h2.1, h2.2.1, h2.2.2.1, h2.2.2.2.1, h2.2.2.2.2⟩, ⟨h3.1, h3.2.1, h3.2.2.1, h3.2.2.2⟩, ⟨h4.1, h4.2.1, h4.2.2⟩, ⟨h5.1, h5.2⟩, h6⟩
set_option maxRecDepth 100000 in
set_option maxHeartbeats 8000000 in
theorem Resize_ex (hin : ExIn w tb kb cap b1 b2 kb2 cap2 b3 b4 18 5) (hnd : ExNd tb kb b1 b2 kb2 b3 b4) :
    Calls Tryd.prog 17 #[pV tb, .int .i64 3, .int .u8 85, .int .i64 2] w fun e w' => e = .returned (.int .i64 0) ∧ ExIn w' tb kb cap b1 b2 kb2 cap2 b3 b4 16 7 ∧ Only [b3, b4] w w' := by
  have ok := ok_ex2 (f := exT tb kb cap b1 b2 kb2 cap2 b3 b4 18 5) (u := 18) (v := 5) rfl (by omega) (by omega)
  have ku := up_at (p := 3) (exT tb kb cap b1 b2 kb2 cap2 b3 b4 18 5) ok.one ok.big w (exIn.2 hin) 0 (pV tb) [pV b4, pV b2, pV tb] rfl (by simp [F.ups, lastUp])
  have h34 := hnd.n6
  have HIN := Lib.hid hin
  have HND := Lib.hid hnd
  have KU := Lib.hid ku
  have KT := Lib.hid (show ∀ V, Calls Tryd.prog 36 #[.int .u8 85] V fun e w' => e = .returned (.tuple #[.int .i64 1, .bool false]) ∧ V = w' from fun V => by have := towards_at 85 V; simpa [towP] using this)
  clear hin hnd ku ok
  unfold pV at KU ⊢
  go_enter Tryd.func17, Tryd.ntmps17
  go_wp2_with fail
  refine KU.out.mono ?_
  rintro _ w1 ⟨x, rfl, hpa, hb1⟩
  obtain ⟨g, c, rfl, hg⟩ := own_some hpa.1 (by simp)
  have hc : 3 ≤ c := by
    rcases hpa.1.2 with ⟨he, _⟩ | ⟨g', cap', cur', he, _, _, h1, _⟩
    · cases he
    · injection he with _ _ e2; subst e2; exact h1
  have q0 := hpa.1.cells (g := g) rfl 0 _ rfl
  have q1 := hpa.1.cells (g := g) rfl 1 _ rfl
  have e0 : (⟨g, 0, none⟩ : Addr).add 0 = ⟨g, 0, none⟩ := by simp [Addr.add]
  have e1 : (⟨g, 0, none⟩ : Addr).add 1 = ⟨g, 1, none⟩ := by simp [Addr.add]
  rw [e0] at q0
  rw [e1] at q1
  have HI1 := Lib.hid (HIN.out.below hb1)
  have HB1 := Lib.hid hb1
  have HC := Lib.hid hc
  have Q0 := Lib.hid q0
  have Q1 := Lib.hid q1
  clear hpa hb1 hc q0 q1 e0 e1 KU
  have hq := eqnil_some ⟨g, 0, none⟩ 3 c w1
  go_wp2_with fail
  refine (KT.out _).mono ?_
  rintro _ w2 ⟨rfl, rfl⟩
  go_wp2_with fail
  refine (atEdge_ex (b2 := b2) (b3 := b3) (b4 := b4) Q0.out Q1.out HC.out HI1.out.n2 HI1.out.r2 h34 ⟨_, HI1.out.l3⟩ ⟨_, HI1.out.l4⟩).mono ?_
  rintro _ w3 ⟨rfl, hb3⟩
  have HI3 := Lib.hid (HI1.out.below hb3)
  have HB3 := Lib.hid (HB1.out.trans (hb3.mono HB1.out.size))
  clear hb3 HI1 HB1 Q0 Q1 HC KT hq
  have KS := Lib.hid (show Calls Tryd.prog 40 #[pV b3, .int .i64 1] w3 fun e w' => e = .returned (.int .i64 17) ∧ Below w3.heap.size w3 w' from by
    have := spare_at (f := .leaf b3 2 39 18 .nil) (i := 0) (a := 1) (v := pV b3) (z := 18) (y := 1) (w := w3) (.inr rfl) trivial (by simp [F.sized, F.all]) (by simp [F.cnt]) ⟨HI3.out.l3, trivial⟩ rfl rfl rfl (by omega)
    simpa using this)
  unfold pV at KS
  go_wp2_with fail
  refine KS.out.mono ?_
  rintro _ w4 ⟨rfl, hb4⟩
  have HI4 := Lib.hid (HI3.out.below hb4)
  have HB4 := Lib.hid (HB3.out.trans (hb4.mono HB3.out.size))
  clear hb4 HI3 HB3 KS
  have KG := Lib.hid (show Calls Tryd.prog 32 #[pV b4, .int .i64 1, .int .i64 2] w4 fun e w' => e = .returned (.tuple #[]) ∧ BN w' b4 (leafC 3 39 7) ∧ Only [b4] w4 w' from by
    have := grow_leaf (a := 1) (.inr rfl) (by_ := 2) HI4.out.l4 (by omega)
    simpa using this)
  unfold pV at KG
  go_wp2_with fail
  refine KG.out.mono ?_
  rintro _ w5 ⟨rfl, hl5, ho5⟩
  have h3 := HI4.out.l3.only ho5 (by simpa using h34)
  have KH := Lib.hid (show Calls Tryd.prog 41 #[pV b3, .int .i64 1, .int .i64 2] w5 fun e w' => e = .returned (.tuple #[]) ∧ BN w' b3 (leafC 2 39 16) ∧ Only [b3] w5 w' from by
    have := shrink_leaf (a := 1) (.inr rfl) (by_ := 2) h3 (by omega)
    simpa using this)
  unfold pV at KH
  have HO5 := Lib.hid ho5
  have HL5 := Lib.hid hl5
  clear h3 ho5 hl5 KG
  go_wp2_with fail
  refine KH.out.mono ?_
  rintro _ w6 ⟨rfl, hl6, ho6⟩
  have hoo : Only [b3, b4] w4 w6 := (HO5.out.mono (by simp)).trans (ho6.mono (by simp))
  have hfin : ExIn w6 tb kb cap b1 b2 kb2 cap2 b3 b4 16 7 := by
    obtain ⟨n1, n2, n3, n4, n5, n6⟩ := HND.out
    exact ⟨HI4.out.t.only hoo (by simp [n1]), HI4.out.r.only hoo (by simp [n2]), HI4.out.l1.only hoo (by simp [n3]), HI4.out.n2.only hoo (by simp [n4]), HI4.out.r2.only hoo (by simp [n5]), hl6, HL5.out.only ho6 (by simp [Ne.symm n6])⟩
  have HF := Lib.hid (And.intro hfin ((Only.of_below HB4.out).trans hoo))
  clear hfin hoo hl6 ho6 HL5 HO5 HI4 HB4 KH
  go_wp2_with fail
  go_ret
  exact ⟨rfl, HF.out⟩
end
end Go.Proofs.YtkanglfpiahecaaDoor.Lyt
/- A pointer taken out of a row. -/
namespace Go.Proofs.YtkanglfpiahecaaDoor.Lyt
open Go.RowKit

def splice (xs : List Value) (o : Nat) (vs : List Value) : List Value := xs.take o ++ vs ++ xs.drop (o + vs.length)
theorem splice_len {xs vs : List Value} {o : Nat} (h : o + vs.length ≤ xs.length) : (splice xs o vs).length = xs.length := by
  unfold splice; simp only [List.length_append, List.length_take, List.length_drop]; omega
theorem splice_nil (xs : List Value) (o : Nat) : splice xs o [] = xs := by unfold splice; simp
theorem splice_cons {xs : List Value} {o : Nat} (v : Value) (vs : List Value) (h : o + (vs.length + 1) ≤ xs.length) : splice (xs.set o v) (o + 1) vs = splice xs o (v :: vs) := by
  unfold splice
  rw [List.length_cons, List.take_set, List.drop_set_of_lt (by omega), List.take_succ_eq_append_getElem (by omega), List.set_append_right _ _ (by rw [List.length_take]; omega)]
  rw [List.length_take, Nat.min_eq_left (by omega), Nat.sub_self]
  simp only [List.set_cons_zero, List.append_assoc, List.cons_append, List.nil_append]
  rw [show o + 1 + vs.length = o + (vs.length + 1) by omega]
theorem BL.setCells {b : Nat} {t : TypeId} : ∀ (vs : List Value) {w : World} {xs : List Value} (o : Nat), BL w b t xs → o + vs.length ≤ xs.length → BL (w.setCells b o vs) b t (splice xs o vs)
  | [], w, xs, o, h, _ => by rw [splice_nil]; exact h
  | v :: vs, w, xs, o, h, hl => by
    rw [World.setCells]
    rw [List.length_cons] at hl
    have := BL.setCells vs (o + 1) (h.set_ o v) (by rw [List.length_set]; omega)
    rwa [splice_cons v vs (by omega)] at this

theorem setCells_far (b : Nat) : ∀ (vs : List Value) (o : Nat) (w : World), (w.setCells b o vs).heap.size = w.heap.size ∧ (w.setCells b o vs).os = w.os ∧ (w.setCells b o vs).tape = w.tape ∧ (w.setCells b o vs).output = w.output ∧ ∀ k, k ≠ b → (w.setCells b o vs).heap[k]? = w.heap[k]?
  | [], o, w => ⟨rfl, rfl, rfl, rfl, fun _ _ => rfl⟩
  | v :: vs, o, w => by
    rw [World.setCells]
    obtain ⟨h1, h2, h3, h4, h5⟩ := setCells_far b vs (o + 1) (w.setCell ⟨b, o, none⟩ v)
    exact ⟨by rw [h1]; simp [World.setCell], h2, h3, h4, fun k hk => by rw [h5 k hk]; exact Below.heap_setCell w ⟨b, o, none⟩ v k hk⟩
theorem Only.setCells {F : List Nat} {a w : World} (h : Only F a w) (b o : Nat) (vs : List Value) (hb : b ∈ F ∨ a.heap.size ≤ b) : Only F a (w.setCells b o vs) := by
  obtain ⟨h1, h2, h3, h4, h5⟩ := setCells_far b vs o w
  exact ⟨h2.trans h.os, h3.trans h.tape, h4.trans h.output, by rw [h1]; exact h.size, fun k hk hn => by
    rw [h5 k (fun e => by subst e; rcases hb with x | x; exact hn x; omega)]; exact h.block k hk hn⟩
theorem zero_ptr (w : World) : (zeroValue 63).run Tryd.prog w = .ok (.pointer none) w := by
  obtain ⟨i, hi, hz, _, _⟩ := info_parts info_ptr
  simp [zeroValue, typeInfo, hi, hz]
theorem erase_take {ps tail : List Value} {k n : Nat} (hn : ps.length = n) (hk : k < n) (z : Value) : (splice (splice (ps ++ tail) k (ps.drop (k + 1))) (n - 1) [z]).take (n - 1) = ps.eraseIdx k := by
  have hX : (splice (ps ++ tail) k (ps.drop (k + 1))).length = (ps ++ tail).length := splice_len (by simp; omega)
  have he : (splice (ps ++ tail) k (ps.drop (k + 1))).take (n - 1) = ps.eraseIdx k := by
    have e : splice (ps ++ tail) k (ps.drop (k + 1)) = ps.eraseIdx k ++ (ps ++ tail).drop (k + (ps.drop (k + 1)).length) := by
      unfold splice
      rw [List.take_append_of_le_length (by omega), List.eraseIdx_eq_take_drop_succ]
    rw [e]
    exact List.take_left' (by rw [List.length_eraseIdx_of_lt (by omega)]; omega)
  generalize splice (ps ++ tail) k (ps.drop (k + 1)) = X at *
  unfold splice
  rw [List.append_assoc, List.take_append_of_le_length (by rw [List.length_take, hX, List.length_append]; omega), List.take_take, Nat.min_self, he]
section
variable {ops : Array Oper} {op : Oper} {a : Act} {w : World}
theorem step_room {K : Act → World → Prop} {Q : Exit → Act → World → Prop} {E : Prop} (hgd : op.guard = none) (s x : Operand) (ho : op.op = .call { callee := .builtin .append, args := #[s, x], argTypes := #[51, 51] })
    (b k c : Nat) (ad : Addr) (m c2 : Nat) (news : List Value) (hs : a.eval s = .slice (some ⟨b, 0, none⟩) k c) (hx : a.eval x = .slice (some ad) m c2) (hl : news.length = m) (hnews : ∀ (j : Nat) u, news[j]? = some u → w.cell? (ad.add j) = some u) (h1 : ∀ u ∈ news, u.oneCell' = true) (hroom : k + m ≤ c)
    (xs : List Value) (hB : BL w b 63 xs) (hfit : k + m ≤ xs.length) (h : K (a.put op.dst (.slice (some ⟨b, 0, none⟩) (k + m) c)) (w.setCells b k news)) :
    if Region.wanted op (yielded ops a.tmps) = true then Oper.wp Tryd.prog op a w K Q else E := by
  have hw : Region.wanted op (yielded ops a.tmps) = true := by simp [Region.wanted, hgd]
  rw [if_pos hw]
  obtain ⟨i, hi, hz, hsz, hby⟩ := info_parts info_ptr
  have hth := hB.there (o := k) (n := news.length) (by omega)
  have hr := run_append_room_src (P := Tryd.prog) w 51 51 op.type 63 i Tryd.underlying51 hi b 0 k c (.slice (some ad) m c2) m news
    (Src.ofSlice w Tryd.underlying51 ad m c2 news (by rw [hsz]; omega) hnews h1) hroom (fun j hj => by rw [hsz]; simpa using (hth j hj).1) (fun j hj => by rw [hsz]; simpa using (hth j hj).2)
  rw [hsz, Nat.mul_one, Nat.zero_add] at hr
  generalize w.setCells b k news = w2 at h hr
  unfold Oper.wp
  simp [execOp, ho, resolve, invoke, builtin, hs, hx, hr, Result.andThen]
  exact h
theorem run_clear_one (p o c : Nat) {xs : List Value} (hB : BL w p 63 xs) (hfit : o + 1 ≤ xs.length) : Sem.run Tryd.prog (Builtin.clear_ #[51] 0 #[.slice (some ⟨p, o, none⟩) 1 c]) w = .ok (.tuple #[]) (w.setCells p o [.pointer none]) := by
  have hth := hB.there (o := o) (n := 1) hfit
  exact Lib.run_clear_slice (P := Tryd.prog) w 51 63 0 (.pointer none) Tryd.underlying51 zero_ptr rfl rfl p o 1 c (by omega) (fun j hj => (hth j hj).1) (fun j hj => (hth j hj).2)
end
set_option maxRecDepth 100000 in
set_option maxHeartbeats 4000000 in
theorem Delete_at {kb c k n : Nat} {ps : List Value} {w : World} (hR : RowAt w kb c ps) (hn : ps.length = n) (hk : k < n) (hone : ∀ q ∈ ps, q.oneCell' = true) :
    Calls Tryd.prog 33 #[.slice (some ⟨kb, 0, none⟩) n c, .int .i64 (k : Int), .int .i64 ((k : Int) + 1)] w fun e w' => e = .returned (.slice (some ⟨kb, 0, none⟩) (n - 1) c) ∧ RowAt w' kb c (ps.eraseIdx k) ∧ Only [kb] w w' := by
  obtain ⟨hle, tail, htl, hB⟩ := hR
  obtain ⟨m, rfl⟩ : ∃ m, n = m + 1 := ⟨n - 1, by omega⟩
  rw [Nat.add_sub_cancel]
  have k0 : (0 : Int) ≤ (k : Int) := by omega
  have k1 : (k : Int) ≤ (k : Int) + 1 := by omega
  have k2 : (k : Int) + 1 ≤ ((m + 1 : Nat) : Int) := by omega
  have k3 : ((m + 1 : Nat) : Int) ≤ (c : Int) := by omega
  have k01 : (0 : Int) ≤ (k : Int) + 1 := by omega
  have k4 : ¬ (k : Int) = (k : Int) + 1 := by omega
  have hdl : (ps.drop (k + 1)).length = m - k := by rw [List.length_drop, hn]; omega
  have hxl : (ps ++ tail).length = c := by rw [List.length_append]; omega
  have hBd : BL w.drew kb 63 (ps ++ tail) := hB
  have hB1 := hBd.setCells (ps.drop (k + 1)) k (by rw [hxl]; omega)
  have hB1l : (splice (ps ++ tail) k (ps.drop (k + 1))).length = c := by rw [splice_len (by rw [hxl]; omega), hxl]
  have hB2 := hB1.setCells [.pointer none] m (by rw [hB1l]; simp; omega)
  have hB2l : (splice (splice (ps ++ tail) k (ps.drop (k + 1))) m [.pointer none]).length = c := by rw [splice_len (by rw [hB1l]; simp; omega), hB1l]
  have het := erase_take (tail := tail) hn hk (.pointer none)
  rw [Nat.add_sub_cancel] at het
  have ho2 : Only [kb] w ((w.drew.setCells kb k (ps.drop (k + 1))).setCells kb m [.pointer none]) := (((Only.refl [kb] w).drew.setCells kb k _ (.inl (by simp)))).setCells kb m _ (.inl (by simp))
  have hnews : ∀ (o : Nat), (ps.drop (k + 1) = [] ∨ o = k + 1) → ∀ (j : Nat) u, (ps.drop (k + 1))[j]? = some u → w.drew.cell? ((⟨kb, o, none⟩ : Addr).add j) = some u := fun o ho j u hj => by
    have e1 : o = k + 1 := ho.resolve_left fun h => by rw [h] at hj; simp at hj
    subst e1
    have e2 : (⟨kb, k + 1, none⟩ : Addr).add j = ⟨kb, k + 1 + j, none⟩ := by unfold Addr.add; split <;> simp_all
    rw [e2, hBd.cell, List.getElem?_append_left (by have := (List.getElem?_eq_some_iff.1 hj).1; rw [List.length_drop] at this; omega)]
    rwa [List.getElem?_drop] at hj
  have hone2 : ∀ q ∈ ps.drop (k + 1), q.oneCell' = true := fun q hq => hone q (List.mem_of_mem_drop hq)
  have HB0 := Lib.hid hBd
  have HB1 := Lib.hid hB1
  have HFIN := Lib.hid (And.intro hB2 (And.intro hB2l (And.intro het ho2)))
  have HN := Lib.hid hnews
  have HO := Lib.hid hone2
  have HL := Lib.hid (And.intro hdl (And.intro hxl hB1l))
  have hps : ps.length = m + 1 := hn
  have hrow : ∀ (W : World) (X : List Value), BL W kb 63 X → X.length = c → X.take m = ps.eraseIdx k → RowAt W kb c (ps.eraseIdx k) := fun W X h1 h2 h3 => by
    have hl : (ps.eraseIdx k).length = m := by rw [List.length_eraseIdx_of_lt (by omega)]; omega
    refine ⟨by omega, X.drop m, by rw [List.length_drop]; omega, ?_⟩
    rw [← h3, List.take_append_drop]
    exact h1
  have HR := Lib.hid hrow
  have HPS := Lib.hid hps
  clear hB hBd hB1 hB2 hB2l het ho2 hnews hone hone2 hdl hxl hB1l hle htl hn hps hrow
  generalize ps.drop (k + 1) = D at *
  go_enter Tryd.func33, Tryd.ntmps33
  have hkc : k ≤ c := by omega
  have hk1c : k + 1 ≤ c := by omega
  have hk1n : k + 1 ≤ m + 1 := by omega
  have hnc : m + 1 ≤ c := by omega
  have e1 : k + (m - k) = m := by omega
  have hkm : k ≤ m := by omega
  have q0 : (0 : Int) ≤ (m : Int) := by omega
  have q1 : (m : Int) ≤ (m : Int) + 1 := by omega
  have q2 : (m : Int) + 1 ≤ (c : Int) := by omega
  have hcm : ¬ c = m := by omega
  by_cases hck : c = k + 1
  · have hmk : m = k := by omega
    subst hmk
    subst hck
    have HD := Lib.hid (List.eq_nil_of_length_eq_zero (l := D) (by rw [HL.out.1]; omega))
    go_upto_region 5 with fail
    go_region_law
      (first
        | (refine step_room rfl (.tmp 22) (.tmp 25) rfl kb m (m + 1) ⟨kb, 0, none⟩ 0 0 D rfl rfl (by rw [HD.out]; rfl) (HN.out 0 (.inl HD.out)) HO.out (by omega) _ HB0.out (by rw [HL.out.2.1]; omega) ?_))
    all_goals
      generalize w.drew.setCells kb m D = W1 at *
      have hcl := run_clear_one kb m 1 HB1.out (by rw [HL.out.2.2]; omega)
      generalize W1.setCells kb m [.pointer none] = W2 at *
      go_wp2_with fail
      go_ret
      exact ⟨rfl, HR.out _ _ HFIN.out.1 HFIN.out.2.1 HFIN.out.2.2.1, HFIN.out.2.2.2⟩
  · go_upto_region 5 with fail
    go_region_law
      (first
        | (refine step_room rfl (.tmp 22) (.tmp 25) rfl kb k c ⟨kb, k + 1, none⟩ (m - k) (c - (k + 1)) D rfl rfl HL.out.1 (HN.out _ (.inr rfl)) HO.out (by omega) _ HB0.out (by rw [HL.out.2.1]; omega) ?_))
    all_goals
      generalize w.drew.setCells kb k D = W1 at *
      have hcl := run_clear_one kb m (c - m) HB1.out (by rw [HL.out.2.2]; omega)
      generalize W1.setCells kb m [.pointer none] = W2 at *
      go_wp2_with fail
      go_ret
      exact ⟨rfl, HR.out _ _ HFIN.out.1 HFIN.out.2.1 HFIN.out.2.2.1, HFIN.out.2.2.2⟩
end Go.Proofs.YtkanglfpiahecaaDoor.Lyt
/- A pane closed: the first kid of a split. -/
namespace Go.Proofs.YtkanglfpiahecaaDoor.Lyt
open Go.RowKit

set_option maxRecDepth 100000 in
set_option maxHeartbeats 8000000 in
theorem Close_firsta {tb bg bp kb n cap eb : Nat} {pane g0 g1 : Int} {l rest : List Value} {bs GG : List Nat} {w : World} {R HQ : World → Prop}
    (hu : Calls Tryd.prog 23 #[pV tb, .int .i64 pane] w fun e w' => ∃ x, e = .returned x ∧ PathAt w' w.heap.size x l ∧ Below w.heap.size w w')
    (hl : l = pV bg :: pV bp :: rest) (hP : BN w bp (nodeC kb n cap 0)) (hR : RowAt w kb cap (bs.map pV)) (hn : bs.length = n) (hn2 : n ≤ 1000000) (hbk : bs[0]? = some bg) (hbh : bs[1]? = some eb) (hbn : ∀ x ∈ bs, ∃ cs, BN w x cs)
    (hG : BN w bg (leafC pane g0 g1)) (hgr : ∀ V, Below w.heap.size w V → Calls Tryd.prog 32 #[pV eb, .int .i64 0, .int .i64 (g0 + 1)] V fun e w' => e = .returned (.tuple #[]) ∧ HQ w' ∧ Only GG V w')
    (hHQ : ∀ V V', HQ V → Only [kb, bp] V V' → HQ V') (hGG : ∀ x ∈ GG, x < w.heap.size) (hd1 : bp ∉ GG) (hd2 : kb ∉ GG) (hd3 : kb ≠ bp) (hsz : 0 ≤ g0 ∧ g0 ≤ 100000)
    (hrem : ∀ (X : World) (g c : Nat), BN X bp (nodeC kb (n - 1) cap 0) → RowAt X kb cap ((bs.map pV).eraseIdx 0) → HQ X → Only (kb :: bp :: GG) w X → w.heap.size ≤ g → g < X.heap.size → (∀ (i : Nat) u, l[i + 1]? = some u → X.cell? ⟨g, 1 + i, none⟩ = some u) → Calls Tryd.prog 30 #[.slice (some ⟨g, 1, none⟩) (rest.length + 1) c] X fun e w' => e = .returned (.tuple #[]) ∧ R w') :
    Calls Tryd.prog 12 #[pV tb, .int .i64 pane] w fun e w' => e = .returned (.int .i64 0) ∧ R w' := by
  have hll : l.length = rest.length + 2 := by rw [hl]; rfl
  have HU := Lib.hid hu
  have HL := Lib.hid hl
  have HP := Lib.hid hP
  have HR := Lib.hid hR
  have HBK := Lib.hid hbk
  have HBH := Lib.hid hbh
  have HBN := Lib.hid hbn
  have HG := Lib.hid hG
  have HGR := Lib.hid hgr
  have HHQ := Lib.hid hHQ
  have HREM := Lib.hid hrem
  have HLL := Lib.hid hll
  have HN := Lib.hid hn
  have l0 : ¬ (l.length : Int) = 0 := by omega
  have l1 : ¬ (l.length : Int) = 1 := by omega
  have l2 : 0 < l.length := by omega
  have l3 : 1 < l.length := by omega
  have l4 : (1 : Int) ≤ (l.length : Int) := by omega
  have hkn : 1 < n := by have := (List.getElem?_eq_some_iff.1 hbh).1; omega
  clear hu hl hP hR hbk hbh hbn hG hgr hHQ hrem hll hn
  unfold pV at HU HGR ⊢
  go_enter Tryd.func12, Tryd.ntmps12
  go_wp2_with fail
  refine HU.out.mono ?_
  rintro _ w1 ⟨u, rfl, hpa, hb⟩
  rcases hpa.shape with ⟨h, _⟩ | ⟨_, g, c, rfl, hg⟩
  · exact absurd (by rw [h]; rfl) (Nat.ne_of_gt l2)
  have hpc : ∀ (j : Nat) u, l[j]? = some u → w1.cell? ⟨g, j, none⟩ = some u := fun j u hj => by
    have h1 := hpa.1.cells (g := g) rfl j u hj
    have e2 : (⟨g, 0, none⟩ : Addr).add j = ⟨g, 0 + j, none⟩ := by unfold Addr.add; split <;> simp_all
    rw [e2, Nat.zero_add] at h1
    exact h1
  have hgl := (hpa.1.lt g rfl).2
  have hlc : l.length ≤ c := by
    rcases hpa.1.2 with ⟨he, _⟩ | ⟨g', cap', cur', he, _, _, h1, _⟩
    · cases he
    · injection he with _ _ e2; omega
  have hlc1 : (l.length : Int) ≤ (c : Int) := by omega
  have hc1 : ¬ c = 1 := by omega
  have hP1 := HP.out.only (Only.of_below (F := []) hb) (by simp)
  have hR1 := HR.out.only (Only.of_below (F := []) hb) (by simp)
  have hG1 := HG.out.only (Only.of_below (F := []) hb) (by simp)
  have hall : ∀ V, Below w1.heap.size w1 V → V.cell? ⟨g, 0, none⟩ = some (.pointer (some ⟨bg, 0, none⟩)) ∧ V.cell? ⟨g, 1, none⟩ = some (.pointer (some ⟨bp, 0, none⟩)) ∧ V.cell? ⟨bp, 3, none⟩ = some (.int .i64 0) ∧ V.cell? ⟨bp, 4, none⟩ = some (.slice (some ⟨kb, 0, none⟩) n cap) ∧ V.cell? ⟨bg, 1, none⟩ = some (.int .i64 g0) ∧ V.cell? ⟨kb, 1, none⟩ = some (.pointer (some ⟨eb, 0, none⟩)) := fun V hV => by
    have hP2 := hP1.only (Only.of_below (F := []) hV) (by simp)
    have hR2 := hR1.only (Only.of_below (F := []) hV) (by simp)
    have hG2 := hG1.only (Only.of_below (F := []) hV) (by simp)
    refine ⟨(hV.cell (p := ⟨g, 0, none⟩) hgl).trans (hpc 0 _ (by rw [HL.out]; rfl)), (hV.cell (p := ⟨g, 1, none⟩) hgl).trans (hpc 1 _ (by rw [HL.out]; rfl)), hP2.cell 3, hP2.cell 4, hG2.cell 1, ?_⟩
    rw [hR2.cell (by rw [List.length_map, HN.out]; omega), List.getElem?_map, HBH.out]
    rfl
  have hix : ∀ V, Below w1.heap.size w1 V → Calls Tryd.prog 31 #[.slice (some ⟨kb, 0, none⟩) n cap, pV bg] V fun e w' => e = .returned (.int .i64 0) ∧ V = w' := fun V hV => by
    have hR2 := hR1.only (Only.of_below (F := []) hV) (by simp)
    have := Index_at (c := cap) (o := 0) (g := kb) (w := V) (bs := bs) (k := 0) (b := bg) (fun i x hi => by
      have h1 := (List.getElem?_eq_some_iff.1 hi).1
      rw [Nat.zero_add, hR2.cell (by rw [List.length_map]; exact h1), List.getElem?_map, hi]
      rfl) HBK.out (fun j hj => absurd hj (by omega)) (by rw [HN.out]; exact hn2) (fun x hx => (HBN.out x hx).imp fun cs h => (h.only (Only.of_below (F := []) hb) (by simp)).only (Only.of_below (F := []) hV) (by simp))
    rw [HN.out] at this
    exact this
  have HALL := Lib.hid hall
  have HIX := Lib.hid hix
  have HPC := Lib.hid hpc
  have HP1 := Lib.hid hP1
  have HR1 := Lib.hid hR1
  obtain ⟨q0, q1, _⟩ := hall w1 (Below.refl _ _)
  clear hpa hpc hix hall hP1 hR1 hG1
  have k3 : (1 : Int) < (n : Int) := by omega
  have k4 : IntKind.i64.wrap (g0 + 1) = g0 + 1 := IntWalk.i64_in _ ⟨by omega, by omega⟩
  unfold pV at HIX
  go_wp2_with fail
  go_quiet (fail)
  have hVb : Below w1.heap.size w1 (w1.drewN nq) := drewN_below (Below.refl _ _) nq
  generalize w1.drewN nq = V at *
  obtain ⟨q0, q1, q2, q3, q4, q5⟩ := HALL.out V hVb
  go_wp2_with fail
  refine (HIX.out V hVb).mono ?_
  rintro _ w2 ⟨rfl, rfl⟩
  go_upto_region 12 with fail
  have hVd : Below w1.heap.size w1 V.drew := hVb.drew
  obtain ⟨r0, r1, r2, r3, r4, r5⟩ := HALL.out V.drew hVd
  go_region_law
    (first
      | (go_simp; go_at_call 32; refine (HGR.out _ (hb.trans (hVd.mono hb.size))).mono ?_; rintro _ w4 ⟨rfl, hh4, ho4⟩))
  all_goals
    have hP4 := (HP1.out.only (Only.of_below (F := []) hVd) (by simp)).only ho4 hd1
    have hR4 := (HR1.out.only (Only.of_below (F := []) hVd) (by simp)).only ho4 hd2
    have p4 : w4.cell? ⟨bp, 4, none⟩ = some (.slice (some ⟨kb, 0, none⟩) n cap) := hP4.cell 4
    have hdel := Delete_at (k := 0) (n := n) hR4 (by rw [List.length_map, HN.out]) (by omega) (fun q hq => by
      obtain ⟨x, _, rfl⟩ := List.mem_map.1 hq
      rfl)
    have ecast : ((0 : Nat) : Int) = 0 := rfl
    rw [ecast, Int.zero_add] at hdel
    have HDEL := Lib.hid hdel
    have HP4 := Lib.hid hP4
    have HH4 := Lib.hid hh4
    have HO4 := Lib.hid ho4
    clear hdel hP4 hR4 hh4 ho4 ecast q0 q1 q2 q3 q4 q5 r0 r1 r2 r3 r4 r5
    go_wp2_with fail
    refine HDEL.out.mono ?_
    rintro _ w5 ⟨rfl, hR5, ho5⟩
    have hP5 := HP4.out.only ho5 (by simpa using fun e : bp = kb => hd3 e.symm)
    have s4 : w5.cell? ⟨bp, 4, none⟩ = some (.slice (some ⟨kb, 0, none⟩) n cap) := hP5.cell 4
    have s4f := hP5.frozen 4
    have ho6 : Only [bp] w5 (w5.setCell ⟨bp, 4, none⟩ (.slice (some ⟨kb, 0, none⟩) (n - 1) cap)) := (Only.refl _ _).setCell (p := ⟨bp, 4, none⟩) (.inl (by simp)) _
    have hbpl := HP.out.lt
    have hkbl := HR.out.lt
    have hbd : Below w.heap.size w V.drew := hb.trans (hVd.mono hb.size)
    have hoX : Only (kb :: bp :: GG) w (w5.setCell ⟨bp, 4, none⟩ (.slice (some ⟨kb, 0, none⟩) (n - 1) cap)) := (((Only.of_below hbd).trans (HO4.out.mono (fun x hx => by simp [hx]))).trans (ho5.mono (by simp))).trans (ho6.mono (by simp))
    have hblk : (w5.setCell ⟨bp, 4, none⟩ (.slice (some ⟨kb, 0, none⟩) (n - 1) cap)).heap[g]? = w1.heap[g]? := by
      have z1 := hVd.size
      have z2 := HO4.out.size
      have z3 := ho5.size
      rw [ho6.block g (by omega) (by simp; omega), ho5.block g (by omega) (by simp; omega), HO4.out.block g (by omega) (fun hx => by have := hGG g hx; omega), hVd.block g hgl]
    have hk := HREM.out (w5.setCell ⟨bp, 4, none⟩ (.slice (some ⟨kb, 0, none⟩) (n - 1) cap)) g (c - 1) (hP5.set_ 4 _) (hR5.only ho6 (by simpa using hd3)) (HHQ.out _ _ HH4.out ((ho5.mono (by simp)).trans (ho6.mono (by simp)))) hoX hg (by have := hVd.size; have := HO4.out.size; have := ho5.size; have := ho6.size; omega)
      (fun i u hi => by
        have h1 := HPC.out (i + 1) u hi
        rw [Nat.add_comm 1 i]
        exact (World.cell?_of_block (w := w1) (a := ⟨g, i + 1, none⟩) hblk).trans h1)
    rw [show rest.length + 1 = l.length - 1 by rw [HLL.out]; rfl] at hk
    have HK := Lib.hid hk
    clear hk hP5 hR5 ho5 ho6 hoX hblk hbpl hkbl HDEL HREM HALL HIX HGR HU HBN
    go_wp2_with fail
    refine HK.out.mono ?_
    rintro _ w6 ⟨rfl, hr⟩
    have HRR := Lib.hid hr
    clear hr HK
    go_wp2_with fail
    go_ret
    exact ⟨rfl, HRR.out⟩
set_option maxRecDepth 100000 in
set_option maxHeartbeats 8000000 in
theorem Close_firstb {tb bg bp kb n cap eb : Nat} {pane g0 g1 : Int} {l rest : List Value} {bs GG : List Nat} {w : World} {R HQ : World → Prop}
    (hu : Calls Tryd.prog 23 #[pV tb, .int .i64 pane] w fun e w' => ∃ x, e = .returned x ∧ PathAt w' w.heap.size x l ∧ Below w.heap.size w w')
    (hl : l = pV bg :: pV bp :: rest) (hP : BN w bp (nodeC kb n cap 1)) (hR : RowAt w kb cap (bs.map pV)) (hn : bs.length = n) (hn2 : n ≤ 1000000) (hbk : bs[0]? = some bg) (hbh : bs[1]? = some eb) (hbn : ∀ x ∈ bs, ∃ cs, BN w x cs)
    (hG : BN w bg (leafC pane g0 g1)) (hgr : ∀ V, Below w.heap.size w V → Calls Tryd.prog 32 #[pV eb, .int .i64 1, .int .i64 (g1 + 1)] V fun e w' => e = .returned (.tuple #[]) ∧ HQ w' ∧ Only GG V w')
    (hHQ : ∀ V V', HQ V → Only [kb, bp] V V' → HQ V') (hGG : ∀ x ∈ GG, x < w.heap.size) (hd1 : bp ∉ GG) (hd2 : kb ∉ GG) (hd3 : kb ≠ bp) (hsz : 0 ≤ g1 ∧ g1 ≤ 100000)
    (hrem : ∀ (X : World) (g c : Nat), BN X bp (nodeC kb (n - 1) cap 1) → RowAt X kb cap ((bs.map pV).eraseIdx 0) → HQ X → Only (kb :: bp :: GG) w X → w.heap.size ≤ g → g < X.heap.size → (∀ (i : Nat) u, l[i + 1]? = some u → X.cell? ⟨g, 1 + i, none⟩ = some u) → Calls Tryd.prog 30 #[.slice (some ⟨g, 1, none⟩) (rest.length + 1) c] X fun e w' => e = .returned (.tuple #[]) ∧ R w') :
    Calls Tryd.prog 12 #[pV tb, .int .i64 pane] w fun e w' => e = .returned (.int .i64 0) ∧ R w' := by
  have hll : l.length = rest.length + 2 := by rw [hl]; rfl
  have HU := Lib.hid hu
  have HL := Lib.hid hl
  have HP := Lib.hid hP
  have HR := Lib.hid hR
  have HBK := Lib.hid hbk
  have HBH := Lib.hid hbh
  have HBN := Lib.hid hbn
  have HG := Lib.hid hG
  have HGR := Lib.hid hgr
  have HHQ := Lib.hid hHQ
  have HREM := Lib.hid hrem
  have HLL := Lib.hid hll
  have HN := Lib.hid hn
  have l0 : ¬ (l.length : Int) = 0 := by omega
  have l1 : ¬ (l.length : Int) = 1 := by omega
  have l2 : 0 < l.length := by omega
  have l3 : 1 < l.length := by omega
  have l4 : (1 : Int) ≤ (l.length : Int) := by omega
  have hkn : 1 < n := by have := (List.getElem?_eq_some_iff.1 hbh).1; omega
  clear hu hl hP hR hbk hbh hbn hG hgr hHQ hrem hll hn
  unfold pV at HU HGR ⊢
  go_enter Tryd.func12, Tryd.ntmps12
  go_wp2_with fail
  refine HU.out.mono ?_
  rintro _ w1 ⟨u, rfl, hpa, hb⟩
  rcases hpa.shape with ⟨h, _⟩ | ⟨_, g, c, rfl, hg⟩
  · exact absurd (by rw [h]; rfl) (Nat.ne_of_gt l2)
  have hpc : ∀ (j : Nat) u, l[j]? = some u → w1.cell? ⟨g, j, none⟩ = some u := fun j u hj => by
    have h1 := hpa.1.cells (g := g) rfl j u hj
    have e2 : (⟨g, 0, none⟩ : Addr).add j = ⟨g, 0 + j, none⟩ := by unfold Addr.add; split <;> simp_all
    rw [e2, Nat.zero_add] at h1
    exact h1
  have hgl := (hpa.1.lt g rfl).2
  have hlc : l.length ≤ c := by
    rcases hpa.1.2 with ⟨he, _⟩ | ⟨g', cap', cur', he, _, _, h1, _⟩
    · cases he
    · injection he with _ _ e2; omega
  have hlc1 : (l.length : Int) ≤ (c : Int) := by omega
  have hc1 : ¬ c = 1 := by omega
  have hP1 := HP.out.only (Only.of_below (F := []) hb) (by simp)
  have hR1 := HR.out.only (Only.of_below (F := []) hb) (by simp)
  have hG1 := HG.out.only (Only.of_below (F := []) hb) (by simp)
  have hall : ∀ V, Below w1.heap.size w1 V → V.cell? ⟨g, 0, none⟩ = some (.pointer (some ⟨bg, 0, none⟩)) ∧ V.cell? ⟨g, 1, none⟩ = some (.pointer (some ⟨bp, 0, none⟩)) ∧ V.cell? ⟨bp, 3, none⟩ = some (.int .i64 1) ∧ V.cell? ⟨bp, 4, none⟩ = some (.slice (some ⟨kb, 0, none⟩) n cap) ∧ V.cell? ⟨bg, 2, none⟩ = some (.int .i64 g1) ∧ V.cell? ⟨kb, 1, none⟩ = some (.pointer (some ⟨eb, 0, none⟩)) := fun V hV => by
    have hP2 := hP1.only (Only.of_below (F := []) hV) (by simp)
    have hR2 := hR1.only (Only.of_below (F := []) hV) (by simp)
    have hG2 := hG1.only (Only.of_below (F := []) hV) (by simp)
    refine ⟨(hV.cell (p := ⟨g, 0, none⟩) hgl).trans (hpc 0 _ (by rw [HL.out]; rfl)), (hV.cell (p := ⟨g, 1, none⟩) hgl).trans (hpc 1 _ (by rw [HL.out]; rfl)), hP2.cell 3, hP2.cell 4, hG2.cell 2, ?_⟩
    rw [hR2.cell (by rw [List.length_map, HN.out]; omega), List.getElem?_map, HBH.out]
    rfl
  have hix : ∀ V, Below w1.heap.size w1 V → Calls Tryd.prog 31 #[.slice (some ⟨kb, 0, none⟩) n cap, pV bg] V fun e w' => e = .returned (.int .i64 0) ∧ V = w' := fun V hV => by
    have hR2 := hR1.only (Only.of_below (F := []) hV) (by simp)
    have := Index_at (c := cap) (o := 0) (g := kb) (w := V) (bs := bs) (k := 0) (b := bg) (fun i x hi => by
      have h1 := (List.getElem?_eq_some_iff.1 hi).1
      rw [Nat.zero_add, hR2.cell (by rw [List.length_map]; exact h1), List.getElem?_map, hi]
      rfl) HBK.out (fun j hj => absurd hj (by omega)) (by rw [HN.out]; exact hn2) (fun x hx => (HBN.out x hx).imp fun cs h => (h.only (Only.of_below (F := []) hb) (by simp)).only (Only.of_below (F := []) hV) (by simp))
    rw [HN.out] at this
    exact this
  have HALL := Lib.hid hall
  have HIX := Lib.hid hix
  have HPC := Lib.hid hpc
  have HP1 := Lib.hid hP1
  have HR1 := Lib.hid hR1
  obtain ⟨q0, q1, _⟩ := hall w1 (Below.refl _ _)
  clear hpa hpc hix hall hP1 hR1 hG1
  have k3 : (1 : Int) < (n : Int) := by omega
  have k4 : IntKind.i64.wrap (g1 + 1) = g1 + 1 := IntWalk.i64_in _ ⟨by omega, by omega⟩
  unfold pV at HIX
  go_wp2_with fail
  go_quiet (fail)
  have hVb : Below w1.heap.size w1 (w1.drewN nq) := drewN_below (Below.refl _ _) nq
  generalize w1.drewN nq = V at *
  obtain ⟨q0, q1, q2, q3, q4, q5⟩ := HALL.out V hVb
  go_wp2_with fail
  refine (HIX.out V hVb).mono ?_
  rintro _ w2 ⟨rfl, rfl⟩
  go_upto_region 12 with fail
  have hVd : Below w1.heap.size w1 V.drew := hVb.drew
  obtain ⟨r0, r1, r2, r3, r4, r5⟩ := HALL.out V.drew hVd
  go_region_law
    (first
      | (go_simp; go_at_call 32; refine (HGR.out _ (hb.trans (hVd.mono hb.size))).mono ?_; rintro _ w4 ⟨rfl, hh4, ho4⟩))
  all_goals
    have hP4 := (HP1.out.only (Only.of_below (F := []) hVd) (by simp)).only ho4 hd1
    have hR4 := (HR1.out.only (Only.of_below (F := []) hVd) (by simp)).only ho4 hd2
    have p4 : w4.cell? ⟨bp, 4, none⟩ = some (.slice (some ⟨kb, 0, none⟩) n cap) := hP4.cell 4
    have hdel := Delete_at (k := 0) (n := n) hR4 (by rw [List.length_map, HN.out]) (by omega) (fun q hq => by
      obtain ⟨x, _, rfl⟩ := List.mem_map.1 hq
      rfl)
    have ecast : ((0 : Nat) : Int) = 0 := rfl
    rw [ecast, Int.zero_add] at hdel
    have HDEL := Lib.hid hdel
    have HP4 := Lib.hid hP4
    have HH4 := Lib.hid hh4
    have HO4 := Lib.hid ho4
    clear hdel hP4 hR4 hh4 ho4 ecast q0 q1 q2 q3 q4 q5 r0 r1 r2 r3 r4 r5
    go_wp2_with fail
    refine HDEL.out.mono ?_
    rintro _ w5 ⟨rfl, hR5, ho5⟩
    have hP5 := HP4.out.only ho5 (by simpa using fun e : bp = kb => hd3 e.symm)
    have s4 : w5.cell? ⟨bp, 4, none⟩ = some (.slice (some ⟨kb, 0, none⟩) n cap) := hP5.cell 4
    have s4f := hP5.frozen 4
    have ho6 : Only [bp] w5 (w5.setCell ⟨bp, 4, none⟩ (.slice (some ⟨kb, 0, none⟩) (n - 1) cap)) := (Only.refl _ _).setCell (p := ⟨bp, 4, none⟩) (.inl (by simp)) _
    have hbpl := HP.out.lt
    have hkbl := HR.out.lt
    have hbd : Below w.heap.size w V.drew := hb.trans (hVd.mono hb.size)
    have hoX : Only (kb :: bp :: GG) w (w5.setCell ⟨bp, 4, none⟩ (.slice (some ⟨kb, 0, none⟩) (n - 1) cap)) := (((Only.of_below hbd).trans (HO4.out.mono (fun x hx => by simp [hx]))).trans (ho5.mono (by simp))).trans (ho6.mono (by simp))
    have hblk : (w5.setCell ⟨bp, 4, none⟩ (.slice (some ⟨kb, 0, none⟩) (n - 1) cap)).heap[g]? = w1.heap[g]? := by
      have z1 := hVd.size
      have z2 := HO4.out.size
      have z3 := ho5.size
      rw [ho6.block g (by omega) (by simp; omega), ho5.block g (by omega) (by simp; omega), HO4.out.block g (by omega) (fun hx => by have := hGG g hx; omega), hVd.block g hgl]
    have hk := HREM.out (w5.setCell ⟨bp, 4, none⟩ (.slice (some ⟨kb, 0, none⟩) (n - 1) cap)) g (c - 1) (hP5.set_ 4 _) (hR5.only ho6 (by simpa using hd3)) (HHQ.out _ _ HH4.out ((ho5.mono (by simp)).trans (ho6.mono (by simp)))) hoX hg (by have := hVd.size; have := HO4.out.size; have := ho5.size; have := ho6.size; omega)
      (fun i u hi => by
        have h1 := HPC.out (i + 1) u hi
        rw [Nat.add_comm 1 i]
        exact (World.cell?_of_block (w := w1) (a := ⟨g, i + 1, none⟩) hblk).trans h1)
    rw [show rest.length + 1 = l.length - 1 by rw [HLL.out]; rfl] at hk
    have HK := Lib.hid hk
    clear hk hP5 hR5 ho5 ho6 hoX hblk hbpl hkbl HDEL HREM HALL HIX HGR HU HBN
    go_wp2_with fail
    refine HK.out.mono ?_
    rintro _ w6 ⟨rfl, hr⟩
    have HRR := Lib.hid hr
    clear hr HK
    go_wp2_with fail
    go_ret
    exact ⟨rfl, HRR.out⟩
end Go.Proofs.YtkanglfpiahecaaDoor.Lyt
/- A pane closed, as in the chapter's examples. -/
namespace Go.Proofs.YtkanglfpiahecaaDoor.Lyt
open Go.RowKit

section
variable {tb kb cap b1 b2 kb2 cap2 b3 b4 : Nat} {w : World}
set_option maxRecDepth 100000 in
set_option maxHeartbeats 4000000 in
theorem Close_ex (hin : ExIn w tb kb cap b1 b2 kb2 cap2 b3 b4 16 7) (hnd : ExNd tb kb b1 b2 kb2 b3 b4) :
    Calls Tryd.prog 12 #[pV tb, .int .i64 1] w fun e w' => e = .returned (.int .i64 0) ∧ ∃ T' : F, T'.In w' ∧ T'.bare = ex3 ∧ T'.ptrs = [pV tb] ∧ Only [kb, tb, b3, b4] w w' := by
  have ok := ok_ex2 (f := exT tb kb cap b1 b2 kb2 cap2 b3 b4 16 7) (u := 16) (v := 7) rfl (by omega) (by omega)
  have ku := up_at (p := 1) (exT tb kb cap b1 b2 kb2 cap2 b3 b4 16 7) ok.one ok.big w (exIn.2 hin) 0 (pV tb) [pV b1, pV tb] rfl (by simp [F.ups, lastUp])
  obtain ⟨n1, n2, n3, n4, n5, n6⟩ := hnd
  have lt := (exIn.2 hin).lt
  have lt3 : b3 < w.heap.size := lt b3 (by simp [F.blks])
  have lt4 : b4 < w.heap.size := lt b4 (by simp [F.blks])
  refine Close_firsta (bs := [b1, b2]) (eb := b2) (GG := [b3, b4]) (rest := []) (g0 := 40) (g1 := 24) (HQ := fun V => BN V b2 (nodeC kb2 2 cap2 1) ∧ RowAt V kb2 cap2 [pV b3, pV b4] ∧ BN V b3 (leafC 2 80 16) ∧ BN V b4 (leafC 3 80 7)) ku rfl hin.t hin.r rfl (by omega) rfl rfl ?_ hin.l1 ?_ ?_ ?_ (by simp [n1]) (by simp [n2]) (fun e => n1.1 e.symm) (by omega) ?_
  · intro x hx
    simp only [List.mem_cons, List.not_mem_nil, or_false] at hx
    rcases hx with rfl | rfl
    · exact ⟨_, hin.l1⟩
    · exact ⟨_, hin.n2⟩
  · intro V hV
    have hi := hin.below hV
    refine (grow_two (by_ := 41) hi.n2 hi.r2 hi.l3 hi.l4 n6 n5.1 n5.2 (by omega) (by omega)).mono ?_
    rintro e w' ⟨he, h3, h4, ho⟩
    exact ⟨he, ⟨hi.n2.only ho (by simp [n4]), hi.r2.only ho (by simp [n5]), h3, h4⟩, ho⟩
  · rintro V V' ⟨h1, h2, h3, h4⟩ ho
    exact ⟨h1.only ho (by simp [Ne.symm n2.2.1, Ne.symm n1.2.2.1]), h2.only ho (by simp [Ne.symm n2.2.2.1, Ne.symm n1.2.2.2.1]), h3.only ho (by simp [Ne.symm n2.2.2.2.1, Ne.symm n1.2.2.2.2.1]), h4.only ho (by simp [Ne.symm n2.2.2.2.2, Ne.symm n1.2.2.2.2.2])⟩
  · intro x hx
    simp only [List.mem_cons, List.not_mem_nil, or_false] at hx
    rcases hx with rfl | rfl
    · exact lt3
    · exact lt4
  · rintro X g c hP hR ⟨h1, h2, h3, h4⟩ ho hg hgX hcell
    have hr := remake_at (w := X) (t0 := .node b2 kb2 cap2 1 (.leaf b3 2 80 16 (.leaf b4 3 80 7 .nil)) .nil) (frs := [⟨tb, kb, cap, 0, .nil, .nil⟩]) (g := g) (o := 1) (c := c) (D := [b2, kb2, b3, b4, tb, kb])
      ⟨h1, h2, ⟨h3, h4, trivial⟩, trivial⟩ (by simp [F.has1, F.len]) ⟨hP, hR, trivial, trivial, trivial⟩ (by simp [F.has1])
      (by simp [F.blks, frsB, Fr.blks, n4, n5, n6, Ne.symm n1.2.2.1, Ne.symm n1.2.2.2.1, Ne.symm n1.2.2.2.2.1, Ne.symm n1.2.2.2.2.2, Ne.symm n2.2.1, Ne.symm n2.2.2.1, Ne.symm n2.2.2.2.1, Ne.symm n2.2.2.2.2, n1.1]) (by simp [F.blks, frsB, Fr.blks])
      (by simp [F.len]) (by simp [F.cnt, frsC]) (by simp) hgX (by
        have := (exIn.2 hin).lt tb (by simp [F.blks])
        simp
        omega) (fun i fr hi => by
        cases i with
        | zero => cases hi; exact hcell 0 _ rfl
        | succ i => simp at hi)
    refine hr.mono ?_
    rintro e w' ⟨he, t, hrem⟩
    refine ⟨he, t, hrem.tin, ?_, ?_, ?_⟩
    · exact hrem.same.trans (by kernel_rfl)
    · exact hrem.last.trans (by rfl)
    · exact ho.trans (hrem.only.mono (by simp))
end
end Go.Proofs.YtkanglfpiahecaaDoor.Lyt
/- A tree of one pane. -/
namespace Go.Proofs.YtkanglfpiahecaaDoor.Lyt
open Go.RowKit

set_option maxRecDepth 100000 in
set_option maxHeartbeats 4000000 in
theorem New_at {x y p : Int} (hx : 1 ≤ x ∧ x ≤ 250) (hy : 1 ≤ y ∧ y ≤ 120) (hp : 1 ≤ p) (w : World) :
    Calls Tryd.prog 16 #[.int .i64 x, .int .i64 y, .int .i64 p] w fun e w' => ∃ tb, e = .returned (.tuple #[pV tb, .int .i64 0]) ∧ w.heap.size ≤ tb ∧ (F.leaf tb p x y .nil).In w' ∧ Below w.heap.size w w' := by
  have ks := isSize_at x y w
  have hd : decide (1 ≤ x ∧ x ≤ 250 ∧ 1 ≤ y ∧ y ≤ 120) = true := decide_eq_true ⟨hx.1, hx.2, hy.1, hy.2⟩
  rw [hd] at ks
  have hnp : ¬ p < 1 := by omega
  have KS := Lib.hid ks
  clear ks hd
  go_enter Tryd.func16, Tryd.ntmps16
  go_wp2_with (first | (go_at_call 38; refine KS.out.mono ?_; rintro _ w1 ⟨rfl, hw1⟩; obtain rfl : w = w1 := hw1.symm) | (go_at_call 27; refine (leaf_at p x y w).mono ?_; rintro _ w2 ⟨rfl, hlf, hs2, hb2⟩; have c0 := hlf.cell 0; have c1 := hlf.cell 1; have c2 := hlf.cell 2; have c3 := hlf.cell 3; have c4 := hlf.cell 4; unfold pV leafC at *))
  have hZ := BL.new w2 55 (leafC p x y)
  rw [hs2] at hZ
  go_ret2
  exact ⟨w.heap.size + 2, rfl, by omega, ⟨⟨_, hZ⟩, trivial⟩, hb2.alloc (by omega) _⟩
end Go.Proofs.YtkanglfpiahecaaDoor.Lyt
