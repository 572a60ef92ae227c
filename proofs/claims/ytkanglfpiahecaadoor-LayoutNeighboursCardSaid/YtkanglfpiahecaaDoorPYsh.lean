/- The examples: they hold. -/
import Derived.Test.YtkanglfpiahecaaDoorPYex
import Derived.Test.YtkanglfpiahecaaDoorPYsq
import Derived.Test.YtkanglfpiahecaaDoorPYrm
namespace Go.Proofs.YtkanglfpiahecaaDoor.Lyt
open Go.RowKit

theorem bs_tl (l : Tx) : (bs l).toList = l := by unfold bs; simp
section
variable {w w' : World} {tb kb cap b1 b2 kb2 cap2 b3 b4 : Nat}
theorem ok_leaf {b : Nat} {p s0 s1 : Int} (hp : 0 ≤ p ∧ p ≤ 1000000000000) (h0 : 0 ≤ s0 ∧ s0 ≤ 10000) (h1 : 0 ≤ s1 ∧ s1 ≤ 10000) : (F.leaf b p s0 s1 .nil).Ok := by
  refine ⟨?_, ?_, ?_, ?_, ?_, ?_⟩ <;> simp [F.has1, F.sized, F.all, F.cnt, F.ways, F.blks, h0.1, h0.2, h1.1, h1.2, hp.1, hp.2]
/-- The first split. -/
theorem split_ex1 (hin : (F.leaf tb 1 80 24 .nil).In w) :
    Calls Tryd.prog 10 #[pV tb, .int .i64 1, .int .i64 2, .bool true, .int .i64 0, .bool false] w fun e w' => e = .returned (.int .i64 0) ∧ ∃ kb cap b1 b2, (F.node tb kb cap 0 (.leaf b1 1 40 24 (.leaf b2 2 39 24 .nil)) .nil).In w' ∧ (F.node tb kb cap 0 (.leaf b1 1 40 24 (.leaf b2 2 39 24 .nil)) .nil).blks.Nodup ∧ (∀ x ∈ (F.node tb kb cap 0 (.leaf b1 1 40 24 (.leaf b2 2 39 24 .nil)) .nil).blks, x = tb ∨ w.heap.size ≤ x) ∧ Only [tb] w w' := by
  refine (Split_yesapz (T := .leaf tb 1 80 24 .nil) (frs := []) (l := [pV tb]) (oth := []) (ps := [1]) (sz := 39) (ok_leaf (by omega) (by omega) (by omega)) hin rfl rfl rfl rfl rfl ⟨by omega, rfl⟩ (by omega) rfl (by simp) (by omega) (by omega) (by omega) rfl (by decide) (by simp [F.blks])).mono ?_
  rintro e w' ⟨he, ⟨T', h1, -, h3, h4, h5, h6, -⟩, ho⟩
  obtain ⟨b, kb, cap, b1, b2, rfl⟩ := inv_ex1 (f := T') (h6.trans (by kernel_rfl))
  obtain rfl : b = tb := by simpa [F.ptrs] using h5
  exact ⟨he, kb, cap, b1, b2, h1, h3, fun x hx => (h4 x hx).imp (fun h => by simpa [F.blks] using h) id, ho.mono (by simp [F.blks])⟩
/-- The second one. -/
theorem split_ex2 (hin : (F.node tb kb cap 0 (.leaf b1 1 40 24 (.leaf b2 2 39 24 .nil)) .nil).In w) (hnd : (F.node tb kb cap 0 (.leaf b1 1 40 24 (.leaf b2 2 39 24 .nil)) .nil).blks.Nodup) :
    Calls Tryd.prog 10 #[pV tb, .int .i64 2, .int .i64 3, .bool false, .int .i64 5, .bool false] w fun e w' => e = .returned (.int .i64 0) ∧ ∃ kb' cap b1' b2' kb2 cap2 b3 b4, ExIn w' tb kb' cap b1' b2' kb2 cap2 b3 b4 18 5 ∧ (exT tb kb' cap b1' b2' kb2 cap2 b3 b4 18 5).blks.Nodup ∧ (∀ x ∈ (exT tb kb' cap b1' b2' kb2 cap2 b3 b4 18 5).blks, x ∈ [tb, kb, b1, b2] ∨ w.heap.size ≤ x) ∧ Only [tb, kb, b1, b2] w w' := by
  refine (Split_yesbpn (T := .node tb kb cap 0 (.leaf b1 1 40 24 (.leaf b2 2 39 24 .nil)) .nil) (frs := [⟨tb, kb, cap, 0, .leaf b1 1 40 24 .nil, .nil⟩]) (l := [pV b2, pV tb]) (oth := []) (ps := [1, 2]) (sz := 5) (ok_ex1 rfl) hin rfl rfl rfl rfl rfl ⟨by omega, rfl⟩ (by omega) rfl (by simp) (by omega) (by omega) (by omega) (by omega) rfl hnd).mono ?_
  rintro e w' ⟨he, ⟨T', h1, -, h3, h4, h5, h6, -⟩, ho⟩
  obtain ⟨b, kb', cap3, b1', b2', kb2, cap2, b3, b4, rfl⟩ := inv_ex2 (u := 18) (v := 5) (f := T') (h6.trans (by kernel_rfl))
  obtain rfl : b = tb := by simpa [F.ptrs] using h5
  have e1 : (F.node b kb cap 0 (.leaf b1 1 40 24 (.leaf b2 2 39 24 .nil)) .nil).blks = [b, kb, b1, b2] := by simp [F.blks]
  rw [e1] at h4 ho
  exact ⟨he, kb', _, b1', b2', kb2, cap2, b3, b4, exIn.1 h1, h3, h4, ho⟩
theorem print_ex {B : Nat} (ht : Tab B w) (hB : B ≤ w.heap.size) (h : ExIn w tb kb cap b1 b2 kb2 cap2 b3 b4 18 5) :
    Calls Tryd.prog 9 #[pV tb] w fun e w' => e = .returned (.string (bs (printP txT))) ∧ Below w.heap.size w w' :=
  Print_at (f := exT tb kb cap b1 b2 kb2 cap2 b3 b4 18 5) (v0 := 80) (v1 := 24) (ok_ex2 rfl (by omega) (by omega)) ht hB (exIn.2 h) rfl (by rfl) (by rfl) (by
    rw [← F.txl_bare]
    have : (exT tb kb cap b1 b2 kb2 cap2 b3 b4 18 5).bare = ex2 18 5 := rfl
    rw [this, txl_ex2]; rfl) ⟨by omega, by omega, by omega, by omega⟩
theorem boxes_ex2 (h : ExIn w tb kb cap b1 b2 kb2 cap2 b3 b4 16 7) :
    Calls Tryd.prog 8 #[pV tb] w fun e w' => ∃ u, e = .returned u ∧ w'.ownsRow w.heap.size 30 5 u 3 (bx2.flatMap bxC) ∧ Below w.heap.size w w' :=
  Boxes_at (f := exT tb kb cap b1 b2 kb2 cap2 b3 b4 16 7) (v0 := 80) (v1 := 24) (l := bx2) (ok_ex2 rfl (by omega) (by omega)) (exIn.2 h) rfl (by rfl) (by rfl) (by
    rw [← F.bxl_bare]
    have : (exT tb kb cap b1 b2 kb2 cap2 b3 b4 16 7).bare = ex2 16 7 := rfl
    rw [this, bxl_ex2]; rfl) ⟨by omega, by omega, by omega, by omega⟩
theorem boxes_ex3 {T : F} (hin : T.In w) (hb : T.bare = ex3) (hp : T.ptrs = [pV tb]) :
    Calls Tryd.prog 8 #[pV tb] w fun e w' => ∃ u, e = .returned u ∧ w'.ownsRow w.heap.size 30 5 u 2 (bx3.flatMap bxC) ∧ Below w.heap.size w w' :=
  Boxes_at (f := T) (v0 := 80) (v1 := 24) (l := bx3) (ok_ex3 hb) hin (by rw [hp]; rfl) (by rw [← F.vals_bare, hb, vals_ex3.1]; rfl) (by rw [← F.vals_bare, hb, vals_ex3.2]; rfl) (by rw [← F.bxl_bare, hb, bxl_ex3]; rfl) ⟨by omega, by omega, by omega, by omega⟩
end
/-- A row's cells where they lie. -/
theorem row_cells {w : World} {B n k : Nat} {t : TypeId} {u : Value} {xs : List Value} (h : w.ownsRow B t k u n xs) (hn : 0 < n) : ∃ g c, u = .slice (some ⟨g, 0, none⟩) n c ∧ g < w.heap.size ∧ ∀ (j : Nat) v, xs[j]? = some v → w.cell? ⟨g, j, none⟩ = some v := by
  obtain ⟨g, c, rfl, -⟩ := own_some h hn
  refine ⟨g, c, rfl, (h.lt g rfl).2, fun j v hj => ?_⟩
  have h1 := h.cells (g := g) rfl j v hj
  have e2 : (⟨g, 0, none⟩ : Addr).add j = ⟨g, 0 + j, none⟩ := by unfold Addr.add; split <;> simp_all
  rw [e2, Nat.zero_add] at h1
  exact h1
set_option maxRecDepth 100000 in
set_option maxHeartbeats 8000000 in
theorem shown_any {B : Nat} (w : World) (ht : Tab B w) (hB : B ≤ w.heap.size) :
    Calls Tryd.prog 5 #[] w fun e w' => e = .returned (.bool true) ∧ Below w.heap.size w w' := by
  have HT := Lib.hid ht
  clear ht
  go_enter Tryd.func5, Tryd.ntmps5
  go_wp2_with fail
  refine (New_at (x := 80) (y := 24) (p := 1) (by omega) (by omega) (by omega) w).mono ?_
  rintro _ w1 ⟨tb, rfl, htb, hT0, hb1⟩
  have HB1 := Lib.hid hb1
  have HS1 := Lib.hid (split_ex1 hT0)
  clear hb1 hT0
  unfold pV at HS1
  go_wp2_with fail
  refine HS1.out.mono ?_
  rintro _ w2 ⟨rfl, kb, cap, b1, b2, hT1, hnd1, hdm1, ho1⟩
  have hb2 : Below w.heap.size w w2 := HB1.out.trans (ho1.below HB1.out.size (by simpa using htb))
  have hd1 : ∀ x ∈ [tb, kb, b1, b2], w.heap.size ≤ x := fun x hx => by
    rcases hdm1 x (by simpa [F.blks] using hx) with rfl | h
    · exact htb
    · have := HB1.out.size; omega
  have HS2 := Lib.hid (split_ex2 hT1 hnd1)
  have HB2 := Lib.hid hb2
  have HD1 := Lib.hid hd1
  clear hT1 hnd1 hdm1 ho1 hb2 hd1 HS1 HB1
  unfold pV at HS2
  go_wp2_with fail
  refine HS2.out.mono ?_
  rintro _ w3 ⟨rfl, kb', cap', b1', b2', kb2, cap2, b3, b4, hX, hnd, hdm, ho2⟩
  have hb3 : Below w.heap.size w w3 := HB2.out.trans (ho2.below HB2.out.size HD1.out)
  have hd2 : ∀ x ∈ [kb', tb, b3, b4], w.heap.size ≤ x := fun x hx => by
    rcases hdm x (by simp [F.blks] at hx ⊢; omega) with h | h
    · exact HD1.out x h
    · have := HB2.out.size; omega
  have HX := Lib.hid hX
  have HND := Lib.hid (exNd hnd)
  have HB3 := Lib.hid hb3
  have HD2 := Lib.hid hd2
  clear hX hnd hdm ho2 hb3 hd2 HS2 HB2 HD1
  have HP := Lib.hid (print_ex (HT.out.on hB HB3.out) (Nat.le_trans hB HB3.out.size) HX.out)
  unfold pV at HP
  go_wp2_with fail
  refine HP.out.mono ?_
  rintro _ w4 ⟨rfl, hb4⟩
  have HX4 := Lib.hid (HX.out.below hb4)
  have HB4 := Lib.hid (HB3.out.trans (hb4.mono HB3.out.size))
  clear hb4 HP HX HB3
  have HR := Lib.hid (Resize_ex HX4.out HND.out)
  unfold pV at HR
  go_wp2_with fail
  refine HR.out.mono ?_
  rintro _ w5 ⟨rfl, hX5, ho5⟩
  have HB5 := Lib.hid (HB4.out.trans (ho5.below HB4.out.size fun x hx => HD2.out x (by simp at hx ⊢; omega)))
  have HX5 := Lib.hid hX5
  clear hX5 ho5 HR HX4 HB4
  have HQ := Lib.hid (boxes_ex2 HX5.out)
  unfold pV at HQ
  go_wp2_with fail
  refine HQ.out.mono ?_
  rintro _ w6 ⟨u6, rfl, hr6, hb6⟩
  obtain ⟨g6, c6, rfl, hg6, hc6⟩ := row_cells hr6 (by omega)
  have HX6 := Lib.hid (HX5.out.below hb6)
  have HB6 := Lib.hid (HB5.out.trans (hb6.mono HB5.out.size))
  have HC6 := Lib.hid hc6
  have g6o : Hid (g6 ∉ [kb', tb, b3, b4]) := fun hm => by
    have h1 : w5.heap.size ≤ g6 := (hr6.lt g6 rfl).1
    have h2 := (exIn.2 HX5.out).lt g6 (by simp [F.blks] at hm ⊢; omega)
    omega
  clear hr6 hb6 hc6 HQ HX5 HB5
  have HCl := Lib.hid (Close_ex HX6.out HND.out)
  unfold pV at HCl
  go_wp2_with fail
  refine HCl.out.mono ?_
  rintro _ w7 ⟨rfl, T', hT', hbar, hptr, ho7⟩
  have HB7 := Lib.hid (HB6.out.trans (ho7.below HB6.out.size HD2.out))
  have HC7 := Lib.hid (show ∀ (j : Nat) v, (bx2.flatMap bxC)[j]? = some v → w7.cell? ⟨g6, j, none⟩ = some v from fun j v hj => (World.cell?_of_block (w := w6) (a := ⟨g6, j, none⟩) (ho7.block g6 hg6 g6o)).trans (HC6.out j v hj))
  have hg7 : g6 < w7.heap.size := Nat.lt_of_lt_of_le hg6 ho7.size
  have HQ := Lib.hid (boxes_ex3 hT' hbar hptr)
  unfold pV at HQ
  clear hT' hbar hptr ho7 HCl HX6 HB6 HC6 g6o hg6
  go_wp2_with fail
  refine HQ.out.mono ?_
  rintro _ w8 ⟨u8, rfl, hr8, hb8⟩
  obtain ⟨g8, c8, rfl, hg8, hc8⟩ := row_cells hr8 (by omega)
  have HB8 := Lib.hid (HB7.out.trans (hb8.mono HB7.out.size))
  have HC8 := Lib.hid (show ∀ (j : Nat) v, (bx2.flatMap bxC)[j]? = some v → w8.cell? ⟨g6, j, none⟩ = some v from fun j v hj => (hb8.cell (p := ⟨g6, j, none⟩) hg7).trans (HC7.out j v hj))
  have hg68 : g6 < w8.heap.size := Nat.lt_of_lt_of_le hg7 hb8.size
  have HE8 := Lib.hid hc8
  clear hr8 hb8 hc8 HQ HB7 HC7 hg7
  go_wp2_with fail
  have hN : BL (w8.alloc (.cells #[.int .i64 1, .int .i64 0, .int .i64 0, .int .i64 40, .int .i64 24, .int .i64 2, .int .i64 41, .int .i64 0, .int .i64 39, .int .i64 16, .int .i64 3, .int .i64 41, .int .i64 17, .int .i64 39, .int .i64 7] 30)) w8.heap.size 30 (bx2.flatMap bxC) := BL.new w8 _ _
  have hbl : Below w8.heap.size w8 (w8.alloc (.cells #[.int .i64 1, .int .i64 0, .int .i64 0, .int .i64 40, .int .i64 24, .int .i64 2, .int .i64 41, .int .i64 0, .int .i64 39, .int .i64 16, .int .i64 3, .int .i64 41, .int .i64 17, .int .i64 39, .int .i64 7] 30)) := (Below.refl _ _).alloc (Nat.le_refl _) _
  have hbW : Below w.heap.size w (w8.alloc (.cells #[.int .i64 1, .int .i64 0, .int .i64 0, .int .i64 40, .int .i64 24, .int .i64 2, .int .i64 41, .int .i64 0, .int .i64 39, .int .i64 16, .int .i64 3, .int .i64 41, .int .i64 17, .int .i64 39, .int .i64 7] 30)) := HB8.out.trans (hbl.mono HB8.out.size)
  have HG8 := Lib.hid (show ∀ (j : Nat) v, (bx3.flatMap bxC)[j]? = some v → (w8.alloc (.cells #[.int .i64 1, .int .i64 0, .int .i64 0, .int .i64 40, .int .i64 24, .int .i64 2, .int .i64 41, .int .i64 0, .int .i64 39, .int .i64 16, .int .i64 3, .int .i64 41, .int .i64 17, .int .i64 39, .int .i64 7] 30)).cell? ⟨g8, j, none⟩ = some v from fun j v hj => (hbl.cell (p := ⟨g8, j, none⟩) hg8).trans (HE8.out j v hj))
  have hg8l : g8 < (w8.alloc (.cells #[.int .i64 1, .int .i64 0, .int .i64 0, .int .i64 40, .int .i64 24, .int .i64 2, .int .i64 41, .int .i64 0, .int .i64 39, .int .i64 16, .int .i64 3, .int .i64 41, .int .i64 17, .int .i64 39, .int .i64 7] 30)).heap.size := Nat.lt_of_lt_of_le hg8 hbl.size
  generalize w8.alloc (.cells #[.int .i64 1, .int .i64 0, .int .i64 0, .int .i64 40, .int .i64 24, .int .i64 2, .int .i64 41, .int .i64 0, .int .i64 39, .int .i64 16, .int .i64 3, .int .i64 41, .int .i64 17, .int .i64 39, .int .i64 7] 30) = W at *
  generalize w8.heap.size = n8 at *
  refine (same_yes (l := bx2) (c1 := c6) (c2 := 3) (fun j v hj => (hbl.cell (p := ⟨g6, j, none⟩) hg68).trans (HC8.out j v hj)) (fun j v hj => (hN.cell j).trans hj) (by simp [bx2])).mono ?_
  rintro _ w9 ⟨rfl, hb9⟩
  have HG9 := Lib.hid (show ∀ (j : Nat) v, (bx3.flatMap bxC)[j]? = some v → w9.cell? ⟨g8, j, none⟩ = some v from fun j v hj => (hb9.cell (p := ⟨g8, j, none⟩) hg8l).trans (HG8.out j v hj))
  have HB9 := Lib.hid (hbW.trans (hb9.mono hbW.size))
  have hg9 : g8 < w9.heap.size := Nat.lt_of_lt_of_le hg8l hb9.size
  clear hN hbl hbW hb9 HG8 hg8l HC8 HE8 hg68 hg8 HB8
  go_wp2_with fail
  have hN : BL (w9.alloc (.cells #[.int .i64 2, .int .i64 0, .int .i64 0, .int .i64 80, .int .i64 16, .int .i64 3, .int .i64 0, .int .i64 17, .int .i64 80, .int .i64 7] 30)) w9.heap.size 30 (bx3.flatMap bxC) := BL.new w9 _ _
  have hbl : Below w9.heap.size w9 (w9.alloc (.cells #[.int .i64 2, .int .i64 0, .int .i64 0, .int .i64 80, .int .i64 16, .int .i64 3, .int .i64 0, .int .i64 17, .int .i64 80, .int .i64 7] 30)) := (Below.refl _ _).alloc (Nat.le_refl _) _
  have HBW := Lib.hid (HB9.out.trans (hbl.mono HB9.out.size))
  generalize w9.alloc (.cells #[.int .i64 2, .int .i64 0, .int .i64 0, .int .i64 80, .int .i64 16, .int .i64 3, .int .i64 0, .int .i64 17, .int .i64 80, .int .i64 7] 30) = W2 at *
  generalize w9.heap.size = n9 at *
  refine (same_yes (l := bx3) (c1 := c8) (c2 := 2) (fun j v hj => (hbl.cell (p := ⟨g8, j, none⟩) hg9).trans (HG9.out j v hj)) (fun j v hj => (hN.cell j).trans hj) (by simp [bx3])).mono ?_
  rintro _ w10 ⟨rfl, hb10⟩
  have HB10 := Lib.hid (HBW.out.trans (hb10.mono HBW.out.size))
  have e1 : ((bs (printP txT)).toList == [98, 97, 98, 99, 44, 56, 48, 120, 50, 52, 44, 48, 44, 48, 123, 52, 48, 120, 50, 52, 44, 48, 44, 48, 44, 49, 44, 51, 57, 120, 50, 52, 44, 52, 49, 44, 48, 91, 51, 57, 120, 49, 56, 44, 52, 49, 44, 48, 44, 50, 44, 51, 57, 120, 53, 44, 52, 49, 44, 49, 57, 44, 51, 93, 125]) = true := by rw [bs_tl, print_ex2]; rfl
  have KS := Lib.hid (show Calls Tryd.prog 19 #[.string ⟨#[97, 98]⟩] w10 fun e w' => e = .returned (.int .i64 32914) ∧ w' = w10 from by
    have := Sum_at ⟨#[97, 98]⟩ w10 (by decide)
    rw [show (⟨#[97, 98]⟩ : ByteArray).data.toList = [97, 98] from rfl, sum_ab] at this
    exact this)
  clear hN hbl hb10 HBW HG9 hg9 HB9
  generalize printP txT = x1 at *
  go_wp2_with fail
  refine KS.out.mono ?_
  rintro _ w11 ⟨rfl, rfl⟩
  go_wp2_with fail
  go_ret
  exact ⟨rfl, HB10.out⟩
end Go.Proofs.YtkanglfpiahecaaDoor.Lyt
/- A pane split: no room. -/
namespace Go.Proofs.YtkanglfpiahecaaDoor.Lyt
open Go.RowKit

section
variable {T : F} {w : World} {tb b : Nat} {pane other size s0 s1 : Int} {l oth : List Value} {frs : List Fr}
set_option maxRecDepth 100000 in
set_option maxHeartbeats 8000000 in
theorem Split_no4a1 (ok : T.Ok) (hin : T.In w) (hv : T.ptrs[0]? = some (pV tb)) (hl : (T.ups pane)[0]? = some l) (hT : T = plug (.leaf b pane s0 s1 .nil) frs) (hlv : l = pV b :: frs.map (fun fr => pV fr.b)) (ho : (T.ups other)[0]? = some oth) (hgood : 1 ≤ other ∧ oth = []) (hs : 0 ≤ size) {ps : List Int} (hps : T.pns[0]? = some ps) (hn : ps.length < 32) (h3 : s0 < 3) (y : Bool) :
    Calls Tryd.prog 10 #[pV tb, .int .i64 pane, .int .i64 other, .bool true, .int .i64 size, .bool y] w fun e w' => e = .returned (.int .i64 5) ∧ Below w.heap.size w w' := by
  have ku := up_at (p := pane) T ok.one ok.big w hin 0 _ _ hv hl
  have km := fun V (hV : Below w.heap.size w V) => mayCome_at (p := other) ok.one ok.big (hin.below hV) hv ho
  have kp := fun V (hV : Below w.heap.size w V) => panes_at ok.one (hin.below hV) hv hps (by omega)
  have hd : decide (1 ≤ other ∧ oth = []) = true := decide_eq_true hgood
  rw [hd] at km
  have h32 : ¬ (32 : Int) ≤ (ps.length : Int) := by omega
  have hin2 := hin
  rw [hT] at hin2
  obtain ⟨hlf, hfr⟩ := plug_in.1 hin2
  have hBN := hlf.1
  have hne : l ≠ [] := by rw [hlv]; simp
  have KU := Lib.hid ku
  have KM := Lib.hid km
  have KP := Lib.hid kp
  have HBN := Lib.hid hBN
  have HLV := Lib.hid hlv
  clear ku hin hv hl ok km hd kp hps hin2 hlf hfr hBN hT hlv
  unfold pV at KU KM KP ⊢
  go_enter Tryd.func10, Tryd.ntmps10
  go_wp2_with fail
  refine KU.out.mono ?_
  rintro _ w1 ⟨u, rfl, hp, hb⟩
  rcases hp.shape with ⟨h, _⟩ | ⟨_, g, c, rfl, hg⟩
  · exact absurd h hne
  have hq := eqnil_some ⟨g, 0, none⟩ l.length c w1
  have hpc : ∀ (j : Nat) u, l[j]? = some u → w1.cell? ((⟨g, 0, none⟩ : Addr).add j) = some u := hp.1.cells (g := g) rfl
  have hgl := (hp.1.lt g rfl).2
  have hcap : 1 ≤ l.length := by cases l with | nil => exact absurd rfl hne | cons _ _ => simp
  have HPC := Lib.hid hpc
  clear hp hpc
  go_wp2_with fail
  refine (KM.out _ hb).mono ?_
  rintro _ w2 ⟨rfl, hb2⟩
  have hbb2 := hb.trans (hb2.mono hb.size)
  go_wp2_with fail
  refine (KP.out _ hbb2).mono ?_
  rintro _ w3 ⟨u3, rfl, hu3, hb3⟩
  obtain ⟨A3, c3, rfl⟩ := own_slice hu3
  have hb13 : Below w1.heap.size w1 w3 := hb2.trans (hb3.mono hb2.size)
  have hb03 : Below w.heap.size w w3 := hb.trans (hb13.mono hb.size)
  have g0 : w3.cell? ⟨g, 0, none⟩ = some (pV b) := by
    have h1 := HPC.out 0 (pV b) (by rw [HLV.out]; rfl)
    have e2 : (⟨g, 0, none⟩ : Addr).add 0 = ⟨g, 0, none⟩ := by simp [Addr.add]
    rw [e2] at h1
    exact (World.cell?_of_block (w := w1) (a := ⟨g, 0, none⟩) (hb13.block g hgl)).trans h1
  have hN3 := HBN.out.only (Only.of_below (F := []) hb03) (by simp)
  have n1 : w3.cell? ⟨b, 1, none⟩ = some (.int .i64 s0) := hN3.cell 1
  have n2 : w3.cell? ⟨b, 2, none⟩ = some (.int .i64 s1) := hN3.cell 2
  have hcl : (1 : Int) ≤ (l.length : Int) := by omega
  unfold pV at g0
  clear hu3
  go_wp2_with (first | (go_at_call 26; refine (axisOf_at true w3).mono ?_; rintro _ w9 ⟨rfl, rfl⟩))
  go_ret
  exact ⟨rfl, hb03⟩
set_option maxRecDepth 100000 in
set_option maxHeartbeats 8000000 in
theorem Split_no4a2 (ok : T.Ok) (hin : T.In w) (hv : T.ptrs[0]? = some (pV tb)) (hl : (T.ups pane)[0]? = some l) (hT : T = plug (.leaf b pane s0 s1 .nil) frs) (hlv : l = pV b :: frs.map (fun fr => pV fr.b)) (ho : (T.ups other)[0]? = some oth) (hgood : 1 ≤ other ∧ oth = []) (hs : 0 ≤ size) {ps : List Int} (hps : T.pns[0]? = some ps) (hn : ps.length < 32) (hb01 : 0 ≤ s0 ∧ s0 ≤ 10000) (h3 : 3 ≤ s0) (h4 : s0 - 2 < size) (y : Bool) :
    Calls Tryd.prog 10 #[pV tb, .int .i64 pane, .int .i64 other, .bool true, .int .i64 size, .bool y] w fun e w' => e = .returned (.int .i64 5) ∧ Below w.heap.size w w' := by
  have ku := up_at (p := pane) T ok.one ok.big w hin 0 _ _ hv hl
  have km := fun V (hV : Below w.heap.size w V) => mayCome_at (p := other) ok.one ok.big (hin.below hV) hv ho
  have kp := fun V (hV : Below w.heap.size w V) => panes_at ok.one (hin.below hV) hv hps (by omega)
  have hd : decide (1 ≤ other ∧ oth = []) = true := decide_eq_true hgood
  rw [hd] at km
  have h32 : ¬ (32 : Int) ≤ (ps.length : Int) := by omega
  have hin2 := hin
  rw [hT] at hin2
  obtain ⟨hlf, hfr⟩ := plug_in.1 hin2
  have hBN := hlf.1
  have hne : l ≠ [] := by rw [hlv]; simp
  have KU := Lib.hid ku
  have KM := Lib.hid km
  have KP := Lib.hid kp
  have HBN := Lib.hid hBN
  have HLV := Lib.hid hlv
  have j1 : IntKind.i64.wrap (s0 - 2) = s0 - 2 := IntWalk.i64_in _ ⟨by omega, by omega⟩
  have h33 : ¬ s0 < 3 := by omega
  have h44 : size > s0 - 2 := h4
  clear ku hin hv hl ok km hd kp hps hin2 hlf hfr hBN hT hlv
  unfold pV at KU KM KP ⊢
  go_enter Tryd.func10, Tryd.ntmps10
  go_wp2_with fail
  refine KU.out.mono ?_
  rintro _ w1 ⟨u, rfl, hp, hb⟩
  rcases hp.shape with ⟨h, _⟩ | ⟨_, g, c, rfl, hg⟩
  · exact absurd h hne
  have hq := eqnil_some ⟨g, 0, none⟩ l.length c w1
  have hpc : ∀ (j : Nat) u, l[j]? = some u → w1.cell? ((⟨g, 0, none⟩ : Addr).add j) = some u := hp.1.cells (g := g) rfl
  have hgl := (hp.1.lt g rfl).2
  have hcap : 1 ≤ l.length := by cases l with | nil => exact absurd rfl hne | cons _ _ => simp
  have HPC := Lib.hid hpc
  clear hp hpc
  go_wp2_with fail
  refine (KM.out _ hb).mono ?_
  rintro _ w2 ⟨rfl, hb2⟩
  have hbb2 := hb.trans (hb2.mono hb.size)
  go_wp2_with fail
  refine (KP.out _ hbb2).mono ?_
  rintro _ w3 ⟨u3, rfl, hu3, hb3⟩
  obtain ⟨A3, c3, rfl⟩ := own_slice hu3
  have hb13 : Below w1.heap.size w1 w3 := hb2.trans (hb3.mono hb2.size)
  have hb03 : Below w.heap.size w w3 := hb.trans (hb13.mono hb.size)
  have g0 : w3.cell? ⟨g, 0, none⟩ = some (pV b) := by
    have h1 := HPC.out 0 (pV b) (by rw [HLV.out]; rfl)
    have e2 : (⟨g, 0, none⟩ : Addr).add 0 = ⟨g, 0, none⟩ := by simp [Addr.add]
    rw [e2] at h1
    exact (World.cell?_of_block (w := w1) (a := ⟨g, 0, none⟩) (hb13.block g hgl)).trans h1
  have hN3 := HBN.out.only (Only.of_below (F := []) hb03) (by simp)
  have n1 : w3.cell? ⟨b, 1, none⟩ = some (.int .i64 s0) := hN3.cell 1
  have n2 : w3.cell? ⟨b, 2, none⟩ = some (.int .i64 s1) := hN3.cell 2
  have hcl : (1 : Int) ≤ (l.length : Int) := by omega
  unfold pV at g0
  clear hu3
  go_wp2_with (first | (go_at_call 26; refine (axisOf_at true w3).mono ?_; rintro _ w9 ⟨rfl, rfl⟩))
  go_ret
  exact ⟨rfl, hb03⟩
set_option maxRecDepth 100000 in
set_option maxHeartbeats 8000000 in
theorem Split_no4b1 (ok : T.Ok) (hin : T.In w) (hv : T.ptrs[0]? = some (pV tb)) (hl : (T.ups pane)[0]? = some l) (hT : T = plug (.leaf b pane s0 s1 .nil) frs) (hlv : l = pV b :: frs.map (fun fr => pV fr.b)) (ho : (T.ups other)[0]? = some oth) (hgood : 1 ≤ other ∧ oth = []) (hs : 0 ≤ size) {ps : List Int} (hps : T.pns[0]? = some ps) (hn : ps.length < 32) (h3 : s1 < 3) (y : Bool) :
    Calls Tryd.prog 10 #[pV tb, .int .i64 pane, .int .i64 other, .bool false, .int .i64 size, .bool y] w fun e w' => e = .returned (.int .i64 5) ∧ Below w.heap.size w w' := by
  have ku := up_at (p := pane) T ok.one ok.big w hin 0 _ _ hv hl
  have km := fun V (hV : Below w.heap.size w V) => mayCome_at (p := other) ok.one ok.big (hin.below hV) hv ho
  have kp := fun V (hV : Below w.heap.size w V) => panes_at ok.one (hin.below hV) hv hps (by omega)
  have hd : decide (1 ≤ other ∧ oth = []) = true := decide_eq_true hgood
  rw [hd] at km
  have h32 : ¬ (32 : Int) ≤ (ps.length : Int) := by omega
  have hin2 := hin
  rw [hT] at hin2
  obtain ⟨hlf, hfr⟩ := plug_in.1 hin2
  have hBN := hlf.1
  have hne : l ≠ [] := by rw [hlv]; simp
  have KU := Lib.hid ku
  have KM := Lib.hid km
  have KP := Lib.hid kp
  have HBN := Lib.hid hBN
  have HLV := Lib.hid hlv
  clear ku hin hv hl ok km hd kp hps hin2 hlf hfr hBN hT hlv
  unfold pV at KU KM KP ⊢
  go_enter Tryd.func10, Tryd.ntmps10
  go_wp2_with fail
  refine KU.out.mono ?_
  rintro _ w1 ⟨u, rfl, hp, hb⟩
  rcases hp.shape with ⟨h, _⟩ | ⟨_, g, c, rfl, hg⟩
  · exact absurd h hne
  have hq := eqnil_some ⟨g, 0, none⟩ l.length c w1
  have hpc : ∀ (j : Nat) u, l[j]? = some u → w1.cell? ((⟨g, 0, none⟩ : Addr).add j) = some u := hp.1.cells (g := g) rfl
  have hgl := (hp.1.lt g rfl).2
  have hcap : 1 ≤ l.length := by cases l with | nil => exact absurd rfl hne | cons _ _ => simp
  have HPC := Lib.hid hpc
  clear hp hpc
  go_wp2_with fail
  refine (KM.out _ hb).mono ?_
  rintro _ w2 ⟨rfl, hb2⟩
  have hbb2 := hb.trans (hb2.mono hb.size)
  go_wp2_with fail
  refine (KP.out _ hbb2).mono ?_
  rintro _ w3 ⟨u3, rfl, hu3, hb3⟩
  obtain ⟨A3, c3, rfl⟩ := own_slice hu3
  have hb13 : Below w1.heap.size w1 w3 := hb2.trans (hb3.mono hb2.size)
  have hb03 : Below w.heap.size w w3 := hb.trans (hb13.mono hb.size)
  have g0 : w3.cell? ⟨g, 0, none⟩ = some (pV b) := by
    have h1 := HPC.out 0 (pV b) (by rw [HLV.out]; rfl)
    have e2 : (⟨g, 0, none⟩ : Addr).add 0 = ⟨g, 0, none⟩ := by simp [Addr.add]
    rw [e2] at h1
    exact (World.cell?_of_block (w := w1) (a := ⟨g, 0, none⟩) (hb13.block g hgl)).trans h1
  have hN3 := HBN.out.only (Only.of_below (F := []) hb03) (by simp)
  have n1 : w3.cell? ⟨b, 1, none⟩ = some (.int .i64 s0) := hN3.cell 1
  have n2 : w3.cell? ⟨b, 2, none⟩ = some (.int .i64 s1) := hN3.cell 2
  have hcl : (1 : Int) ≤ (l.length : Int) := by omega
  unfold pV at g0
  clear hu3
  go_wp2_with (first | (go_at_call 26; refine (axisOf_at false w3).mono ?_; rintro _ w9 ⟨rfl, rfl⟩))
  go_ret
  exact ⟨rfl, hb03⟩
set_option maxRecDepth 100000 in
set_option maxHeartbeats 8000000 in
theorem Split_no4b2 (ok : T.Ok) (hin : T.In w) (hv : T.ptrs[0]? = some (pV tb)) (hl : (T.ups pane)[0]? = some l) (hT : T = plug (.leaf b pane s0 s1 .nil) frs) (hlv : l = pV b :: frs.map (fun fr => pV fr.b)) (ho : (T.ups other)[0]? = some oth) (hgood : 1 ≤ other ∧ oth = []) (hs : 0 ≤ size) {ps : List Int} (hps : T.pns[0]? = some ps) (hn : ps.length < 32) (hb01 : 0 ≤ s1 ∧ s1 ≤ 10000) (h3 : 3 ≤ s1) (h4 : s1 - 2 < size) (y : Bool) :
    Calls Tryd.prog 10 #[pV tb, .int .i64 pane, .int .i64 other, .bool false, .int .i64 size, .bool y] w fun e w' => e = .returned (.int .i64 5) ∧ Below w.heap.size w w' := by
  have ku := up_at (p := pane) T ok.one ok.big w hin 0 _ _ hv hl
  have km := fun V (hV : Below w.heap.size w V) => mayCome_at (p := other) ok.one ok.big (hin.below hV) hv ho
  have kp := fun V (hV : Below w.heap.size w V) => panes_at ok.one (hin.below hV) hv hps (by omega)
  have hd : decide (1 ≤ other ∧ oth = []) = true := decide_eq_true hgood
  rw [hd] at km
  have h32 : ¬ (32 : Int) ≤ (ps.length : Int) := by omega
  have hin2 := hin
  rw [hT] at hin2
  obtain ⟨hlf, hfr⟩ := plug_in.1 hin2
  have hBN := hlf.1
  have hne : l ≠ [] := by rw [hlv]; simp
  have KU := Lib.hid ku
  have KM := Lib.hid km
  have KP := Lib.hid kp
  have HBN := Lib.hid hBN
  have HLV := Lib.hid hlv
  have j1 : IntKind.i64.wrap (s1 - 2) = s1 - 2 := IntWalk.i64_in _ ⟨by omega, by omega⟩
  have h33 : ¬ s1 < 3 := by omega
  have h44 : size > s1 - 2 := h4
  clear ku hin hv hl ok km hd kp hps hin2 hlf hfr hBN hT hlv
  unfold pV at KU KM KP ⊢
  go_enter Tryd.func10, Tryd.ntmps10
  go_wp2_with fail
  refine KU.out.mono ?_
  rintro _ w1 ⟨u, rfl, hp, hb⟩
  rcases hp.shape with ⟨h, _⟩ | ⟨_, g, c, rfl, hg⟩
  · exact absurd h hne
  have hq := eqnil_some ⟨g, 0, none⟩ l.length c w1
  have hpc : ∀ (j : Nat) u, l[j]? = some u → w1.cell? ((⟨g, 0, none⟩ : Addr).add j) = some u := hp.1.cells (g := g) rfl
  have hgl := (hp.1.lt g rfl).2
  have hcap : 1 ≤ l.length := by cases l with | nil => exact absurd rfl hne | cons _ _ => simp
  have HPC := Lib.hid hpc
  clear hp hpc
  go_wp2_with fail
  refine (KM.out _ hb).mono ?_
  rintro _ w2 ⟨rfl, hb2⟩
  have hbb2 := hb.trans (hb2.mono hb.size)
  go_wp2_with fail
  refine (KP.out _ hbb2).mono ?_
  rintro _ w3 ⟨u3, rfl, hu3, hb3⟩
  obtain ⟨A3, c3, rfl⟩ := own_slice hu3
  have hb13 : Below w1.heap.size w1 w3 := hb2.trans (hb3.mono hb2.size)
  have hb03 : Below w.heap.size w w3 := hb.trans (hb13.mono hb.size)
  have g0 : w3.cell? ⟨g, 0, none⟩ = some (pV b) := by
    have h1 := HPC.out 0 (pV b) (by rw [HLV.out]; rfl)
    have e2 : (⟨g, 0, none⟩ : Addr).add 0 = ⟨g, 0, none⟩ := by simp [Addr.add]
    rw [e2] at h1
    exact (World.cell?_of_block (w := w1) (a := ⟨g, 0, none⟩) (hb13.block g hgl)).trans h1
  have hN3 := HBN.out.only (Only.of_below (F := []) hb03) (by simp)
  have n1 : w3.cell? ⟨b, 1, none⟩ = some (.int .i64 s0) := hN3.cell 1
  have n2 : w3.cell? ⟨b, 2, none⟩ = some (.int .i64 s1) := hN3.cell 2
  have hcl : (1 : Int) ≤ (l.length : Int) := by omega
  unfold pV at g0
  clear hu3
  go_wp2_with (first | (go_at_call 26; refine (axisOf_at false w3).mono ?_; rintro _ w9 ⟨rfl, rfl⟩))
  go_ret
  exact ⟨rfl, hb03⟩
end
end Go.Proofs.YtkanglfpiahecaaDoor.Lyt
/- A pane closed: the one behind its heir. -/
namespace Go.Proofs.YtkanglfpiahecaaDoor.Lyt
open Go.RowKit

set_option maxRecDepth 100000 in
set_option maxHeartbeats 8000000 in
theorem Close_mema {tb bg bp kb n cap k eb : Nat} {pane g0 g1 hp h0 h1 : Int} {l rest : List Value} {bs : List Nat} {w : World} {R : World → Prop}
    (hu : Calls Tryd.prog 23 #[pV tb, .int .i64 pane] w fun e w' => ∃ x, e = .returned x ∧ PathAt w' w.heap.size x l ∧ Below w.heap.size w w')
    (hl : l = pV bg :: pV bp :: rest) (hP : BN w bp (nodeC kb n cap 0)) (hR : RowAt w kb cap (bs.map pV)) (hn : bs.length = n) (hn2 : n ≤ 1000000) (hbk : bs[k + 1]? = some bg) (hbh : bs[k]? = some eb) (hne : ∀ j, j < k + 1 → bs[j]? ≠ some bg) (hbn : ∀ x ∈ bs, ∃ cs, BN w x cs)
    (hG : BN w bg (leafC pane g0 g1)) (hH : BN w eb (leafC hp h0 h1)) (hd1 : eb ≠ bp) (hd2 : eb ≠ kb) (hd3 : kb ≠ bp) (hsz : 0 ≤ g0 ∧ g0 ≤ 100000 ∧ 0 ≤ h0 ∧ h0 ≤ 100000 ∧ 0 ≤ h1 ∧ h1 ≤ 100000)
    (hrem : ∀ (X : World) (g c : Nat), BN X bp (nodeC kb (n - 1) cap 0) → RowAt X kb cap ((bs.map pV).eraseIdx (k + 1)) → BN X eb (leafC hp (h0 + (g0 + 1)) h1) → Only [eb, kb, bp] w X → w.heap.size ≤ g → g < X.heap.size → (∀ (i : Nat) u, l[i + 1]? = some u → X.cell? ⟨g, 1 + i, none⟩ = some u) → Calls Tryd.prog 30 #[.slice (some ⟨g, 1, none⟩) (rest.length + 1) c] X fun e w' => e = .returned (.tuple #[]) ∧ R w') :
    Calls Tryd.prog 12 #[pV tb, .int .i64 pane] w fun e w' => e = .returned (.int .i64 0) ∧ R w' := by
  have hll : l.length = rest.length + 2 := by rw [hl]; rfl
  have HU := Lib.hid hu
  have HL := Lib.hid hl
  have HP := Lib.hid hP
  have HR := Lib.hid hR
  have HBK := Lib.hid hbk
  have HBH := Lib.hid hbh
  have HNE := Lib.hid hne
  have HBN := Lib.hid hbn
  have HG := Lib.hid hG
  have HH := Lib.hid hH
  have HREM := Lib.hid hrem
  have HLL := Lib.hid hll
  have HN := Lib.hid hn
  have l0 : ¬ (l.length : Int) = 0 := by omega
  have l1 : ¬ (l.length : Int) = 1 := by omega
  have l2 : 0 < l.length := by omega
  have l3 : 1 < l.length := by omega
  have l4 : (1 : Int) ≤ (l.length : Int) := by omega
  have hkn : k + 1 < n := by have := (List.getElem?_eq_some_iff.1 hbk).1; omega
  clear hu hl hP hR hbk hbh hne hbn hG hH hrem hll hn
  unfold pV at HU ⊢
  go_enter Tryd.func12, Tryd.ntmps12
  go_wp2_with fail
  refine HU.out.mono ?_
  rintro _ w1 ⟨u, rfl, hpa, hb⟩
  rcases hpa.shape with ⟨h, _⟩ | ⟨_, g, c, rfl, hg⟩
  · exact absurd (by rw [h]; rfl) (Nat.ne_of_gt l2)
  have hpc : ∀ (j : Nat) u, l[j]? = some u → w1.cell? ⟨g, j, none⟩ = some u := fun j u hj => by
    have h1 := hpa.1.cells (g := g) rfl j u hj
    have e2 : (⟨g, 0, none⟩ : Addr).add j = ⟨g, 0 + j, none⟩ := by unfold Addr.add; split <;> simp_all
    rw [e2, Nat.zero_add] at h1
    exact h1
  have hgl := (hpa.1.lt g rfl).2
  have hlc : l.length ≤ c := by
    rcases hpa.1.2 with ⟨he, _⟩ | ⟨g', cap', cur', he, _, _, h1, _⟩
    · cases he
    · injection he with _ _ e2; omega
  have hlc1 : (l.length : Int) ≤ (c : Int) := by omega
  have hc1 : ¬ c = 1 := by omega
  have hP1 := HP.out.only (Only.of_below (F := []) hb) (by simp)
  have hR1 := HR.out.only (Only.of_below (F := []) hb) (by simp)
  have hG1 := HG.out.only (Only.of_below (F := []) hb) (by simp)
  have hH1 := HH.out.only (Only.of_below (F := []) hb) (by simp)
  have hall : ∀ V, Below w1.heap.size w1 V → V.cell? ⟨g, 0, none⟩ = some (.pointer (some ⟨bg, 0, none⟩)) ∧ V.cell? ⟨g, 1, none⟩ = some (.pointer (some ⟨bp, 0, none⟩)) ∧ V.cell? ⟨bp, 3, none⟩ = some (.int .i64 0) ∧ V.cell? ⟨bp, 4, none⟩ = some (.slice (some ⟨kb, 0, none⟩) n cap) ∧ V.cell? ⟨bg, 1, none⟩ = some (.int .i64 g0) ∧ V.cell? ⟨kb, k, none⟩ = some (.pointer (some ⟨eb, 0, none⟩)) := fun V hV => by
    have hP2 := hP1.only (Only.of_below (F := []) hV) (by simp)
    have hR2 := hR1.only (Only.of_below (F := []) hV) (by simp)
    have hG2 := hG1.only (Only.of_below (F := []) hV) (by simp)
    refine ⟨(hV.cell (p := ⟨g, 0, none⟩) hgl).trans (hpc 0 _ (by rw [HL.out]; rfl)), (hV.cell (p := ⟨g, 1, none⟩) hgl).trans (hpc 1 _ (by rw [HL.out]; rfl)), hP2.cell 3, hP2.cell 4, hG2.cell 1, ?_⟩
    rw [hR2.cell (by rw [List.length_map, HN.out]; omega), List.getElem?_map, HBH.out]
    rfl
  have hix : ∀ V, Below w1.heap.size w1 V → Calls Tryd.prog 31 #[.slice (some ⟨kb, 0, none⟩) n cap, pV bg] V fun e w' => e = .returned (.int .i64 ((k : Int) + 1)) ∧ V = w' := fun V hV => by
    have hR2 := hR1.only (Only.of_below (F := []) hV) (by simp)
    have := Index_at (c := cap) (o := 0) (g := kb) (w := V) (bs := bs) (k := k + 1) (b := bg) (fun i x hi => by
      have h1 := (List.getElem?_eq_some_iff.1 hi).1
      rw [Nat.zero_add, hR2.cell (by rw [List.length_map]; exact h1), List.getElem?_map, hi]
      rfl) HBK.out HNE.out (by rw [HN.out]; exact hn2) (fun x hx => (HBN.out x hx).imp fun cs h => (h.only (Only.of_below (F := []) hb) (by simp)).only (Only.of_below (F := []) hV) (by simp))
    rw [HN.out] at this
    exact this
  have hgr : ∀ V, Below w1.heap.size w1 V → Calls Tryd.prog 32 #[pV eb, .int .i64 0, .int .i64 (g0 + 1)] V fun e w' => e = .returned (.tuple #[]) ∧ BN w' eb (leafC hp (h0 + (g0 + 1)) h1) ∧ Only [eb] V w' := fun V hV => by
    have := grow_leaf (a := 0) (.inl rfl) (by_ := g0 + 1) (hH1.only (Only.of_below (F := []) hV) (by simp)) (by omega)
    simpa using this
  have HALL := Lib.hid hall
  have HIX := Lib.hid hix
  have HGR := Lib.hid hgr
  have HPC := Lib.hid hpc
  have HP1 := Lib.hid hP1
  have HR1 := Lib.hid hR1
  obtain ⟨q0, q1, _⟩ := hall w1 (Below.refl _ _)
  clear hpa hpc hix hgr hall hP1 hR1 hG1 hH1
  have k0 : ¬ (k : Int) + 1 = 0 := by omega
  have k1 : IntKind.i64.wrap (k : Int) = (k : Int) := IntWalk.i64_in _ ⟨by omega, by omega⟩
  have k2 : (0 : Int) ≤ (k : Int) := by omega
  have k3 : (k : Int) < (n : Int) := by omega
  have k4 : IntKind.i64.wrap (g0 + 1) = g0 + 1 := IntWalk.i64_in _ ⟨by omega, by omega⟩
  have k5 : IntKind.i64.wrap ((k : Int) + 1 + 1) = (k : Int) + 1 + 1 := IntWalk.i64_in _ ⟨by omega, by omega⟩
  unfold pV at HIX HGR
  go_wp2_with fail
  go_quiet (fail)
  have hVb : Below w1.heap.size w1 (w1.drewN nq) := drewN_below (Below.refl _ _) nq
  generalize w1.drewN nq = V at *
  obtain ⟨q0, q1, q2, q3, q4, q5⟩ := HALL.out V hVb
  go_wp2_with fail
  refine (HIX.out V hVb).mono ?_
  rintro _ w2 ⟨rfl, rfl⟩
  go_upto_region 12 with fail
  have hVd : Below w1.heap.size w1 V.drew := hVb.drew
  obtain ⟨r0, r1, r2, r3, r4, r5⟩ := HALL.out V.drew hVd
  go_region_law
    (first
      | (go_simp; go_at_call 32; refine (HGR.out _ hVd).mono ?_; rintro _ w4 ⟨rfl, hh4, ho4⟩))
  all_goals
    have hP4 := (HP1.out.only (Only.of_below (F := []) hVd) (by simp)).only ho4 (by simpa using fun e : bp = eb => hd1 e.symm)
    have hR4 := (HR1.out.only (Only.of_below (F := []) hVd) (by simp)).only ho4 (by simpa using fun e : kb = eb => hd2 e.symm)
    have p4 : w4.cell? ⟨bp, 4, none⟩ = some (.slice (some ⟨kb, 0, none⟩) n cap) := hP4.cell 4
    have hdel := Delete_at (k := k + 1) (n := n) hR4 (by rw [List.length_map, HN.out]) hkn (fun q hq => by
      obtain ⟨x, _, rfl⟩ := List.mem_map.1 hq
      rfl)
    have ecast : ((k + 1 : Nat) : Int) = (k : Int) + 1 := by omega
    rw [ecast] at hdel
    have HDEL := Lib.hid hdel
    have HP4 := Lib.hid hP4
    have HH4 := Lib.hid hh4
    have HO4 := Lib.hid ho4
    clear hdel hP4 hR4 hh4 ho4 ecast q0 q1 q2 q3 q4 q5 r0 r1 r2 r3 r4 r5
    go_wp2_with fail
    refine HDEL.out.mono ?_
    rintro _ w5 ⟨rfl, hR5, ho5⟩
    have hP5 := HP4.out.only ho5 (by simpa using fun e : bp = kb => hd3 e.symm)
    have s4 : w5.cell? ⟨bp, 4, none⟩ = some (.slice (some ⟨kb, 0, none⟩) n cap) := hP5.cell 4
    have s4f := hP5.frozen 4
    have ho6 : Only [bp] w5 (w5.setCell ⟨bp, 4, none⟩ (.slice (some ⟨kb, 0, none⟩) (n - 1) cap)) := (Only.refl _ _).setCell (p := ⟨bp, 4, none⟩) (.inl (by simp)) _
    have hebl := HH.out.lt
    have hbpl := HP.out.lt
    have hkbl := HR.out.lt
    have hbd : Below w.heap.size w V.drew := hb.trans (hVd.mono hb.size)
    have hoX : Only [eb, kb, bp] w (w5.setCell ⟨bp, 4, none⟩ (.slice (some ⟨kb, 0, none⟩) (n - 1) cap)) := (((Only.of_below hbd).trans (HO4.out.mono (by simp))).trans (ho5.mono (by simp))).trans (ho6.mono (by simp))
    have hblk : (w5.setCell ⟨bp, 4, none⟩ (.slice (some ⟨kb, 0, none⟩) (n - 1) cap)).heap[g]? = w1.heap[g]? := by
      have z1 := hVd.size
      have z2 := HO4.out.size
      have z3 := ho5.size
      rw [ho6.block g (by omega) (by simp; omega), ho5.block g (by omega) (by simp; omega), HO4.out.block g (by omega) (by simp; omega), hVd.block g hgl]
    have hk := HREM.out (w5.setCell ⟨bp, 4, none⟩ (.slice (some ⟨kb, 0, none⟩) (n - 1) cap)) g (c - 1) (hP5.set_ 4 _) (hR5.only ho6 (by simpa using hd3)) ((HH4.out.only ho5 (by simpa using hd2)).only ho6 (by simpa using hd1)) hoX hg (by have := hVd.size; have := HO4.out.size; have := ho5.size; have := ho6.size; omega)
      (fun i u hi => by
        have h1 := HPC.out (i + 1) u hi
        rw [Nat.add_comm 1 i]
        exact (World.cell?_of_block (w := w1) (a := ⟨g, i + 1, none⟩) hblk).trans h1)
    rw [show rest.length + 1 = l.length - 1 by rw [HLL.out]; rfl] at hk
    have HK := Lib.hid hk
    clear hk hP5 hR5 ho5 ho6 hoX hblk hebl hbpl hkbl HDEL HREM HALL HIX HGR HU HBN HNE
    go_wp2_with fail
    refine HK.out.mono ?_
    rintro _ w6 ⟨rfl, hr⟩
    have HRR := Lib.hid hr
    clear hr HK
    go_wp2_with fail
    go_ret
    exact ⟨rfl, HRR.out⟩
set_option maxRecDepth 100000 in
set_option maxHeartbeats 8000000 in
theorem Close_memb {tb bg bp kb n cap k eb : Nat} {pane g0 g1 hp h0 h1 : Int} {l rest : List Value} {bs : List Nat} {w : World} {R : World → Prop}
    (hu : Calls Tryd.prog 23 #[pV tb, .int .i64 pane] w fun e w' => ∃ x, e = .returned x ∧ PathAt w' w.heap.size x l ∧ Below w.heap.size w w')
    (hl : l = pV bg :: pV bp :: rest) (hP : BN w bp (nodeC kb n cap 1)) (hR : RowAt w kb cap (bs.map pV)) (hn : bs.length = n) (hn2 : n ≤ 1000000) (hbk : bs[k + 1]? = some bg) (hbh : bs[k]? = some eb) (hne : ∀ j, j < k + 1 → bs[j]? ≠ some bg) (hbn : ∀ x ∈ bs, ∃ cs, BN w x cs)
    (hG : BN w bg (leafC pane g0 g1)) (hH : BN w eb (leafC hp h0 h1)) (hd1 : eb ≠ bp) (hd2 : eb ≠ kb) (hd3 : kb ≠ bp) (hsz : 0 ≤ g1 ∧ g1 ≤ 100000 ∧ 0 ≤ h0 ∧ h0 ≤ 100000 ∧ 0 ≤ h1 ∧ h1 ≤ 100000)
    (hrem : ∀ (X : World) (g c : Nat), BN X bp (nodeC kb (n - 1) cap 1) → RowAt X kb cap ((bs.map pV).eraseIdx (k + 1)) → BN X eb (leafC hp h0 (h1 + (g1 + 1))) → Only [eb, kb, bp] w X → w.heap.size ≤ g → g < X.heap.size → (∀ (i : Nat) u, l[i + 1]? = some u → X.cell? ⟨g, 1 + i, none⟩ = some u) → Calls Tryd.prog 30 #[.slice (some ⟨g, 1, none⟩) (rest.length + 1) c] X fun e w' => e = .returned (.tuple #[]) ∧ R w') :
    Calls Tryd.prog 12 #[pV tb, .int .i64 pane] w fun e w' => e = .returned (.int .i64 0) ∧ R w' := by
  have hll : l.length = rest.length + 2 := by rw [hl]; rfl
  have HU := Lib.hid hu
  have HL := Lib.hid hl
  have HP := Lib.hid hP
  have HR := Lib.hid hR
  have HBK := Lib.hid hbk
  have HBH := Lib.hid hbh
  have HNE := Lib.hid hne
  have HBN := Lib.hid hbn
  have HG := Lib.hid hG
  have HH := Lib.hid hH
  have HREM := Lib.hid hrem
  have HLL := Lib.hid hll
  have HN := Lib.hid hn
  have l0 : ¬ (l.length : Int) = 0 := by omega
  have l1 : ¬ (l.length : Int) = 1 := by omega
  have l2 : 0 < l.length := by omega
  have l3 : 1 < l.length := by omega
  have l4 : (1 : Int) ≤ (l.length : Int) := by omega
  have hkn : k + 1 < n := by have := (List.getElem?_eq_some_iff.1 hbk).1; omega
  clear hu hl hP hR hbk hbh hne hbn hG hH hrem hll hn
  unfold pV at HU ⊢
  go_enter Tryd.func12, Tryd.ntmps12
  go_wp2_with fail
  refine HU.out.mono ?_
  rintro _ w1 ⟨u, rfl, hpa, hb⟩
  rcases hpa.shape with ⟨h, _⟩ | ⟨_, g, c, rfl, hg⟩
  · exact absurd (by rw [h]; rfl) (Nat.ne_of_gt l2)
  have hpc : ∀ (j : Nat) u, l[j]? = some u → w1.cell? ⟨g, j, none⟩ = some u := fun j u hj => by
    have h1 := hpa.1.cells (g := g) rfl j u hj
    have e2 : (⟨g, 0, none⟩ : Addr).add j = ⟨g, 0 + j, none⟩ := by unfold Addr.add; split <;> simp_all
    rw [e2, Nat.zero_add] at h1
    exact h1
  have hgl := (hpa.1.lt g rfl).2
  have hlc : l.length ≤ c := by
    rcases hpa.1.2 with ⟨he, _⟩ | ⟨g', cap', cur', he, _, _, h1, _⟩
    · cases he
    · injection he with _ _ e2; omega
  have hlc1 : (l.length : Int) ≤ (c : Int) := by omega
  have hc1 : ¬ c = 1 := by omega
  have hP1 := HP.out.only (Only.of_below (F := []) hb) (by simp)
  have hR1 := HR.out.only (Only.of_below (F := []) hb) (by simp)
  have hG1 := HG.out.only (Only.of_below (F := []) hb) (by simp)
  have hH1 := HH.out.only (Only.of_below (F := []) hb) (by simp)
  have hall : ∀ V, Below w1.heap.size w1 V → V.cell? ⟨g, 0, none⟩ = some (.pointer (some ⟨bg, 0, none⟩)) ∧ V.cell? ⟨g, 1, none⟩ = some (.pointer (some ⟨bp, 0, none⟩)) ∧ V.cell? ⟨bp, 3, none⟩ = some (.int .i64 1) ∧ V.cell? ⟨bp, 4, none⟩ = some (.slice (some ⟨kb, 0, none⟩) n cap) ∧ V.cell? ⟨bg, 2, none⟩ = some (.int .i64 g1) ∧ V.cell? ⟨kb, k, none⟩ = some (.pointer (some ⟨eb, 0, none⟩)) := fun V hV => by
    have hP2 := hP1.only (Only.of_below (F := []) hV) (by simp)
    have hR2 := hR1.only (Only.of_below (F := []) hV) (by simp)
    have hG2 := hG1.only (Only.of_below (F := []) hV) (by simp)
    refine ⟨(hV.cell (p := ⟨g, 0, none⟩) hgl).trans (hpc 0 _ (by rw [HL.out]; rfl)), (hV.cell (p := ⟨g, 1, none⟩) hgl).trans (hpc 1 _ (by rw [HL.out]; rfl)), hP2.cell 3, hP2.cell 4, hG2.cell 2, ?_⟩
    rw [hR2.cell (by rw [List.length_map, HN.out]; omega), List.getElem?_map, HBH.out]
    rfl
  have hix : ∀ V, Below w1.heap.size w1 V → Calls Tryd.prog 31 #[.slice (some ⟨kb, 0, none⟩) n cap, pV bg] V fun e w' => e = .returned (.int .i64 ((k : Int) + 1)) ∧ V = w' := fun V hV => by
    have hR2 := hR1.only (Only.of_below (F := []) hV) (by simp)
    have := Index_at (c := cap) (o := 0) (g := kb) (w := V) (bs := bs) (k := k + 1) (b := bg) (fun i x hi => by
      have h1 := (List.getElem?_eq_some_iff.1 hi).1
      rw [Nat.zero_add, hR2.cell (by rw [List.length_map]; exact h1), List.getElem?_map, hi]
      rfl) HBK.out HNE.out (by rw [HN.out]; exact hn2) (fun x hx => (HBN.out x hx).imp fun cs h => (h.only (Only.of_below (F := []) hb) (by simp)).only (Only.of_below (F := []) hV) (by simp))
    rw [HN.out] at this
    exact this
  have hgr : ∀ V, Below w1.heap.size w1 V → Calls Tryd.prog 32 #[pV eb, .int .i64 1, .int .i64 (g1 + 1)] V fun e w' => e = .returned (.tuple #[]) ∧ BN w' eb (leafC hp h0 (h1 + (g1 + 1))) ∧ Only [eb] V w' := fun V hV => by
    have := grow_leaf (a := 1) (.inr rfl) (by_ := g1 + 1) (hH1.only (Only.of_below (F := []) hV) (by simp)) (by omega)
    simpa using this
  have HALL := Lib.hid hall
  have HIX := Lib.hid hix
  have HGR := Lib.hid hgr
  have HPC := Lib.hid hpc
  have HP1 := Lib.hid hP1
  have HR1 := Lib.hid hR1
  obtain ⟨q0, q1, _⟩ := hall w1 (Below.refl _ _)
  clear hpa hpc hix hgr hall hP1 hR1 hG1 hH1
  have k0 : ¬ (k : Int) + 1 = 0 := by omega
  have k1 : IntKind.i64.wrap (k : Int) = (k : Int) := IntWalk.i64_in _ ⟨by omega, by omega⟩
  have k2 : (0 : Int) ≤ (k : Int) := by omega
  have k3 : (k : Int) < (n : Int) := by omega
  have k4 : IntKind.i64.wrap (g1 + 1) = g1 + 1 := IntWalk.i64_in _ ⟨by omega, by omega⟩
  have k5 : IntKind.i64.wrap ((k : Int) + 1 + 1) = (k : Int) + 1 + 1 := IntWalk.i64_in _ ⟨by omega, by omega⟩
  unfold pV at HIX HGR
  go_wp2_with fail
  go_quiet (fail)
  have hVb : Below w1.heap.size w1 (w1.drewN nq) := drewN_below (Below.refl _ _) nq
  generalize w1.drewN nq = V at *
  obtain ⟨q0, q1, q2, q3, q4, q5⟩ := HALL.out V hVb
  go_wp2_with fail
  refine (HIX.out V hVb).mono ?_
  rintro _ w2 ⟨rfl, rfl⟩
  go_upto_region 12 with fail
  have hVd : Below w1.heap.size w1 V.drew := hVb.drew
  obtain ⟨r0, r1, r2, r3, r4, r5⟩ := HALL.out V.drew hVd
  go_region_law
    (first
      | (go_simp; go_at_call 32; refine (HGR.out _ hVd).mono ?_; rintro _ w4 ⟨rfl, hh4, ho4⟩))
  all_goals
    have hP4 := (HP1.out.only (Only.of_below (F := []) hVd) (by simp)).only ho4 (by simpa using fun e : bp = eb => hd1 e.symm)
    have hR4 := (HR1.out.only (Only.of_below (F := []) hVd) (by simp)).only ho4 (by simpa using fun e : kb = eb => hd2 e.symm)
    have p4 : w4.cell? ⟨bp, 4, none⟩ = some (.slice (some ⟨kb, 0, none⟩) n cap) := hP4.cell 4
    have hdel := Delete_at (k := k + 1) (n := n) hR4 (by rw [List.length_map, HN.out]) hkn (fun q hq => by
      obtain ⟨x, _, rfl⟩ := List.mem_map.1 hq
      rfl)
    have ecast : ((k + 1 : Nat) : Int) = (k : Int) + 1 := by omega
    rw [ecast] at hdel
    have HDEL := Lib.hid hdel
    have HP4 := Lib.hid hP4
    have HH4 := Lib.hid hh4
    have HO4 := Lib.hid ho4
    clear hdel hP4 hR4 hh4 ho4 ecast q0 q1 q2 q3 q4 q5 r0 r1 r2 r3 r4 r5
    go_wp2_with fail
    refine HDEL.out.mono ?_
    rintro _ w5 ⟨rfl, hR5, ho5⟩
    have hP5 := HP4.out.only ho5 (by simpa using fun e : bp = kb => hd3 e.symm)
    have s4 : w5.cell? ⟨bp, 4, none⟩ = some (.slice (some ⟨kb, 0, none⟩) n cap) := hP5.cell 4
    have s4f := hP5.frozen 4
    have ho6 : Only [bp] w5 (w5.setCell ⟨bp, 4, none⟩ (.slice (some ⟨kb, 0, none⟩) (n - 1) cap)) := (Only.refl _ _).setCell (p := ⟨bp, 4, none⟩) (.inl (by simp)) _
    have hebl := HH.out.lt
    have hbpl := HP.out.lt
    have hkbl := HR.out.lt
    have hbd : Below w.heap.size w V.drew := hb.trans (hVd.mono hb.size)
    have hoX : Only [eb, kb, bp] w (w5.setCell ⟨bp, 4, none⟩ (.slice (some ⟨kb, 0, none⟩) (n - 1) cap)) := (((Only.of_below hbd).trans (HO4.out.mono (by simp))).trans (ho5.mono (by simp))).trans (ho6.mono (by simp))
    have hblk : (w5.setCell ⟨bp, 4, none⟩ (.slice (some ⟨kb, 0, none⟩) (n - 1) cap)).heap[g]? = w1.heap[g]? := by
      have z1 := hVd.size
      have z2 := HO4.out.size
      have z3 := ho5.size
      rw [ho6.block g (by omega) (by simp; omega), ho5.block g (by omega) (by simp; omega), HO4.out.block g (by omega) (by simp; omega), hVd.block g hgl]
    have hk := HREM.out (w5.setCell ⟨bp, 4, none⟩ (.slice (some ⟨kb, 0, none⟩) (n - 1) cap)) g (c - 1) (hP5.set_ 4 _) (hR5.only ho6 (by simpa using hd3)) ((HH4.out.only ho5 (by simpa using hd2)).only ho6 (by simpa using hd1)) hoX hg (by have := hVd.size; have := HO4.out.size; have := ho5.size; have := ho6.size; omega)
      (fun i u hi => by
        have h1 := HPC.out (i + 1) u hi
        rw [Nat.add_comm 1 i]
        exact (World.cell?_of_block (w := w1) (a := ⟨g, i + 1, none⟩) hblk).trans h1)
    rw [show rest.length + 1 = l.length - 1 by rw [HLL.out]; rfl] at hk
    have HK := Lib.hid hk
    clear hk hP5 hR5 ho5 ho6 hoX hblk hebl hbpl hkbl HDEL HREM HALL HIX HGR HU HBN HNE
    go_wp2_with fail
    refine HK.out.mono ?_
    rintro _ w6 ⟨rfl, hr⟩
    have HRR := Lib.hid hr
    clear hr HK
    go_wp2_with fail
    go_ret
    exact ⟨rfl, HRR.out⟩
end Go.Proofs.YtkanglfpiahecaaDoor.Lyt
/- A pane closed: the tree that is left. -/
namespace Go.Proofs.YtkanglfpiahecaaDoor.Lyt
open Go.RowKit

/-- The trees' own blocks. -/
def F.tops : F → List Nat
  | .nil => []
  | .leaf b _ _ _ r => b :: r.tops
  | .node b _ _ _ _ r => b :: r.tops
theorem F.tops_ptrs : ∀ f : F, f.ptrs = f.tops.map pV
  | .nil => rfl
  | .leaf _ _ _ _ r => by simp [F.ptrs, F.tops, F.tops_ptrs r]
  | .node _ _ _ _ _ r => by simp [F.ptrs, F.tops, F.tops_ptrs r]
theorem F.tops_len : ∀ f : F, f.tops.length = f.len
  | .nil => rfl
  | .leaf _ _ _ _ r => by simp [F.tops, F.len, F.tops_len r]
  | .node _ _ _ _ _ r => by simp [F.tops, F.len, F.tops_len r]
theorem F.tops_app (g : F) : ∀ f : F, (f.app g).tops = f.tops ++ g.tops
  | .nil => rfl
  | .leaf _ _ _ _ r => by simp [F.app, F.tops, F.tops_app g r]
  | .node _ _ _ _ _ r => by simp [F.app, F.tops, F.tops_app g r]
theorem F.tops_sub : ∀ f : F, List.Sublist f.tops f.blks
  | .nil => List.Sublist.refl _
  | .leaf b _ _ _ r => (F.tops_sub r).cons_cons b
  | .node b kb _ _ ks r => (((F.tops_sub r).trans (List.sublist_append_right ks.blks r.blks)).cons kb).cons_cons b
theorem F.tops_bn {w : World} : ∀ {f : F}, f.In w → ∀ x ∈ f.tops, ∃ cs, BN w x cs
  | .nil, _, x, hx => by cases hx
  | .leaf b _ _ _ r, h, x, hx => by
    rcases List.mem_cons.1 hx with rfl | hx
    · exact ⟨_, h.1⟩
    · exact F.tops_bn h.2 x hx
  | .node b kb _ _ ks r, h, x, hx => by
    rcases List.mem_cons.1 hx with rfl | hx
    · exact ⟨_, h.1⟩
    · exact F.tops_bn h.2.2.2 x hx
/-- What lies there when a pane was closed: a tree that is, but for its places, the one with the splits above it made anew. -/
structure Clat (T : F) (w w' : World) (frs : List Fr) : Prop where
  ex : ∃ T' : F, T'.In w' ∧ T'.has1 ∧ T'.blks.Nodup ∧ (∀ x ∈ T'.blks, x ∈ T.blks ∨ w.heap.size ≤ x) ∧ T'.ptrs = T.ptrs ∧ T'.bare = (rema .nil frs).bare ∧ T'.cnt + 1 = T.cnt
  only : Only T.blks w w'
section
variable {T l0 : F} {w : World} {tb bg eb : Nat} {pane g0 g1 hp h0 h1 : Int} {fr : Fr} {up : List Fr}
theorem close_make {X : World} {g c : Nat} {y0 y1 : Int} (hin : T.In w) (ok : T.Ok) (hnod : T.blks.Nodup) (hT : T = plug (.leaf bg pane g0 g1 .nil) (fr :: up)) (hfl : fr.l = l0.app (.leaf eb hp h0 h1 .nil))
    (hP : BN X fr.b (nodeC fr.kb (fr.l.len + fr.r.len) fr.cap fr.al)) (hR : RowAt X fr.kb fr.cap (fr.l.ptrs ++ fr.r.ptrs)) (hE : BN X eb (leafC hp y0 y1)) (ho : Only [eb, fr.kb, fr.b] w X) (hg : w.heap.size ≤ g) (hgX : g < X.heap.size)
    (hcell : ∀ (i : Nat) u, ((fr :: up).map fun fr => pV fr.b)[i]? = some u → X.cell? ⟨g, 1 + i, none⟩ = some u) :
    Calls Tryd.prog 30 #[.slice (some ⟨g, 1, none⟩) ((up.map fun fr => pV fr.b).length + 1) c] X fun e w' => e = .returned (.tuple #[]) ∧ Clat T w w' ({ fr with l := l0.app (.leaf eb hp y0 y1 .nil) } :: up) := by
  have hperm := plug_blks (fr :: up) (.leaf bg pane g0 g1 .nil)
  rw [← hT] at hperm
  have hcnt := plug_cnt (fr :: up) (.leaf bg pane g0 g1 .nil)
  rw [← hT] at hcnt
  have hptr := plug_ptrs (fr :: up) (.leaf bg pane g0 g1 .nil)
  rw [← hT] at hptr
  have hh1 := ok.one
  rw [hT] at hh1
  have hfh := (plug_has1 hh1).2
  have hin2 := hin
  rw [hT] at hin2
  have hfr := (plug_in.1 hin2).2
  have hnod2 := hperm.nodup_iff.1 hnod
  have hfT : ∀ x ∈ frsB (fr :: up), x ∈ T.blks := fun x hx => hperm.mem_iff.2 (by simp [hx])
  have hlt := hin.lt
  have hn3 := (List.nodup_append.1 hnod2).2.1
  have hbl : (l0.app (.leaf eb hp y0 y1 .nil)).blks = fr.l.blks := by rw [hfl, F.blks_app, F.blks_app]; rfl
  have hpl : (l0.app (.leaf eb hp y0 y1 .nil)).ptrs = fr.l.ptrs := by rw [hfl, F.ptrs_app, F.ptrs_app]; rfl
  have hll : (l0.app (.leaf eb hp y0 y1 .nil)).len = fr.l.len := by rw [hfl, F.len_app, F.len_app]; rfl
  have hcl : (l0.app (.leaf eb hp y0 y1 .nil)).cnt = fr.l.cnt := by rw [hfl, F.cnt_app, F.cnt_app]; rfl
  have hbe : frsB ({ fr with l := l0.app (.leaf eb hp y0 y1 .nil) } :: up) = frsB (fr :: up) := by simp only [frsB, Fr.blks, hbl]
  have hebl : eb ∈ fr.l.blks := by rw [hfl, F.blks_app]; simp [F.blks]
  simp only [frsB, Fr.blks, List.cons_append] at hn3
  have m1 := List.nodup_cons.1 hn3
  have m2 := List.nodup_cons.1 m1.2
  have m3 := List.nodup_append.1 m2.2
  have m4 := List.nodup_append.1 m3.1
  have hl0 : ∀ x ∈ l0.blks, x ∉ [eb, fr.kb, fr.b] := fun x hx hm => by
    have hxl : x ∈ fr.l.blks := by rw [hfl, F.blks_app]; simp [hx]
    simp only [List.mem_cons, List.not_mem_nil, or_false] at hm
    rcases hm with rfl | rfl | rfl
    · have := m4.1
      rw [hfl, F.blks_app] at this
      exact (List.nodup_append.1 this).2.2 x hx x (by simp [F.blks]) rfl
    · exact m2.1 (by simp [hxl])
    · exact m1.1 (by simp [hxl])
  have hr0 : ∀ x ∈ fr.r.blks, x ∉ [eb, fr.kb, fr.b] := fun x hx hm => by
    simp only [List.mem_cons, List.not_mem_nil, or_false] at hm
    rcases hm with rfl | rfl | rfl
    · exact m4.2.2 x hebl x hx rfl
    · exact m2.1 (by simp [hx])
    · exact m1.1 (by simp [hx])
  have hu0 : ∀ x ∈ frsB up, x ∉ [eb, fr.kb, fr.b] := fun x hx hm => by
    simp only [List.mem_cons, List.not_mem_nil, or_false] at hm
    rcases hm with rfl | rfl | rfl
    · exact m3.2.2 x (by simp [hebl]) x hx rfl
    · exact m2.1 (by simp [hx])
    · exact m1.1 (by simp [hx])
  have hlin : l0.In w := by
    have := hfr.2.2.1
    rw [hfl] at this
    exact (F.in_app.1 this).1
  have hFI : FrsIn X (F.nil).ptrs ({ fr with l := l0.app (.leaf eb hp y0 y1 .nil) } :: up) := by
    refine ⟨?_, ?_, F.in_app.2 ⟨hlin.only ho hl0, hE, trivial⟩, hfr.2.2.2.1.only ho hr0, hfr.2.2.2.2.only ho hu0⟩
    · show BN X fr.b (nodeC fr.kb ((l0.app (.leaf eb hp y0 y1 .nil)).len + 0 + fr.r.len) fr.cap fr.al)
      rw [hll]
      exact hP
    · show RowAt X fr.kb fr.cap ((l0.app (.leaf eb hp y0 y1 .nil)).ptrs ++ [] ++ fr.r.ptrs)
      rw [hpl, List.append_nil]
      exact hR
  have hrem := remake_at (w := X) (t0 := .nil) (frs := { fr with l := l0.app (.leaf eb hp y0 y1 .nil) } :: up) (g := g) (o := 1) (c := c) (D := frsB (fr :: up)) trivial trivial hFI
    (fun x hx => by
      rcases List.mem_cons.1 hx with rfl | hx
      · have := hfh fr (by simp)
        refine ⟨?_, this.2⟩
        have h3 := this.1
        rw [hfl] at h3
        exact F.has1_app.2 ⟨(F.has1_app.1 h3).1, trivial⟩
      · exact hfh x (by simp [hx]))
    (by rw [hbe]; exact (List.nodup_append.1 hnod2).2.1) (fun x hx => by rw [hbe] at hx; exact hx)
    (fun f2 r2 he => by
      injection he with e1 _
      subst e1
      show 1 ≤ (l0.app (.leaf eb hp y0 y1 .nil)).len + 0 + fr.r.len
      rw [F.len_app]
      simp [F.len]; omega)
    (by
      have := ok.few
      simp only [F.cnt, frsC, hcl] at hcnt ⊢
      omega)
    (by
      have h3 := frs_len up
      have h4 := ok.big
      have h5 := hperm.length_eq
      simp only [frsB, Fr.blks, List.length_append, List.length_cons] at h5 ⊢
      omega)
    hgX
    (fun hm => by
      have hm2 : g ∈ (fr :: up).map (·.b) := hm
      have := hlt _ (hfT _ (frs_mem _ hm2)); omega)
    (fun i f2 hi => by
      refine hcell i (pV f2.b) ?_
      rw [List.getElem?_map]
      cases i with
      | zero =>
        obtain rfl : { fr with l := l0.app (.leaf eb hp y0 y1 .nil) } = f2 := by simpa using hi
        rfl
      | succ i =>
        rw [List.getElem?_cons_succ] at hi ⊢
        rw [hi]
        rfl)
  rw [List.length_map]
  refine hrem.mono ?_
  rintro e w' ⟨rfl, T', hRem⟩
  refine ⟨rfl, ⟨T', hRem.tin, hRem.has1, by have := hRem.nod; simpa [frsB] using this, fun x hx => ?_, ?_, hRem.same, ?_⟩, ?_⟩
  · rcases hRem.dom x hx with h | h
    · exact .inl (hfT x h)
    · exact .inr (Nat.le_trans ho.size h)
  · rw [hptr]
    exact hRem.last
  · have h3 := hRem.few
    simp only [F.cnt, frsC, hcl] at h3 hcnt
    omega
  · refine (ho.mono fun x hx => ?_).trans (hRem.only.mono fun x hx => hfT x (frs_mem x hx))
    simp only [List.mem_cons, List.not_mem_nil, or_false] at hx
    rcases hx with rfl | rfl | rfl
    · exact hfT _ (by simp [frsB, Fr.blks, hebl])
    · exact hfT _ (by simp [frsB, Fr.blks])
    · exact hfT _ (by simp [frsB, Fr.blks])
end
end Go.Proofs.YtkanglfpiahecaaDoor.Lyt
