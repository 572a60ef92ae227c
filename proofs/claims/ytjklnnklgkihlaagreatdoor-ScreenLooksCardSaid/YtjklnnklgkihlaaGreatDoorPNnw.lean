/- A new screen. -/
import Derived.Test.YtjklnnklgkihlaaGreatDoorPad
import Derived.Test.YtjklnnklgkihlaaGreatDoorPaf
namespace Go.Proofs.YtjklnnklgkihlaaGreatDoor.Scr
open Go.RowKit Cel Sty Grd

/-- Of so many rows, as it begins. -/
def newP (rows : Nat) : ScP := ⟨newS, newS, newS, 9, 0, (rows : Int) - 1, ByteArray.empty, 0, 0⟩
def zeroSc : List Value := scL (.pointer none) (.pointer none) (.pointer none) (.slice none 0 0) ⟨⟨0, 0, false, (0, 0, 0), false, false, false, 0⟩, ⟨0, 0, false, (0, 0, 0), false, false, false, 0⟩, ⟨0, 0, false, (0, 0, 0), false, false, false, 0⟩, 0, 0, 0, ByteArray.empty, 0, 0⟩
theorem only_kept {F : List Nat} {a b : World} (h : Only F a b) : Kept a b (· ∈ F) := ⟨h.os, h.tape, h.output, h.size, h.block⟩
section
variable {ops : Array Oper} {o : Oper} {a : Act} {w : World} {Q : Exit → Act → World → Prop}
/-- A struct's values stored into a block known whole, as one step of a region that draws. -/
theorem step_store_bl {K : Act → World → Prop} {E : Prop} (hgd : o.guard = none) (ty : TypeId) (x y : Operand) (ho : o.op = .store ty x y) (g : Nat) (vs cur : List Value) (hx : a.eval x = .pointer (some ⟨g, 0, none⟩)) (hy : a.eval y = .agg vs.toArray)
    (t : TypeId) (hg : BL w g t cur) (hi : (Tryz.prog.info? ty).map (·.size) = some vs.length) (hl : vs.length = cur.length) (h1 : vs.toArray.all (·.oneCell') = true)
    (h : ∀ w1, BL w1 g t vs → Only [g] w w1 → K (a.put o.dst undef) w1) : if Region.wanted o (yielded ops a.tmps) = true then Oper.wp Tryz.prog o a w K Q else E := by
  have hw : Region.wanted o (yielded ops a.tmps) = true := by simp [Region.wanted, hgd]
  rw [if_pos hw]
  refine wp_store_mid ty x y ho g 0 vs.toArray hx hy (hg.there (by simp; omega)) (by simpa using hi) h1 ?_
  have hB := hg.setCells vs 0 (by omega)
  have hs : splice cur 0 vs = vs := by
    unfold splice
    simp [hl]
  rw [hs] at hB
  exact h _ hB (Wrote.setCells _ _ _ _).only
end
section
variable {w w' : World} {g : Nat} {F : List Nat} {c lim : Nat} {past rows : List Ro}
set_option maxRecDepth 100000 in
set_option maxHeartbeats 4000000 in
theorem asNew_at (h : GA w g F c lim past rows) :
    Calls Tryz.prog 39 #[ptrV g] w fun e w' => ∃ pb db tb, e = .returned (.agg (scL (ptrV pb) (ptrV g) (.pointer none) (.slice (some ⟨tb, 0, none⟩) c c) (newP rows.length)).toArray) ∧
      Vt.PAt w' w.heap.size pb db Vt.nilV Vt.nilV Vt.ps0 ∧ BL w' tb 4 (boolsV (tabsL c)) ∧ w.heap.size ≤ pb ∧ w.heap.size ≤ db ∧ w.heap.size ≤ tb ∧ pb ≠ tb ∧ db ≠ tb ∧ Below w.heap.size w w' := by
  have hbd := h.bd
  have hr2 := hbd.r2
  have hc2 := hbd.c2
  have hR := BL.new w 60 zeroSc
  have hb0 : Below w.heap.size w (w.alloc (.cells zeroSc.toArray 60)) := (Below.refl _ _).alloc (Nat.le_refl _) _
  have hns : ∀ V, Calls Tryz.prog 63 #[] V fun e w' => e = .returned (.agg #[.int .i64 0, .int .i64 0, .bool false, .int .i64 (-1), .int .i64 (-1), .int .i64 0, .bool false, .bool false, .bool false, .int .i64 0]) ∧ Below V.heap.size V w' := fun V => newState_any V
  have HH := Lib.hid h
  have HR := Lib.hid hR
  obtain ⟨r, hr⟩ : ∃ r, rows.length = r := ⟨_, rfl⟩
  have HRL := Lib.hid hr
  rw [hr] at hr2 ⊢
  have j1 : IntKind.i64.wrap ((r : Int) - 1) = (r : Int) - 1 := IntWalk.i64_in _ ⟨by omega, by omega⟩
  clear h hR hr hbd
  unfold ptrV
  go_enter Tryz.func39, Tryz.ntmps39
  go_upto_region 2 with (go_at_call 63; refine (hns _).mono ?_; rintro _ w1 ⟨rfl, hb1⟩)
  have hR1 := HR.out.only (F := []) (Only.of_below hb1) (by simp)
  have hs1 := hb1.size
  have hal : Below w1.heap.size w1 (w1.alloc (.cells #[.int .i64 0, .int .i64 0, .bool false, .int .i64 (-1), .int .i64 (-1), .int .i64 0, .bool false, .bool false, .bool false, .int .i64 0] 56)) := (Below.refl _ _).alloc (Nat.le_refl _) _
  have hL := BL.new w1 56 [.int .i64 0, .int .i64 0, .bool false, .int .i64 (-1), .int .i64 (-1), .int .i64 0, .bool false, .bool false, .bool false, .int .i64 0]
  have hRW := hR1.only (F := []) (Only.of_below hal) (by simp)
  have hbw := (hb0.trans (hb1.mono hb0.size)).trans (hal.mono (Nat.le_trans hb0.size hs1))
  have hs0 : w.heap.size + 1 ≤ w1.heap.size := Nat.le_trans (Nat.le_of_eq (size_alloc w _).symm) hs1
  have HL := Lib.hid hL
  have HRW := Lib.hid hRW
  have HBW := Lib.hid hbw
  have HZW : Hid ((w1.alloc (.cells #[.int .i64 0, .int .i64 0, .bool false, .int .i64 (-1), .int .i64 (-1), .int .i64 0, .bool false, .bool false, .bool false, .int .i64 0] 56)).heap.size = w1.heap.size + 1) := size_alloc _ _
  clear hns hR1 hal hL hRW hbw HR hb1 hb0
  have HG0 : Hid (GA (w1.alloc (.cells #[.int .i64 0, .int .i64 0, .bool false, .int .i64 (-1), .int .i64 (-1), .int .i64 0, .bool false, .bool false, .bool false, .int .i64 0] 56)) g F c lim past rows) := Lib.hid (HH.out.only (F := F) (K := []) (Only.of_below HBW.out) (fun _ _ h => by cases h))
  have hlx : w.heap.size + 2 ≤ (w1.alloc (.cells #[.int .i64 0, .int .i64 0, .bool false, .int .i64 (-1), .int .i64 (-1), .int .i64 0, .bool false, .bool false, .bool false, .int .i64 0] 56)).heap.size := by rw [HZW.out]; omega
  obtain ⟨lb, hlb⟩ : ∃ lb, w1.heap.size = lb := ⟨_, rfl⟩
  rw [hlb] at HL ⊢
  generalize w1.alloc (.cells #[.int .i64 0, .int .i64 0, .bool false, .int .i64 (-1), .int .i64 (-1), .int .i64 0, .bool false, .bool false, .bool false, .int .i64 0] 56) = V at *
  have hlV : lb < V.heap.size := by have := HZW.out; omega
  have hlw : w.heap.size + 1 ≤ lb := by omega
  have v0 : V.cell? ⟨lb, 0, none⟩ = some (.int .i64 0) := HL.out.cell 0
  have v1 : V.cell? ⟨lb, 1, none⟩ = some (.int .i64 0) := HL.out.cell 1
  have v2 : V.cell? ⟨lb, 2, none⟩ = some (.bool false) := HL.out.cell 2
  have v3 : V.cell? ⟨lb, 3, none⟩ = some (.int .i64 (-1)) := HL.out.cell 3
  have v4 : V.cell? ⟨lb, 4, none⟩ = some (.int .i64 (-1)) := HL.out.cell 4
  have v5 : V.cell? ⟨lb, 5, none⟩ = some (.int .i64 0) := HL.out.cell 5
  have v6 : V.cell? ⟨lb, 6, none⟩ = some (.bool false) := HL.out.cell 6
  have v7 : V.cell? ⟨lb, 7, none⟩ = some (.bool false) := HL.out.cell 7
  have v8 : V.cell? ⟨lb, 8, none⟩ = some (.bool false) := HL.out.cell 8
  have v9 : V.cell? ⟨lb, 9, none⟩ = some (.int .i64 0) := HL.out.cell 9
  clear hs1 hlb
  have kn : ∀ X, Only [] V X → Below X.heap.size X X → True := fun _ _ _ => trivial
  have SS : ∀ X, Only [] V X → X.cell? ⟨lb, 0, none⟩ = some (.int .i64 0) ∧ X.cell? ⟨lb, 1, none⟩ = some (.int .i64 0) ∧ X.cell? ⟨lb, 2, none⟩ = some (.bool false) ∧ X.cell? ⟨lb, 3, none⟩ = some (.int .i64 (-1)) ∧ X.cell? ⟨lb, 4, none⟩ = some (.int .i64 (-1)) ∧ X.cell? ⟨lb, 5, none⟩ = some (.int .i64 0) ∧ X.cell? ⟨lb, 6, none⟩ = some (.bool false) ∧ X.cell? ⟨lb, 7, none⟩ = some (.bool false) ∧ X.cell? ⟨lb, 8, none⟩ = some (.bool false) ∧ X.cell? ⟨lb, 9, none⟩ = some (.int .i64 0) ∧ Only [] V X := fun X h => by
    have B := HL.out.only (F := []) h (by simp)
    exact ⟨B.cell 0, B.cell 1, B.cell 2, B.cell 3, B.cell 4, B.cell 5, B.cell 6, B.cell 7, B.cell 8, B.cell 9, h⟩
  have ks0 : Only [] V V.drew := (Only.refl _ _).drew
  have kR : ∀ X, Only [] V X → Calls Tryz.prog 15 #[.pointer (some ⟨g, 0, none⟩)] X fun e X' => e = .returned (.int .i64 (r : Int)) ∧ X = X' := fun X h => by have := rows_ga (HG0.out.only (K := []) h (fun _ _ h => by cases h)); rw [HRL.out] at this; exact this
  have kC : ∀ X, Only [] V X → Calls Tryz.prog 14 #[.pointer (some ⟨g, 0, none⟩)] X fun e X' => e = .returned (.int .i64 (c : Int)) ∧ X = X' := fun X h => cols_ga (HG0.out.only (K := []) h (fun _ _ h => by cases h))
  have kN : ∀ X, Only [] V X → Calls Tryz.prog 64 #[] X fun e X' => ∃ pb db, e = .returned (.pointer (some ⟨pb, 0, none⟩)) ∧ Vt.PAt X' w.heap.size pb db Vt.nilV Vt.nilV Vt.ps0 ∧ Only [] V X' ∧ w.heap.size + 2 ≤ pb ∧ w.heap.size + 2 ≤ db ∧ pb < X'.heap.size ∧ db < X'.heap.size := fun X h => by
    have hz := h.size
    refine (Vt.new_any X w.heap.size (by omega)).mono ?_
    rintro e X' ⟨rfl, hP, hb, hz2⟩
    exact ⟨_, _, rfl, hP, h.trans (Only.of_below hb), by omega, by omega, by omega, by omega⟩
  have kT : ∀ X, Only [] V X → Calls Tryz.prog 65 #[.slice none 0 0, .int .i64 (c : Int)] X fun e X' => ∃ b, e = .returned (.slice (some ⟨b, 0, none⟩) c c) ∧ X.heap.size ≤ b ∧ BL X' b 4 (boolsV (tabsL c)) ∧ Below X.heap.size X X' ∧ Only [] V X' := fun X h => by
    refine (tabs_new c hc2 X).mono ?_
    rintro e X' ⟨b, rfl, h1, h2, h3⟩
    exact ⟨b, rfl, h1, h2, h3, h.trans (Only.of_below h3)⟩
  have HKN := Lib.hid kN
  have HKT := Lib.hid kT
  clear kN kT
  have HSS := Lib.hid SS
  have HKR := Lib.hid kR
  have HKC := Lib.hid kC
  clear SS kR kC kn
  have hNow : ∀ X, Only [] V X → X.cell? ⟨lb, 0, none⟩ = some (.int .i64 0) ∧ X.cell? ⟨lb, 1, none⟩ = some (.int .i64 0) ∧ X.cell? ⟨lb, 2, none⟩ = some (.bool false) ∧ X.cell? ⟨lb, 3, none⟩ = some (.int .i64 (-1)) ∧ X.cell? ⟨lb, 4, none⟩ = some (.int .i64 (-1)) ∧ X.cell? ⟨lb, 5, none⟩ = some (.int .i64 0) ∧ X.cell? ⟨lb, 6, none⟩ = some (.bool false) ∧ X.cell? ⟨lb, 7, none⟩ = some (.bool false) ∧ X.cell? ⟨lb, 8, none⟩ = some (.bool false) ∧ X.cell? ⟨lb, 9, none⟩ = some (.int .i64 0) ∧ True := fun X h => by
    have B := HL.out.only (F := []) h (by simp)
    exact ⟨B.cell 0, B.cell 1, B.cell 2, B.cell 3, B.cell 4, B.cell 5, B.cell 6, B.cell 7, B.cell 8, B.cell 9, trivial⟩
  have HNOW := Lib.hid hNow
  clear hNow
  refine wp_region_held_drew (S := fun X => X.cell? ⟨lb, 0, none⟩ = some (.int .i64 0) ∧ X.cell? ⟨lb, 1, none⟩ = some (.int .i64 0) ∧ X.cell? ⟨lb, 2, none⟩ = some (.bool false) ∧ X.cell? ⟨lb, 3, none⟩ = some (.int .i64 (-1)) ∧ X.cell? ⟨lb, 4, none⟩ = some (.int .i64 (-1)) ∧ X.cell? ⟨lb, 5, none⟩ = some (.int .i64 0) ∧ X.cell? ⟨lb, 6, none⟩ = some (.bool false) ∧ X.cell? ⟨lb, 7, none⟩ = some (.bool false) ∧ X.cell? ⟨lb, 8, none⟩ = some (.bool false) ∧ X.cell? ⟨lb, 9, none⟩ = some (.int .i64 0) ∧ True) (by kernel_rfl) (HNOW.out _ ks0) (fun hHeld => ?_)
  refine any_take (i := 1) (d := 6) (v := .pointer (some ⟨g, 0, none⟩)) rfl rfl (by kernel_rfl) (by kernel_rfl) (by kernel_rfl) (fun _ _ _ h => h) rfl ?_ (by assumption) ?_
  · intro X hX
    obtain ⟨_, _, _, _, _, _, _, _, _, _, _⟩ := hX
    go_simp
  simp only [Act.put, List.setIfInBounds_toArray, List.set_cons_zero, List.set_cons_succ]
  refine any_take (i := 6) (d := 11) (v := .pointer (some ⟨g, 0, none⟩)) rfl rfl (by kernel_rfl) (by kernel_rfl) (by kernel_rfl) (fun _ _ _ h => h) rfl ?_ (by assumption) ?_
  · intro X hX
    obtain ⟨_, _, _, _, _, _, _, _, _, _, _⟩ := hX
    go_simp
  simp only [Act.put, List.setIfInBounds_toArray, List.set_cons_zero, List.set_cons_succ]
  refine any_take (i := 9) (d := 14) (v := .pointer (some ⟨g, 0, none⟩)) rfl rfl (by kernel_rfl) (by kernel_rfl) (by kernel_rfl) (fun _ _ _ h => h) rfl ?_ (by assumption) ?_
  · intro X hX
    obtain ⟨_, _, _, _, _, _, _, _, _, _, _⟩ := hX
    go_simp
  simp only [Act.put, List.setIfInBounds_toArray, List.set_cons_zero, List.set_cons_succ]
  refine any_take (i := 2) (d := 7) (v := .agg #[.int .i64 0, .int .i64 0, .bool false, .int .i64 (-1), .int .i64 (-1), .int .i64 0, .bool false, .bool false, .bool false, .int .i64 0]) rfl rfl (by kernel_rfl) (by kernel_rfl) (by kernel_rfl) (fun _ _ _ h => h) rfl ?_ (by assumption) ?_
  · intro X hX
    obtain ⟨_, _, _, _, _, _, _, _, _, _, _⟩ := hX
    go_simp
  simp only [Act.put, List.setIfInBounds_toArray, List.set_cons_zero, List.set_cons_succ]
  refine any_take (i := 3) (d := 8) (v := .agg #[.int .i64 0, .int .i64 0, .bool false, .int .i64 (-1), .int .i64 (-1), .int .i64 0, .bool false, .bool false, .bool false, .int .i64 0]) rfl rfl (by kernel_rfl) (by kernel_rfl) (by kernel_rfl) (fun _ _ _ h => h) rfl ?_ (by assumption) ?_
  · intro X hX
    obtain ⟨_, _, _, _, _, _, _, _, _, _, _⟩ := hX
    go_simp
  simp only [Act.put, List.setIfInBounds_toArray, List.set_cons_zero, List.set_cons_succ]
  refine any_take (i := 4) (d := 9) (v := .agg #[.int .i64 0, .int .i64 0, .bool false, .int .i64 (-1), .int .i64 (-1), .int .i64 0, .bool false, .bool false, .bool false, .int .i64 0]) rfl rfl (by kernel_rfl) (by kernel_rfl) (by kernel_rfl) (fun _ _ _ h => h) rfl ?_ (by assumption) ?_
  · intro X hX
    obtain ⟨_, _, _, _, _, _, _, _, _, _, _⟩ := hX
    go_simp
  simp only [Act.put, List.setIfInBounds_toArray, List.set_cons_zero, List.set_cons_succ]
  refine any_take (i := 5) (d := 10) (v := .agg #[.int .i64 0, .int .i64 0, .bool false, .int .i64 (-1), .int .i64 (-1), .int .i64 0, .bool false, .bool false, .bool false, .int .i64 0, .int .i64 0, .int .i64 0, .bool false, .int .i64 (-1), .int .i64 (-1), .int .i64 0, .bool false, .bool false, .bool false, .int .i64 0]) rfl rfl (by kernel_rfl) (by kernel_rfl) (by kernel_rfl) (fun _ _ _ h => h) rfl ?_ (by assumption) ?_
  · intro X hX
    obtain ⟨_, _, _, _, _, _, _, _, _, _, _⟩ := hX
    go_simp
  simp only [Act.put, List.setIfInBounds_toArray, List.set_cons_zero, List.set_cons_succ]
  refine wpAnyH_ready (rs := [0]) (by kernel_rfl) (by simp) ?_
  refine AllReadyH.cons rfl (fun K hK => ?_) AllReadyH.nil
  go_simp
  refine (HKN.out _ ks0).mono ?_
  rintro _ w2 ⟨pb, db, rfl, hP2, ko2, hp1, hd1, hp2, hd2⟩
  go_wp2_with fail
  refine hK.out _ _ ?_ (fun hHeld => ?_)
  · exact HNOW.out _ ko2
  clear hK K
  refine wpAnyH_ready (rs := [7]) (by kernel_rfl) (by simp) ?_
  refine AllReadyH.cons rfl (fun K hK => ?_) AllReadyH.nil
  go_simp
  refine (HKR.out _ ko2).mono ?_
  rintro _ _ ⟨rfl, rfl⟩
  go_wp2_with fail
  refine hK.out _ _ ?_ (fun hHeld => ?_)
  · exact HNOW.out _ ko2
  clear hK K
  refine any_take (i := 8) (d := 13) (v := .int .i64 ((r : Int) - 1)) rfl rfl (by kernel_rfl) (by kernel_rfl) (by kernel_rfl) (fun _ _ _ h => h) rfl ?_ (by assumption) ?_
  · intro X hX
    obtain ⟨_, _, _, _, _, _, _, _, _, _, _⟩ := hX
    go_simp
  simp only [Act.put, List.setIfInBounds_toArray, List.set_cons_zero, List.set_cons_succ]
  refine wpAnyH_ready (rs := [10]) (by kernel_rfl) (by simp) ?_
  refine AllReadyH.cons rfl (fun K hK => ?_) AllReadyH.nil
  go_simp
  refine (HKC.out _ ko2).mono ?_
  rintro _ _ ⟨rfl, rfl⟩
  go_wp2_with fail
  refine hK.out _ _ ?_ (fun hHeld => ?_)
  · exact HNOW.out _ ko2
  clear hK K
  refine wpAnyH_ready (rs := [11]) (by kernel_rfl) (by simp) ?_
  refine AllReadyH.cons rfl (fun K hK => ?_) AllReadyH.nil
  go_simp
  refine (HKT.out _ ko2).mono ?_
  rintro _ w5 ⟨tb, rfl, ht5, hT5, hb5, ko5⟩
  go_wp2_with fail
  refine hK.out _ _ ?_ (fun hHeld => ?_)
  · exact HNOW.out _ ko5
  clear hK K
  refine any_take (i := 12) (d := 17) (v := .agg #[.pointer (some ⟨pb, 0, none⟩), .pointer (some ⟨g, 0, none⟩), .pointer none, .int .i64 0, .int .i64 0, .bool false, .int .i64 (-1), .int .i64 (-1), .int .i64 0, .bool false, .bool false, .bool false, .int .i64 0, .int .i64 0, .int .i64 0, .bool false, .int .i64 (-1), .int .i64 (-1), .int .i64 0, .bool false, .bool false, .bool false, .int .i64 0, .int .i64 0, .int .i64 0, .bool false, .int .i64 (-1), .int .i64 (-1), .int .i64 0, .bool false, .bool false, .bool false, .int .i64 0, .int .i64 9, .int .i64 0, .int .i64 ((r : Int) - 1), .slice (some ⟨tb, 0, none⟩) c c, .string ByteArray.empty, .int .i32 0, .int .i64 0]) rfl rfl (by kernel_rfl) (by kernel_rfl) (by kernel_rfl) (fun _ _ _ h => h) rfl ?_ (by assumption) ?_
  · intro X hX
    obtain ⟨_, _, _, _, _, _, _, _, _, _, _⟩ := hX
    go_simp
    rfl
  simp only [Act.put, List.setIfInBounds_toArray, List.set_cons_zero, List.set_cons_succ]
  have hR5 := HRW.out.only (F := []) ko5 (by simp)
  refine wpAnyH_ready (rs := [13]) (by kernel_rfl) (by simp) ?_
  refine AllReadyH.cons rfl (fun K hK => ?_) AllReadyH.nil
  refine step_store_bl rfl 60 (.tmp 2) (.tmp 17) rfl w.heap.size [.pointer (some ⟨pb, 0, none⟩), .pointer (some ⟨g, 0, none⟩), .pointer none, .int .i64 0, .int .i64 0, .bool false, .int .i64 (-1), .int .i64 (-1), .int .i64 0, .bool false, .bool false, .bool false, .int .i64 0, .int .i64 0, .int .i64 0, .bool false, .int .i64 (-1), .int .i64 (-1), .int .i64 0, .bool false, .bool false, .bool false, .int .i64 0, .int .i64 0, .int .i64 0, .bool false, .int .i64 (-1), .int .i64 (-1), .int .i64 0, .bool false, .bool false, .bool false, .int .i64 0, .int .i64 9, .int .i64 0, .int .i64 ((r : Int) - 1), .slice (some ⟨tb, 0, none⟩) c c, .string ByteArray.empty, .int .i32 0, .int .i64 0] zeroSc (by go_simp) (by go_simp) 60 hR5 (by kernel_rfl) rfl (by kernel_rfl) ?_
  intro w6 hB6 ho6
  refine hK.out _ _ ?_ (fun hHeld => ?_)
  · have B := (HL.out.only (F := []) ko5 (by simp)).only ho6 (by simp; omega)
    exact ⟨B.cell 0, B.cell 1, B.cell 2, B.cell 3, B.cell 4, B.cell 5, B.cell 6, B.cell 7, B.cell 8, B.cell 9, trivial⟩
  clear hK K
  refine wpAnyH_done (by kernel_rfl) ?_ _
  go_wp2_with fail
  have s25 := hb5.size
  have hPk := (hP2.keep (Cel.below_kept hb5 fun _ => False) (fun _ _ h => h)).keep (only_kept ho6) (fun i hi hp => by
    simp at hp
    rcases hi with h1 | h1 | h1 | h1
    · omega
    · omega
    · exact absurd h1 (by simp [Value.ownBlock])
    · exact absurd h1 (by simp [Value.ownBlock]))
  have hBW := (HBW.out.trans (ko5.below (by omega) (by simp))).trans (ho6.below (by have := ko5.size; omega) (by simp))
  exact bodyPost_ret (v := .agg (scL (ptrV pb) (ptrV g) (.pointer none) (.slice (some ⟨tb, 0, none⟩) c c) (newP r)).toArray) (results_cell (p := 2) (by kernel_rfl) _ _ w.heap.size _ _ _ _ rfl hB6 Tryz.underlying60 rfl (by kernel_rfl)) rfl ⟨pb, db, tb, rfl, hPk, hT5.only ho6 (by simp; omega), by omega, by omega, by omega, by omega, by omega, hBW⟩
end
end Go.Proofs.YtjklnnklgkihlaaGreatDoor.Scr
