/- So many rows, out of a table that there is. -/
import Derived.Test.YtgjlohplgpcghaaDoorGbu
import Derived.Deep.RegionHeld3
import Derived.Deep.AppendLies
namespace Go.Proofs.YtgjlohplgpcghaaDoor.Grd
open Go.RowKit

set_option maxRecDepth 100000 in
set_option maxHeartbeats 1000000 in
theorem filled_rows {w : World} {p off c : Nat} {pre tail : List Value} {ms : List MR} (hB : BL w p 73 (pre ++ rowsL ms ++ tail)) (hpre : pre.length = 2 * off) (cols n : Nat) (hn1 : 1 ≤ n) (hn : n ≤ 1000) (hc : cols ≤ 1000000) :
    Calls Tryd.prog 48 #[.slice (some ⟨p, 2 * off, none⟩) ms.length c, .int .i64 (cols : Int), .int .i64 (n : Int)] w fun e w' => ∃ g new, e = .returned (.slice (some ⟨g, 0, none⟩) n n) ∧ w.heap.size ≤ g ∧ new.length = n - ms.length ∧
      BL w' g 73 (rowsL (ms.take n ++ new)) ∧ Held w' new ∧ Alike (g + 1) (List.replicate cols plainCe) new ∧ Below w.heap.size w w' := by
  obtain ⟨k, hk⟩ : ∃ k, ms.length = k := ⟨_, rfl⟩
  obtain ⟨h, hh⟩ : ∃ h, Nat.min k n = h := ⟨_, rfl⟩
  have hh2 : (k ≤ n ∧ h = k) ∨ (n < k ∧ h = n) := by
    rcases Nat.le_total k n with e | e
    · exact .inl ⟨e, by rw [← hh]; exact Nat.min_eq_left e⟩
    · rcases Nat.lt_or_ge n k with e2 | e2
      · exact .inr ⟨e2, by rw [← hh]; exact Nat.min_eq_right e⟩
      · exact .inl ⟨e2, by rw [← hh]; exact Nat.min_eq_left e2⟩
  have hcl : (rowsL (ms.take n)).length = h * 2 := by rw [rowsL_len, List.length_take, hk]; omega
  have hone := one_rows (ms.take n)
  have hsrc : ∀ V : World, BL V p 73 (pre ++ rowsL ms ++ tail) → ∀ j u, (rowsL (ms.take n))[j]? = some u → V.cell? ((⟨p, 2 * off, none⟩ : Addr).add j) = some u := fun V hV j u hj => by
    have hj2 := (List.getElem?_eq_some_iff.1 hj).1
    have hr := rowsL_len ms
    rw [rowsL_take, List.getElem?_take] at hj
    split at hj
    · rw [Addr.add_mid, hV.cell, List.append_assoc, List.getElem?_append_right (by omega), hpre, show 2 * off + j - 2 * off = j by omega, List.getElem?_append_left (List.getElem?_eq_some_iff.1 hj).1]
      exact hj
    · cases hj
  rw [hk]
  have HF : Hid (∀ new : List MR, new.length = n - k → splice (splice (List.replicate n rowV0).flatten 0 (rowsL (ms.take n))) (2 * h) (rowsL new) = rowsL (ms.take n ++ new)) := fun new hnew => by
    have h1 := rowsL_len new
    have h2 := splice_full (xs := (List.replicate n rowV0).flatten) (us := rowsL (ms.take n)) (vs := rowsL new) (by rw [rowV0_len, h1, hcl, hnew]; omega)
    rw [hcl, show h * 2 = 2 * h by omega] at h2
    rw [h2, rowsL_app]
  generalize rowsL (ms.take n) = cs at *
  have hzl := rowV0_len n
  have i0 : (0 : Int) ≤ (h : Int) := Int.natCast_nonneg _
  have i1 : (h : Int) ≤ (n : Int) := by omega
  clear hpre hk
  by_cases hhn : h = n
  · subst hhn
    have hnk : h - k = 0 := by omega
    go_enter Tryd.func48, Tryd.ntmps48
    go_wp2_with (first
      | (refine wpList_make_rep rfl (.tmp 9) (.tmp 9) 68 73 rfl Tryd.underlying68 _ 2 32 info_row rfl h rfl rfl (by omega) (by omega) ?_; intro w1 hm hb1 hs1; have hB1 := hB.only (F := []) (Only.of_below hb1) (by simp))
      | (refine wpList_copy_wide rfl (.tmp 11) (.tmp 12) 68 68 rfl 73 2 Tryd.underlying68 (by kernel_rfl) w.heap.size 0 h h ⟨p, 2 * off, none⟩ k c rfl rfl (List.replicate h rowV0).flatten 73 hm cs (by rw [hcl, hh]) (hsrc _ hB1) (by rw [hcl]; omega) hone ?_; intro w2 hm2 hw2; rw [hh]))
    have ho2 := hw2.2 [w.heap.size] w (Only.of_below hb1) (.inl (by simp))
    have hmd : BL w2.drew w.heap.size 73 (splice (List.replicate h rowV0).flatten 0 cs) := hm2
    have hod : Only [w.heap.size] w w2.drew := ho2.drew
    have hsl : (splice (List.replicate h rowV0).flatten 0 cs).length = 2 * h := by rw [splice_len (by omega), hzl]
    have hs2 : w.heap.size + 1 ≤ w2.drew.heap.size := by show _ ≤ w2.heap.size; rw [hw2.1]; omega
    clear hm hm2 hb1 hs1 hB1 hB hw2 ho2 hsrc
    go_region_with (first
      | (go_at_call 67; refine (plain_any _).mono ?_; rintro _ w3 ⟨rfl, hb3⟩; have hm3 := hmd.only (F := []) (Only.of_below hb3) (by simp); have hw3 := hod.trans (Only.of_below hb3); have hs3 := hb3.size)
      | (go_at_call 43; refine (lay_any w.heap.size 0 0 0 cols _ _ _ _ _ hm3 (by omega) (by omega) hc).mono ?_; rintro _ w4 ⟨rfl, new, hnew, hB4, hH4, hK4, ho4⟩))
    all_goals go_wp2_with fail
    all_goals
      have hnew2 : new = [] := List.eq_nil_of_length_eq_zero hnew
      subst hnew2
      have hx := HF.out [] (by rw [hnk]; rfl)
      rw [show rowsL ([] : List MR) = [] from rfl, splice_nil] at hx
      rw [show rowsL ([] : List MR) = [] from rfl, splice_nil, hx] at hB4
      go_ret
      exact ⟨_, [], rfl, Nat.le_refl _, hnk.symm, hB4, hH4, (fun m hm => by cases hm), (hw3.trans ho4).below (Nat.le_refl _) (by simp)⟩
  · have cd : ¬ n = h := fun e => hhn e.symm
    go_enter Tryd.func48, Tryd.ntmps48
    go_wp2_with (first
      | (refine wpList_make_rep rfl (.tmp 9) (.tmp 9) 68 73 rfl Tryd.underlying68 _ 2 32 info_row rfl n rfl rfl (by omega) (by omega) ?_; intro w1 hm hb1 hs1; have hB1 := hB.only (F := []) (Only.of_below hb1) (by simp))
      | (refine wpList_copy_wide rfl (.tmp 11) (.tmp 12) 68 68 rfl 73 2 Tryd.underlying68 (by kernel_rfl) w.heap.size 0 n n ⟨p, 2 * off, none⟩ k c rfl rfl (List.replicate n rowV0).flatten 73 hm cs (by rw [hcl, hh]) (hsrc _ hB1) (by rw [hcl]; omega) hone ?_; intro w2 hm2 hw2; rw [hh]))
    have ho2 := hw2.2 [w.heap.size] w (Only.of_below hb1) (.inl (by simp))
    have hmd : BL w2.drew w.heap.size 73 (splice (List.replicate n rowV0).flatten 0 cs) := hm2
    have hod : Only [w.heap.size] w w2.drew := ho2.drew
    have hsl : (splice (List.replicate n rowV0).flatten 0 cs).length = 2 * n := by rw [splice_len (by omega), hzl]
    have hs2 : w.heap.size + 1 ≤ w2.drew.heap.size := by show _ ≤ w2.heap.size; rw [hw2.1]; omega
    clear hm hm2 hb1 hs1 hB1 hB hw2 ho2 hsrc
    go_region_with (first
      | (go_at_call 67; refine (plain_any _).mono ?_; rintro _ w3 ⟨rfl, hb3⟩; have hm3 := hmd.only (F := []) (Only.of_below hb3) (by simp); have hw3 := hod.trans (Only.of_below hb3); have hs3 := hb3.size)
      | (go_at_call 43; rw [Nat.mul_comm h 2]; refine (lay_any w.heap.size h (n - h) (n - h) cols _ _ _ _ _ hm3 (by omega) (by omega) hc).mono ?_; rintro _ w4 ⟨rfl, new, hnew, hB4, hH4, hK4, ho4⟩))
    all_goals go_wp2_with fail
    all_goals
      have hnew2 : new.length = n - k := by omega
      rw [HF.out new hnew2] at hB4
      go_ret
      exact ⟨_, new, rfl, Nat.le_refl _, hnew2, hB4, hH4, (fun m hm => ⟨(hK4 m hm).1, (hK4 m hm).2.1, by have := (hK4 m hm).2.2; omega⟩), (hw3.trans ho4).below (Nat.le_refl _) (by simp)⟩
end Go.Proofs.YtgjlohplgpcghaaDoor.Grd
/- A flow in memory: its last row. -/
namespace Go.Proofs.YtgjlohplgpcghaaDoor.Grd
open Go.RowKit

/-- What flows: the rows so far, the column that comes next, the place. -/
structure FL where
  cols : Nat
  rows : List MR
  next : Nat
  px : Int
  py : Int
structure FlowAt (w : World) (f : Nat) (tv : Value) (ft : List Nat) (L : FL) : Prop where
  blk : BL w f 105 [.int .i64 (L.cols : Int), tv, .int .i64 (L.next : Int), .int .i64 L.px, .int .i64 L.py]
  tab : TabAt w tv L.rows ft
  held : Held w L.rows
  apart : f ∉ ft
  far : ∀ m ∈ L.rows, m.b ≠ f ∧ m.b ∉ ft
  cells : ∀ m ∈ L.rows, m.l.length = L.cols
  c1 : 1 ≤ L.cols
  c2 : L.cols ≤ 250
  n2 : L.next ≤ L.cols
  r2 : L.rows.length ≤ 900000
theorem FlowAt.only {w w' : World} {f : Nat} {tv : Value} {ft F : List Nat} {L : FL} (h : FlowAt w f tv ft L) (ho : Only F w w') (hf : f ∉ F) (ht : ∀ x ∈ ft, x ∉ F) (hm : ∀ m ∈ L.rows, m.b ∉ F) : FlowAt w' f tv ft L :=
  ⟨h.blk.only ho hf, h.tab.only ho ht, h.held.only ho hm, h.apart, h.far, h.cells, h.c1, h.c2, h.n2, h.r2⟩

set_option maxRecDepth 100000 in
/-- The flow's last row, where its table lies. -/
theorem last_any {w : World} {f p off c n : Nat} {L : FL} (hf : BL w f 105 [.int .i64 (L.cols : Int), slV p (2 * off) (n + 1) c, .int .i64 (L.next : Int), .int .i64 L.px, .int .i64 L.py]) (hn2 : n ≤ 900000) :
    Calls Tryd.prog 80 #[.pointer (some ⟨f, 0, none⟩)] w fun e w' => e = .returned (.pointer (some ⟨p, 2 * (off + n), none⟩)) ∧ Below w.heap.size w w' := by
  have f1 : w.cell? ⟨f, 1, none⟩ = some (slV p (2 * off) (n + 1) c) := hf.cell 1
  have i1 : IntKind.i64.wrap ((n : Int) + 1 - 1) = (n : Int) := by rw [show (n : Int) + 1 - 1 = (n : Int) by omega]; exact IntWalk.i64_in _ ⟨by omega, by omega⟩
  have i2 : (n : Int) < (n : Int) + 1 := by omega
  have i0 : (0 : Int) ≤ (n : Int) := Int.natCast_nonneg _
  go_enter Tryd.func80, Tryd.ntmps80
  go_wp2_with fail
  go_region
  all_goals go_wp2_with fail
  all_goals
    go_ret
    refine ⟨?_, (Below.refl _ _).drew⟩
    rw [show 2 * off + n * 2 = 2 * (off + n) by omega]
    rfl
end Go.Proofs.YtgjlohplgpcghaaDoor.Grd
/- A flow begins a row. -/
namespace Go.Proofs.YtgjlohplgpcghaaDoor.Grd
open Go.RowKit

theorem step_append_rows {ops : Array Oper} {o : Oper} {a : Act} {w : World} {K : Act → World → Prop} {Q : Exit → Act → World → Prop} {E : Prop} (hgd : o.guard = none) (s x : Operand) (ho : o.op = .call { callee := .builtin .append, args := #[s, x], argTypes := #[68, 68] })
    (pv : Value) (past : List MR) (fp : List Nat) (hs : a.eval s = pv) (ht : TabAt w pv past fp) (ad : Addr) (c : Nat) (new : List MR) (hx : a.eval x = .slice (some ad) new.length c) (h0 : 0 < new.length) (hnews : ∀ j u, (rowsL new)[j]? = some u → w.cell? (ad.add j) = some u) (hl : past.length + new.length ≤ 1000000)
    (h : ∀ v' w' fp', TabAt w' v' (past ++ new) fp' → (∀ x ∈ fp', x ∈ fp ∨ w.heap.size ≤ x) → Only fp w w' → K (a.put o.dst v') w') :
    if Region.wanted o (yielded ops a.tmps) = true then Oper.wp Tryd.prog o a w K Q else E := by
  have hw : Region.wanted o (yielded ops a.tmps) = true := by simp [Region.wanted, hgd]
  rw [if_pos hw]
  obtain ⟨v', w', fp', hrun, h1, h2, h3⟩ := append_rows w ht o.type ad c new h0 hnews hl
  have hk := h v' w' fp' h1 h2 h3
  unfold Oper.wp
  simp [execOp, ho, resolve, invoke, builtin, hs, hx, hrun, Result.andThen]
  exact hk

set_option maxRecDepth 100000 in
set_option maxHeartbeats 1000000 in
theorem begin_any {w : World} {f : Nat} {tv : Value} {ft : List Nat} {L : FL} (h : FlowAt w f tv ft L) (hr : L.rows.length + 1 ≤ 900000) :
    Calls Tryd.prog 77 #[.pointer (some ⟨f, 0, none⟩)] w fun e w' => e = .returned (.tuple #[]) ∧
      ∃ tv' ft' m, m.l = List.replicate L.cols plainCe ∧ m.wr = false ∧ w.heap.size ≤ m.b ∧ FlowAt w' f tv' ft' ⟨L.cols, L.rows ++ [m], 0, L.px, L.py⟩ ∧ (∀ x ∈ ft', x ∈ ft ∨ w.heap.size ≤ x) ∧ Only (f :: ft) w w' := by
  have f0 : w.cell? ⟨f, 0, none⟩ = some (.int .i64 (L.cols : Int)) := h.blk.cell 0
  have f1 : w.cell? ⟨f, 1, none⟩ = some tv := h.blk.cell 1
  have hc2 := h.c2
  have HG := Lib.hid h
  have hfl := h.blk.lt
  have hf0 : BL w.drew f 105 [.int .i64 (L.cols : Int), tv, .int .i64 (L.next : Int), .int .i64 L.px, .int .i64 L.py] := h.blk
  have ht0 : TabAt w.drew tv L.rows ft := h.tab.only (F := ft) (G := []) ((Only.refl [] w).drew) (by simp)
  have kb := blankRow_any
  have hap := h.apart
  have hmr : ∀ b, rowsL [⟨b, L.cols, List.replicate L.cols plainCe, false⟩] = [slV b 0 L.cols L.cols, .bool false] := fun b => by simp [rowsL, mrL]
  have hcm : L.cols ≤ 1000000 := by omega
  have HF : Hid (∀ (w' : World) (tv' : Value) (ft' : List Nat) (b : Nat), BL w' f 105 [.int .i64 (L.cols : Int), tv', .int .i64 0, .int .i64 L.px, .int .i64 L.py] → TabAt w' tv' (L.rows ++ [⟨b, L.cols, List.replicate L.cols plainCe, false⟩]) ft' → CellsAt w' b (List.replicate L.cols plainCe) L.cols → w.heap.size ≤ b → (∀ x ∈ ft', x ∈ ft ∨ w.heap.size ≤ x) → b ∉ ft' → Only (f :: ft) w w' → FlowAt w' f tv' ft' ⟨L.cols, L.rows ++ [⟨b, L.cols, List.replicate L.cols plainCe, false⟩], 0, L.px, L.py⟩) := fun w' tv' ft' b hb ht hC hbs hfx hbf ho => by
    have hold : ∀ m ∈ L.rows, m.b < w.heap.size := fun m hm => h.held.lt hm
    have hh := h.held.only ho (fun m hm => by have := h.far m hm; simp only [List.mem_cons, not_or]; exact ⟨this.1, this.2⟩)
    refine ⟨hb, ht, Held.snoc hh hC (fun x hx => by have := hold x hx; show x.b ≠ b; omega), (fun x => by rcases hfx f x with y | y; exact h.apart y; omega), (fun m hm => ?_), (fun m hm => ?_), h.c1, h.c2, Nat.zero_le _, ?_⟩
    · rw [List.mem_append, List.mem_singleton] at hm
      rcases hm with hm | rfl
      · refine ⟨(h.far m hm).1, fun x => ?_⟩
        rcases hfx _ x with y | y
        · exact (h.far m hm).2 y
        · have := hold m hm; omega
      · exact ⟨by show b ≠ f; omega, hbf⟩
    · rw [List.mem_append, List.mem_singleton] at hm
      rcases hm with hm | rfl
      · exact h.cells m hm
      · exact List.length_replicate
    · rw [List.length_append]; exact hr
  have hTL := h.tab.lt
  go_enter Tryd.func77, Tryd.ntmps77
  go_wp2_with fail
  go_region_law
    (first
      | (refine step_append_rows rfl (.tmp 6) (.tmp 13) rfl tv L.rows ft rfl (ht2.only (G := []) ((Only.refl [] w2).alloc _) (by simp)) ⟨w2.heap.size, 0, none⟩ 1 [⟨b, L.cols, List.replicate L.cols plainCe, false⟩] rfl (by simp) (fun j u hu => World.news_of_block (cs := #[slV b 0 L.cols L.cols, .bool false]) (t := 73) (fr := (0, 0)) (heap_alloc_new w2 _) j u (by rw [← hmr b]; exact hu)) (by simp; omega) ?_; intro tv3 w3 ft3 ht3 hft3 ho3; have hf3 := (hf2.alloc _).only ho3 hap; have x1 : w3.cell? ⟨f, 1, none⟩ = some tv := hf3.cell 1; have x2 : w3.frozen? ⟨f, 1, none⟩ = false := hf3.frozen 1; have ht4 := ht3; obtain ⟨p, off, c1, pre, tail, rfl, hc1, hc2, hpre, htl, hB1, rfl⟩ := ht3.resolve_left (fun e => by have := congrArg List.length e.2.1; simp at this))
      | (go_simp; go_at_call 67; refine (plain_any _).mono ?_; rintro _ w1 ⟨rfl, hb1⟩; have hf1 := hf0.only (F := []) (Only.of_below hb1) (by simp); have y0 : w1.cell? ⟨f, 0, none⟩ = some (.int .i64 (L.cols : Int)) := hf1.cell 0; have y1 : w1.cell? ⟨f, 1, none⟩ = some tv := hf1.cell 1; have ht1 := ht0.only (G := []) (Only.of_below hb1) (by simp))
      | (go_simp; go_at_call 61; refine (kb L.cols _ _ _ _ hcm).mono ?_; rintro _ w2 ⟨b, rfl, hb, hC2, hb2⟩; have hf2 := hf1.only (F := []) (Only.of_below hb2) (by simp); have z0 : w2.cell? ⟨f, 0, none⟩ = some (.int .i64 (L.cols : Int)) := hf2.cell 0; have z1 : w2.cell? ⟨f, 1, none⟩ = some tv := hf2.cell 1; have z2 : (w2.alloc (.cells #[slV b 0 L.cols L.cols, .bool false] 73)).cell? ⟨f, 1, none⟩ = some tv := (hf2.alloc _).cell 1; have ht2 := ht1.only (G := []) (Only.of_below hb2) (by simp)))
  all_goals
    have hf4 := hf3.set_ 1 (slV p (2 * off) (L.rows ++ [(⟨b, L.cols, List.replicate L.cols plainCe, false⟩ : MR)]).length c1)
    rw [show (L.rows ++ [(⟨b, L.cols, List.replicate L.cols plainCe, false⟩ : MR)]).length = L.rows.length + 1 from List.length_append] at hf4 ht4
    have u1 : (w3.setCell ⟨f, 1, none⟩ (slV p (2 * off) (L.rows.length + 1) c1)).cell? ⟨f, 2, none⟩ = some (.int .i64 (L.next : Int)) := hf4.cell 2
    have u2 := hf4.frozen 2
    have z3 : w.heap.size ≤ w1.heap.size := hb1.size
    have z4 : w.heap.size ≤ w2.heap.size := Nat.le_trans z3 hb2.size
    have hbl := hC2.lt
    have hbw : w.heap.size ≤ b := Nat.le_trans z3 hb
    have hft5 : ∀ x ∈ [p], x ∈ ft ∨ w.heap.size ≤ x := fun x hx => (hft3 x hx).imp id (fun y => by rw [size_alloc] at y; omega)
    have hbp : b ∉ [p] := fun x => by
      rcases hft3 b x with y | y
      · have := hTL b y; omega
      · rw [size_alloc] at y; omega
    have hpf : f ∉ [p] := fun x => by
      rcases hft3 f x with y | y
      · exact hap y
      · rw [size_alloc] at y; omega
    have hbft : b ∉ ft := fun y => by have := hTL b y; omega
    have hC3 := (hC2.alloc _).only ho3 hbft
    have ho4 := ((((Only.refl (f :: ft) w).drew.trans (Only.of_below hb1)).trans (Only.of_below hb2)).alloc _).trans (ho3.mono (G := f :: ft) (fun x hx => by simp [hx]))
    clear hf0 hf1 hf2 hf3 ht0 ht1 ht2 y0 y1 z0 z1 z2 x1 x2 f0 f1 hB1 h HG
    go_wp2_with fail
    have hof := ((Only.refl [f] w3).setCell (p := ⟨f, 1, none⟩) (.inl (by simp)) (slV p (2 * off) (L.rows.length + 1) c1)).setCell (p := ⟨f, 2, none⟩) (.inl (by simp)) (.int .i64 0)
    have ho5 := (ho4.setCell (p := ⟨f, 1, none⟩) (.inl (by simp)) (slV p (2 * off) (L.rows.length + 1) c1)).setCell (p := ⟨f, 2, none⟩) (.inl (by simp)) (.int .i64 0)
    have hC5 := hC3.only hof (by simp; omega)
    have hT5 := ht4.only hof (fun x hx => by rw [List.mem_singleton] at hx ⊢; rintro rfl; exact hpf (by rw [hx]; simp))
    have hB5 := hf4.set_ 2 (.int .i64 0)
    exact body_end rfl rfl ⟨rfl, _, [p], ⟨b, L.cols, List.replicate L.cols plainCe, false⟩, rfl, rfl, hbw, HF.out _ _ _ b hB5 hT5 hC5 hbw hft5 hbp ho5, hft5, ho5⟩
end Go.Proofs.YtgjlohplgpcghaaDoor.Grd
