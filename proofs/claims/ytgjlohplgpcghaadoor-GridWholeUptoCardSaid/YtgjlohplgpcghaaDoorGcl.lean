/- A row's cells, copied. -/
import Derived.Test.YtgjlohplgpcghaaDoorGgr
import Derived.Deep.DeepAppendWide
namespace Go.Proofs.YtgjlohplgpcghaaDoor.Grd
open Go.RowKit

theorem one_flat (l : List Ce) : ∀ u ∈ flat l, u.oneCell' = true := by
  intro u hu
  unfold flat at hu
  obtain ⟨c, _, hc⟩ := List.mem_flatMap.1 hu
  unfold ceL stL at hc
  simp only [List.mem_cons, List.not_mem_nil, or_false] at hc
  rcases hc with rfl | rfl | rfl | rfl | rfl <;> rfl
theorem CellsAt.all {w : World} {b cap : Nat} {l : List Ce} (h : CellsAt w b l cap) (j : Nat) (u : Value) (hj : (flat l)[j]? = some u) : w.cell? ((⟨b, 0, none⟩ : Addr).add j) = some u := by
  obtain ⟨_, tail, _, h3⟩ := h
  rw [Addr.add_mid, Nat.zero_add, h3.cell, List.getElem?_append_left (List.getElem?_eq_some_iff.1 hj).1]
  exact hj
section
variable {ops : Array Oper} {rest : List Oper} {op : Oper} {a : Act} {w : World} {Q : Exit → Act → World → Prop}
/-- Cells appended to nothing. -/
theorem wpList_append_new (hgd : op.guard = none) (s x : Operand) (ho : op.op = .call { callee := .builtin .append, args := #[s, x], argTypes := #[62, 62] })
    (base : Nat) (hb0 : base ≤ w.heap.size) (v : Value) (hs : a.eval s = v) (hown : w.ownsRow base 35 5 v 0 []) (b c cap : Nat) (l : List Ce) (hx : a.eval x = .slice (some ⟨b, 0, none⟩) l.length c) (hc : CellsAt w b l cap) (h0 : 0 < l.length) (hl : l.length ≤ 1000000)
    (h : ∀ g cap' w1, CellsAt w1 g l cap' → cap' ≤ maxLen → base ≤ g → Below base w w1 → wpList Tryd.prog ops Q rest (a.put op.dst (.slice (some ⟨g, 0, none⟩) l.length cap')) w1) : wpList Tryd.prog ops Q (op :: rest) a w := by
  have hi := info_cell
  cases hq : Tryd.prog.info? 35 with
  | none => rw [hq] at hi; cases hi
  | some i =>
    rw [hq] at hi
    simp only [Option.map_some, Option.some.injEq, Prod.mk.injEq] at hi
    obtain ⟨hz, hsz, hby⟩ := hi
    refine wpList_append_own_wide w hgd s x 62 ho base 35 i _ 5 40 Tryd.underlying62 hq hz hsz hby rfl (by omega) v 0 [] hs hown ⟨b, 0, none⟩ l.length c (flat l) hx (by rw [flat_len]; omega) hc.all (one_flat l) (by have : maxLen = 9223372036854775807 := rfl; omega) (by omega) hb0 ?_
    intro v' w' hown' hgr _
    rw [Nat.zero_add, List.nil_append] at hown'
    obtain ⟨h1, h2⟩ := hown'
    rcases h2 with ⟨_, h3⟩ | ⟨g, cap', cur, rfl, h4, h5, h6, h7, h8, h9⟩
    · omega
    · refine h g cap' w' ⟨h6, cur.toList.drop (l.length * 5), ?_, ?_⟩ h7 h4 ((Below.refl base w).grown hgr hb0 fun k hk => ?_)
      · rw [List.length_drop, Array.length_toList, h8]; omega
      · unfold BL
        rw [h5, ← h9, List.take_append_drop]
      · rcases hown.2 with ⟨e, _⟩ | ⟨g0, _, _, e, e2, _⟩
        · rw [e] at hk; cases hk
        · rw [e] at hk
          simp only [Value.ownBlock, Option.some.injEq] at hk
          omega
end
set_option maxRecDepth 100000 in
theorem clone_any (b cap c : Nat) (l : List Ce) (w : World) (h : CellsAt w b l cap) (h0 : 0 < l.length) (hl : l.length ≤ 1000000) :
    Calls Tryd.prog 53 #[.slice (some ⟨b, 0, none⟩) l.length c] w fun e w' => ∃ b' cap', e = .returned (.slice (some ⟨b', 0, none⟩) l.length cap') ∧ CellsAt w' b' l cap' ∧ w.heap.size ≤ b' ∧ Below w.heap.size w w' := by
  have he : ∀ w : World, (binOp .eql 62 (.slice (some ⟨b, 0, none⟩) l.length c) (.slice none 0 0)).run Tryd.prog w = .ok (.bool false) w := fun _ => rfl
  go_enter Tryd.func53, Tryd.ntmps53
  have hown : (w.alloc (.cells #[] 35)).ownsRow w.heap.size 35 5 (.slice (some ⟨w.heap.size, 0, none⟩) 0 0) 0 [] := ⟨rfl, .inr ⟨w.heap.size, 0, #[], rfl, Nat.le_refl _, heap_alloc_new w _, Nat.le_refl _, Nat.zero_le _, rfl, rfl⟩⟩
  have hb : Below w.heap.size w (w.alloc (.cells #[] 35)) := (Below.refl _ _).alloc (Nat.le_refl _) _
  have h2 := h.alloc (.cells #[] 35)
  go_wp2_with (at_builtin; refine wpList_append_new rfl (.tmp 5) (.tmp 6) rfl w.heap.size (by simp) _ rfl hown b c cap l rfl h2 h0 hl ?_; intro g cap' w1 hc1 hm1 hg1 ho1)
  go_ret
  exact ⟨g, cap', rfl, hc1, hg1, hb.trans ho1⟩
end Go.Proofs.YtgjlohplgpcghaaDoor.Grd
/- What is asked of a row: its cells, one of them, whether it is wrapped; a row is told to be wrapped. -/
namespace Go.Proofs.YtgjlohplgpcghaaDoor.Grd
open Go.RowKit

theorem field_cells (a b : Value) (w : World) : (Instr.field 73 (.agg #[a, b]) 0).run Tryd.prog w = .ok a w := by kernel_rfl
theorem field_wrapped (a b : Value) (w : World) : (Instr.field 73 (.agg #[a, b]) 1).run Tryd.prog w = .ok b w := by kernel_rfl
/-- A call of row that answers row m, which is in memory behind it. -/
def RowIs (w : World) (g : Nat) (y : Int) (m : MR) : Prop :=
  Calls Tryd.prog 49 #[.pointer (some ⟨g, 0, none⟩), .int .i64 y] w fun e w' => e = .returned (rowV m) ∧ Below w.heap.size w w'
set_option maxRecDepth 100000 in
theorem line_of {w : World} {g : Nat} {y : Int} {m : MR} (h : RowIs w g y m) (hm : CellsAt w m.b m.l m.cap) (h0 : 0 < m.l.length) (hl : m.l.length ≤ 1000000) :
    Calls Tryd.prog 31 #[.pointer (some ⟨g, 0, none⟩), .int .i64 y] w fun e w' => ∃ b cap, e = .returned (.slice (some ⟨b, 0, none⟩) m.l.length cap) ∧ CellsAt w' b m.l cap ∧ w.heap.size ≤ b ∧ Below w.heap.size w w' := by
  unfold RowIs rowV at h
  have fd0 := field_cells (.slice (some ⟨m.b, 0, none⟩) m.l.length m.cap) (.bool m.wr)
  have fd1 := field_wrapped (.slice (some ⟨m.b, 0, none⟩) m.l.length m.cap) (.bool m.wr)
  have hc := fun w hm => clone_any m.b m.cap m.cap m.l w hm h0 hl
  go_enter Tryd.func31, Tryd.ntmps31
  go_wp2_with (first
    | (go_at_call 49; refine h.mono ?_; rintro _ w1 ⟨rfl, hb1⟩; have hm1 := hm.only (F := []) (Only.of_below hb1) (by simp))
    | (go_at_call 53; refine (hc _ hm1).mono ?_; rintro _ w2 ⟨b, cap, rfl, hc2, hbw, hb2⟩))
  go_ret
  have := hb1.size
  exact ⟨b, cap, rfl, hc2, by omega, hb1.trans (hb2.mono this)⟩
set_option maxRecDepth 100000 in
theorem wrapped_of {w : World} {g : Nat} {y : Int} {m : MR} (h : RowIs w g y m) :
    Calls Tryd.prog 34 #[.pointer (some ⟨g, 0, none⟩), .int .i64 y] w fun e w' => e = .returned (.bool m.wr) ∧ Below w.heap.size w w' := by
  unfold RowIs rowV at h
  have fd0 := field_cells (.slice (some ⟨m.b, 0, none⟩) m.l.length m.cap) (.bool m.wr)
  have fd1 := field_wrapped (.slice (some ⟨m.b, 0, none⟩) m.l.length m.cap) (.bool m.wr)
  go_enter Tryd.func34, Tryd.ntmps34
  go_wp2_with (go_at_call 49; refine h.mono ?_; rintro _ w1 ⟨rfl, hb1⟩)
  go_ret
  exact ⟨rfl, hb1⟩
set_option maxRecDepth 100000 in
theorem cell_of {w : World} {g : Nat} {y : Int} {m : MR} (h : ∀ w', Below w.heap.size w w' → RowIs w' g y m) (hm : CellsAt w m.b m.l m.cap) (x : Nat) (hx : x < m.l.length) :
    Calls Tryd.prog 27 #[.pointer (some ⟨g, 0, none⟩), .int .i64 (x : Int), .int .i64 y] w fun e w' => e = .returned (.agg #[.int .i32 m.l[x].1, .int .i64 m.l[x].2.1, .int .i64 m.l[x].2.2.1, .int .i64 m.l[x].2.2.2.1, .int .i64 m.l[x].2.2.2.2]) ∧ Below w.heap.size w w' := by
  have hb0 : Below w.heap.size w (w.alloc (.cells #[.int .i32 0, .int .i64 0, .int .i64 0, .int .i64 0, .int .i64 0] 35)) := (Below.refl _ _).alloc (Nat.le_refl _) _
  have h1 := h _ hb0
  have hZ := BL.new w 35 [.int .i32 0, .int .i64 0, .int .i64 0, .int .i64 0, .int .i64 0]
  unfold RowIs rowV at h1
  have fd0 := field_cells (.slice (some ⟨m.b, 0, none⟩) m.l.length m.cap) (.bool m.wr)
  have hmb := hm.lt
  have hm0 := hm.alloc (.cells #[.int .i32 0, .int .i64 0, .int .i64 0, .int .i64 0, .int .i64 0] 35)
  have hs0 := hb0.size
  clear h
  obtain ⟨⟨r, wd, s1, s2, s3⟩, hq⟩ : ∃ q, m.l[x] = q := ⟨_, rfl⟩
  go_enter Tryd.func27, Tryd.ntmps27
  go_wp2_with (first
    | (go_at_call 49; refine h1.mono ?_; rintro _ w1 ⟨rfl, hb1⟩; have hm1 := hm0.only (F := []) (Only.of_below hb1) (by simp); have hZ1 := hZ.only (F := []) (Only.of_below hb1) (by simp); have hw1 := hb0.trans (hb1.mono hs0))
    | (refine wpList_load_cell rfl (.tmp 23) rfl m.b (x * 5) x m.cap m.l rfl hm1 hx (by omega) ?_; rw [hq])
    | (refine wpList_store_bl rfl 35 (.tmp 6) (.tmp 24) rfl w.heap.size 0 [.int .i32 r, .int .i64 wd, .int .i64 s1, .int .i64 s2, .int .i64 s3] rfl rfl _ _ hZ1 (by kernel_rfl) (by simp) (by kernel_rfl) ?_; intro w3 hZ3 hw3))
  rw [hq]
  exact bodyPost_ret (v := .agg #[.int .i32 r, .int .i64 wd, .int .i64 s1, .int .i64 s2, .int .i64 s3]) (results_cell (p := 6) (by kernel_rfl) _ w3 w.heap.size _ _ _ _ rfl hZ3 Tryd.underlying35 rfl (by kernel_rfl)) rfl ⟨rfl, hw1.trans (hw3.only.below (by have := hw1.size; omega) (by simp))⟩
end Go.Proofs.YtgjlohplgpcghaaDoor.Grd
/- A row of the screen turned: its mark, its cells. -/
namespace Go.Proofs.YtgjlohplgpcghaaDoor.Grd
open Go.RowKit

theorem rowsL_set {ms : List MR} {k : Nat} (hk : k < ms.length) (m : MR) : rowsL (ms.set k m) = splice (rowsL ms) (2 * k) (mrL m) := by
  have hs : ms.set k m = ms.take k ++ m :: ms.drop (k + 1) := by rw [List.set_eq_take_append_cons_drop, if_pos hk]
  have e1 : rowsL ms = rowsL (ms.take k) ++ rowsL (ms.drop k) := by rw [← rowsL_app, List.take_append_drop]
  have e2 : rowsL (ms.drop k) = mrL ms[k] ++ rowsL (ms.drop (k + 1)) := by rw [List.drop_eq_getElem_cons hk]; rfl
  have hl : (rowsL (ms.take k)).length = 2 * k := by rw [rowsL_len, List.length_take]; omega
  rw [hs, rowsL_app]
  unfold splice
  rw [mrL_len, e1, e2, List.take_left' hl, List.append_assoc, show 2 * k + 2 = (rowsL (ms.take k) ++ mrL ms[k]).length by rw [List.length_append, hl, mrL_len], ← List.append_assoc (rowsL (ms.take k)) (mrL ms[k]) (rowsL (ms.drop (k + 1))), List.drop_left]
  rfl
theorem splice_one {xs : List Value} {o : Nat} (v : Value) (h : o < xs.length) : splice xs o [v] = xs.set o v := by
  have := splice_cons (xs := xs) (o := o) v [] (by simp; omega)
  rw [splice_nil] at this
  exact this.symm
theorem rowsL_wr {ms : List MR} {k : Nat} (hk : k < ms.length) (is : Bool) : rowsL (ms.set k { ms[k] with wr := is }) = (rowsL ms).set (k * 2 + 1) (.bool is) := by
  have e2 : rowsL ms = rowsL (ms.take k) ++ (mrL ms[k] ++ rowsL (ms.drop (k + 1))) := by
    have h1 : mrL ms[k] ++ rowsL (ms.drop (k + 1)) = rowsL (ms[k] :: ms.drop (k + 1)) := rfl
    rw [h1, ← rowsL_app, ← List.drop_eq_getElem_cons hk, List.take_append_drop]
  have hl : (rowsL (ms.take k)).length = 2 * k := by rw [rowsL_len, List.length_take]; omega
  rw [rowsL_set hk]
  unfold splice
  rw [mrL_len, e2, List.take_left' hl, List.set_append_right _ _ (by omega), hl, show k * 2 + 1 - 2 * k = 1 by omega]
  rw [List.drop_append, hl, show 2 * k + 2 - 2 * k = 2 by omega, List.drop_of_length_le (l := rowsL (ms.take k)) (by omega), List.append_assoc]
  rfl
/-- The same blocks, in the same order. -/
theorem set_b {ms : List MR} {k : Nat} (hk : k < ms.length) {m : MR} (hb : m.b = ms[k].b) : (ms.set k m).map MR.b = ms.map MR.b := by
  rw [List.map_set, hb]
  apply List.ext_getElem?
  intro i
  rw [List.getElem?_set]
  by_cases h : k = i
  · subst h
    rw [if_pos rfl, if_pos (by simpa using hk), List.getElem?_map, List.getElem?_eq_getElem hk]
    rfl
  · rw [if_neg h]
theorem nodup_ne {l : List Nat} (h : l.Nodup) {i j : Nat} (hi : i < l.length) (hj : j < l.length) (hne : i ≠ j) : l[i] ≠ l[j] := fun e => hne ((List.getElem_inj h).1 e)
theorem Held.set {w w' : World} {ms : List MR} (h : Held w ms) {k : Nat} (hk : k < ms.length) {m : MR} (hb : m.b = ms[k].b) (hm : CellsAt w' m.b m.l m.cap) {F : List Nat} (ho : Only F w w') (hF : ∀ i (hi : i < ms.length), i ≠ k → ms[i].b ∉ F) : Held w' (ms.set k m) := by
  refine ⟨fun x hx => ?_, by rw [set_b hk hb]; exact h.apart⟩
  obtain ⟨i, hi, rfl⟩ := List.getElem_of_mem hx
  rw [List.length_set] at hi
  rw [List.getElem_set]
  by_cases e : k = i
  · rw [if_pos e]; exact hm
  · rw [if_neg e]; exact (h.at_ _ (List.getElem_mem hi)).only ho (hF i hi (fun e2 => e e2.symm))
/-- A grid with another row in the place of one of the screen's, in the same block. -/
theorem GridAt.set_row {w w' : World} {g s : Nat} {pv : Value} {fp : List Nat} {G : GS} (h : GridAt w g s pv fp G) {k : Nat} (hk : k < G.scr.length) {m : MR} (hb : m.b = G.scr[k].b) (hl : m.l.length = G.cols) (hm : CellsAt w' m.b m.l m.cap)
    {F : List Nat} (ho : Only F w w') (hg : g ∉ F) (hp : ∀ x ∈ fp, x ∉ F) (hs : BL w' s 73 (rowsL (G.scr.set k m))) (hF : ∀ x ∈ F, x = s ∨ x = m.b) : GridAt w' g s pv fp { G with scr := G.scr.set k m } := by
  have hkk : G.past.length + k < (G.past ++ G.scr).length := by rw [List.length_append]; omega
  have hget : (G.past ++ G.scr)[G.past.length + k] = G.scr[k] := by rw [List.getElem_append_right (by omega)]; simp
  have hset : G.past ++ G.scr.set k m = (G.past ++ G.scr).set (G.past.length + k) m := by rw [List.set_append_right _ _ (by omega)]; simp
  have hns : ∀ x ∈ G.past ++ G.scr, x.b ≠ s := fun x hx e => h.far x hx (by simp [e])
  refine ⟨?_, h.tab.only ho hp, hs, ?_, h.apart, ?_, ?_, h.c1, h.c2, by show 1 ≤ (G.scr.set k m).length; rw [List.length_set]; exact h.r1, by show (G.scr.set k m).length ≤ 120; rw [List.length_set]; exact h.r2, h.l2, h.p2⟩
  · show BL w' g _ [_, _, _, slV s 0 (G.scr.set k m).length (G.scr.set k m).length]
    rw [List.length_set]
    exact h.blk.only ho hg
  · show Held w' (G.past ++ G.scr.set k m)
    rw [hset]
    refine h.held.set hkk (by rw [hget]; exact hb) hm ho fun i hi hne hx => ?_
    rcases hF _ hx with e | e
    · exact hns _ (List.getElem_mem hi) e
    · have := nodup_ne h.held.apart (i := i) (j := G.past.length + k) (by simpa using hi) (by simpa using hkk) hne
      simp only [List.getElem_map] at this
      exact this (by rw [hget, e, hb])
  · show ∀ x ∈ G.past ++ G.scr.set k m, _
    rw [hset]
    intro x hx
    rcases List.mem_or_eq_of_mem_set hx with hx | rfl
    · exact h.far x hx
    · rw [hb]; exact h.far _ (List.mem_append_right _ (List.getElem_mem hk))
  · show ∀ x ∈ G.past ++ G.scr.set k m, x.l.length = G.cols
    rw [hset]
    intro x hx
    rcases List.mem_or_eq_of_mem_set hx with hx | rfl
    · exact h.cells x hx
    · exact hl
set_option maxRecDepth 100000 in
theorem wrap_any {w : World} {g s : Nat} {pv : Value} {fp : List Nat} {G : GS} (h : GridAt w g s pv fp G) (k : Nat) (hk : k < G.scr.length) (is : Bool) :
    Calls Tryd.prog 17 #[.pointer (some ⟨g, 0, none⟩), .int .i64 (k : Int), .bool is] w fun e w' => e = .returned (.tuple #[]) ∧ GridAt w' g s pv fp { G with scr := G.scr.set k { G.scr[k] with wr := is } } ∧ Only [s] w w' := by
  have hsh := shows_any h (k : Int) true (by simp; omega)
  have h3 := h.f3
  have hr := h.r2
  obtain ⟨_, c1⟩ := h.row_cells hk
  have hf := h.scr.frozen (k * 2 + 1)
  have hap := h.apart
  simp only [List.nodup_cons, List.mem_cons, not_or] at hap
  have ho : Only [s] w (w.setCell ⟨s, k * 2 + 1, none⟩ (.bool is)) := (Only.refl _ _).setCell (.inl (by simp)) _
  have hfin : GridAt (w.setCell ⟨s, k * 2 + 1, none⟩ (.bool is)) g s pv fp { G with scr := G.scr.set k { G.scr[k] with wr := is } } := by
    have hmem : G.scr[k] ∈ G.past ++ G.scr := List.mem_append_right _ (List.getElem_mem hk)
    refine h.set_row (m := { G.scr[k] with wr := is }) hk rfl (show G.scr[k].l.length = G.cols from h.cells _ hmem) (show CellsAt _ G.scr[k].b G.scr[k].l G.scr[k].cap from (h.held.at_ _ hmem).only ho (fun e => h.far _ hmem (by simp at e; simp [e]))) ho (by simp; exact hap.1.1) (fun x hx e => ?_) ?_ (fun x hx => .inl (by simpa using hx))
    · simp only [List.mem_cons, List.not_mem_nil, or_false] at e
      exact hap.2.1 (e ▸ hx)
    · rw [rowsL_wr hk]; exact h.scr.set_ _ _
  clear h hap
  go_enter Tryd.func17, Tryd.ntmps17
  go_wp2_with (go_at_call 35; refine hsh.mono ?_; rintro _ w1 ⟨rfl, rfl⟩)
  exact body_end rfl rfl ⟨rfl, hfin, ho⟩
end Go.Proofs.YtgjlohplgpcghaaDoor.Grd
