/- A grid in memory; a new one. -/
import Derived.Test.YtjklnnklgkihlaaGreatDoorPaa
import Derived.Deep.DeepAppendWide
import Derived.Laws.Cover4
import Derived.Laws.Runes
namespace Go.Proofs.YtjklnnklgkihlaaGreatDoor.Grd
open Go.RowKit

/-- A grid, with the blocks of its rows. -/
structure GS where
  cols : Nat
  limit : Nat
  past : List MR
  scr : List MR
/-- A table that may lie anywhere in its block, or be none. -/
def TabAt (w : World) (v : Value) (ms : List MR) (F : List Nat) : Prop :=
  (v = .slice none 0 0 ∧ ms = [] ∧ F = []) ∨
  ∃ p off c pre tail, v = slV p (2 * off) ms.length c ∧ ms.length ≤ c ∧ c ≤ maxLen ∧ pre.length = 2 * off ∧ 2 * (c - ms.length) ≤ tail.length ∧ BL w p 78 (pre ++ rowsL ms ++ tail) ∧ F = [p]
theorem TabAt.only {w w' : World} {v : Value} {ms : List MR} {F G : List Nat} (h : TabAt w v ms F) (ho : Only G w w') (hF : ∀ x ∈ F, x ∉ G) : TabAt w' v ms F := by
  rcases h with h | ⟨p, off, c, pre, tail, h1, h2, h3, h4, h5, h6, rfl⟩
  · exact .inl h
  · exact .inr ⟨p, off, c, pre, tail, h1, h2, h3, h4, h5, h6.only ho (hF p (by simp)), rfl⟩
structure GridAt (w : World) (g s : Nat) (pv : Value) (fp : List Nat) (G : GS) : Prop where
  blk : BL w g 72 [.int .i64 (G.cols : Int), .int .i64 (G.limit : Int), pv, slV s 0 G.scr.length G.scr.length]
  tab : TabAt w pv G.past fp
  scr : BL w s 78 (rowsL G.scr)
  held : Held w (G.past ++ G.scr)
  apart : (g :: s :: fp).Nodup
  far : ∀ m ∈ G.past ++ G.scr, m.b ∉ g :: s :: fp
  cells : ∀ m ∈ G.past ++ G.scr, m.l.length = G.cols
  c1 : 1 ≤ G.cols
  c2 : G.cols ≤ 250
  r1 : 1 ≤ G.scr.length
  r2 : G.scr.length ≤ 120
  l2 : G.limit ≤ 2000
  p2 : G.past.length ≤ G.limit
/-- The blocks of a grid. -/
def foot (g s : Nat) (fp : List Nat) (G : GS) : List Nat := g :: s :: fp ++ (G.past ++ G.scr).map MR.b
theorem GridAt.only {w w' : World} {g s : Nat} {pv : Value} {fp F : List Nat} {G : GS} (h : GridAt w g s pv fp G) (ho : Only F w w') (hF : ∀ x ∈ foot g s fp G, x ∉ F) : GridAt w' g s pv fp G := by
  have h1 : ∀ x ∈ g :: s :: fp, x ∉ F := fun x hx => hF x (List.mem_append_left _ hx)
  have h2 : ∀ m ∈ G.past ++ G.scr, m.b ∉ F := fun m hm => hF m.b (List.mem_append_right _ (List.mem_map_of_mem hm))
  exact ⟨h.blk.only ho (h1 g (by simp)), h.tab.only ho (fun x hx => h1 x (by simp [hx])), h.scr.only ho (h1 s (by simp)), h.held.only ho h2, h.apart, h.far, h.cells, h.c1, h.c2, h.r1, h.r2, h.l2, h.p2⟩
theorem GridAt.below {w w' : World} {g s : Nat} {pv : Value} {fp : List Nat} {G : GS} (h : GridAt w g s pv fp G) (ho : Below w.heap.size w w') : GridAt w' g s pv fp G := h.only (F := []) (Only.of_below ho) (fun _ _ h => by cases h)

set_option maxRecDepth 100000 in
theorem isSize_any (c r : Int) (b : Bool) (hb : decide (1 ≤ c ∧ c ≤ 250 ∧ 1 ≤ r ∧ r ≤ 120) = b) (w : World) :
    Calls Tryz.prog 61 #[.int .i64 c, .int .i64 r] w fun e w' => e = .returned (.bool b) ∧ w = w' := by
  by_cases h1 : 1 ≤ c
  · by_cases h2 : c ≤ 250
    · by_cases h3 : 1 ≤ r
      · by_cases h4 : r ≤ 120
        · obtain rfl : b = true := by rw [← hb]; simp [h1, h2, h3, h4]
          clear hb
          go_enter Tryz.func61, Tryz.ntmps61
          go_wp2
          go_ret
          exact ⟨rfl, rfl⟩
        · obtain rfl : b = false := by rw [← hb]; simp [h4]
          have d : decide (r ≤ 120) = false := by simpa using h4
          clear hb
          go_enter Tryz.func61, Tryz.ntmps61
          go_wp2
          go_ret
          exact ⟨rfl, rfl⟩
      · obtain rfl : b = false := by rw [← hb]; simp [h3]
        have d : decide (1 ≤ r) = false := by simpa using h3
        clear hb
        go_enter Tryz.func61, Tryz.ntmps61
        go_wp2
        go_ret
        exact ⟨rfl, rfl⟩
    · obtain rfl : b = false := by rw [← hb]; simp [h2]
      have d : decide (c ≤ 250) = false := by simpa using h2
      clear hb
      go_enter Tryz.func61, Tryz.ntmps61
      go_wp2
      go_ret
      exact ⟨rfl, rfl⟩
  · obtain rfl : b = false := by rw [← hb]; simp [h1]
    have d : decide (1 ≤ c) = false := by simpa using h1
    clear hb
    go_enter Tryz.func61, Tryz.ntmps61
    go_wp2
    go_ret
    exact ⟨rfl, rfl⟩

set_option maxRecDepth 100000 in
theorem new_any (c r h : Nat) (hc1 : 1 ≤ c) (hc2 : c ≤ 250) (hr1 : 1 ≤ r) (hr2 : r ≤ 120) (hh : h ≤ 2000) (w : World) :
    Calls Tryz.prog 38 #[.int .i64 (c : Int), .int .i64 (r : Int), .int .i64 (h : Int)] w fun e w' => ∃ g s ms, e = .returned (.tuple #[.pointer (some ⟨g, 0, none⟩), .int .i64 0]) ∧
      GridAt w' g s (.slice none 0 0) [] ⟨c, h, [], ms⟩ ∧ ms.length = r ∧ Alike w.heap.size (List.replicate c plainCe) ms ∧ w.heap.size ≤ g ∧ w.heap.size ≤ s ∧ Below w.heap.size w w' := by
  have hs := fun w => isSize_any (c : Int) (r : Int) true (by simp; omega) w
  go_enter Tryz.func38, Tryz.ntmps38
  go_wp2_with (first
    | (go_at_call 61; refine (hs _).mono ?_; rintro _ w1 ⟨rfl, rfl⟩)
    | (go_at_call 62; refine (filled_nil c r _ hr1 (by omega) (by omega)).mono ?_; rintro _ w2 ⟨s, rfl, hsw, ms, hms, hB, hH, hK, hb2⟩))
  have hbs := hb2.size
  have hsl := hB.lt
  go_ret2
  refine ⟨w2.heap.size, s, ms, rfl, ⟨?_, .inl ⟨rfl, rfl, rfl⟩, hB.alloc _, (show Held w2 ([] ++ ms) from hH).only (F := []) ((Only.refl _ _).alloc _) (by simp), ?_, ?_, ?_, hc1, hc2, by show 1 ≤ ms.length; omega, by show ms.length ≤ 120; omega, hh, Nat.zero_le _⟩, hms, ?_, by omega, hsw, hb2.alloc hbs _⟩
  · have := BL.new w2 72 [.int .i64 (c : Int), .int .i64 (h : Int), .slice none 0 0, slV s 0 r r]
    rw [← hms] at this
    rw [← hms]
    exact this
  · simp; omega
  · intro m hm
    have h1 := (hK m hm).2.2
    have h2 := hH.lt (m := m) hm
    simp only [List.mem_cons, List.not_mem_nil, or_false, not_or]
    exact ⟨by omega, by omega⟩
  · intro m hm
    show m.l.length = c
    rw [(hK m hm).1, List.length_replicate]
  · intro m hm
    exact ⟨(hK m hm).1, (hK m hm).2.1, by have := (hK m hm).2.2; omega⟩
end Go.Proofs.YtjklnnklgkihlaaGreatDoor.Grd
/- A grid's numbers, and its rows. -/
namespace Go.Proofs.YtjklnnklgkihlaaGreatDoor.Grd
open Go.RowKit

theorem rowsL_at {ms : List MR} {i : Nat} (h : i < ms.length) (tail : List Value) (j : Nat) (hj : j < 2) : (rowsL ms ++ tail)[i * 2 + j]? = (mrL ms[i])[j]? := by
  have hf := rowsL_len ms
  rw [List.getElem?_append_left (by omega)]
  have e : rowsL ms = rowsL (ms.take i) ++ (mrL ms[i] ++ rowsL (ms.drop (i + 1))) := by
    have h1 : mrL ms[i] ++ rowsL (ms.drop (i + 1)) = rowsL (ms[i] :: ms.drop (i + 1)) := rfl
    rw [h1, ← rowsL_app, ← List.drop_eq_getElem_cons h, List.take_append_drop]
  have hl : (rowsL (ms.take i)).length = i * 2 := by rw [rowsL_len, List.length_take]; omega
  rw [e, List.getElem?_append_right (by omega), hl, show i * 2 + j - i * 2 = j by omega, List.getElem?_append_left (by rw [mrL_len]; exact hj)]
section
variable {w : World} {g s : Nat} {pv : Value} {fp : List Nat} {G : GS}
theorem GridAt.f0 (h : GridAt w g s pv fp G) : w.cell? ⟨g, 0, none⟩ = some (.int .i64 (G.cols : Int)) := h.blk.cell 0
theorem GridAt.f1 (h : GridAt w g s pv fp G) : w.cell? ⟨g, 1, none⟩ = some (.int .i64 (G.limit : Int)) := h.blk.cell 1
theorem GridAt.f2 (h : GridAt w g s pv fp G) : w.cell? ⟨g, 2, none⟩ = some pv := h.blk.cell 2
theorem GridAt.f3 (h : GridAt w g s pv fp G) : w.cell? ⟨g, 3, none⟩ = some (.slice (some ⟨s, 0, none⟩) G.scr.length G.scr.length) := h.blk.cell 3
theorem GridAt.row_cells (h : GridAt w g s pv fp G) {k : Nat} (hk : k < G.scr.length) :
    w.cell? ⟨s, k * 2, none⟩ = some (.slice (some ⟨G.scr[k].b, 0, none⟩) G.scr[k].l.length G.scr[k].cap) ∧ w.cell? ⟨s, k * 2 + 1, none⟩ = some (.bool G.scr[k].wr) := by
  have h0 := rowsL_at hk [] 0 (by omega)
  have h1 := rowsL_at hk [] 1 (by omega)
  rw [List.append_nil] at h0 h1
  exact ⟨by rw [h.scr.cell]; exact h0, by rw [h.scr.cell]; exact h1⟩
end
/-- What a row is as a value. -/
def rowV (m : MR) : Value := .agg #[.slice (some ⟨m.b, 0, none⟩) m.l.length m.cap, .bool m.wr]

set_option maxRecDepth 100000 in
theorem rows_any {w : World} {g s : Nat} {pv : Value} {fp : List Nat} {G : GS} (h : GridAt w g s pv fp G) :
    Calls Tryz.prog 15 #[.pointer (some ⟨g, 0, none⟩)] w fun e w' => e = .returned (.int .i64 (G.scr.length : Int)) ∧ w = w' := by
  have h3 := h.f3
  clear h
  go_enter Tryz.func15, Tryz.ntmps15
  go_wp2
  go_ret
  exact ⟨rfl, rfl⟩
set_option maxRecDepth 100000 in
theorem cols_any {w : World} {g s : Nat} {pv : Value} {fp : List Nat} {G : GS} (h : GridAt w g s pv fp G) :
    Calls Tryz.prog 14 #[.pointer (some ⟨g, 0, none⟩)] w fun e w' => e = .returned (.int .i64 (G.cols : Int)) ∧ w = w' := by
  have h3 := h.f0
  clear h
  go_enter Tryz.func14, Tryz.ntmps14
  go_wp2
  go_ret
  exact ⟨rfl, rfl⟩
set_option maxRecDepth 100000 in
theorem limit_any {w : World} {g s : Nat} {pv : Value} {fp : List Nat} {G : GS} (h : GridAt w g s pv fp G) :
    Calls Tryz.prog 17 #[.pointer (some ⟨g, 0, none⟩)] w fun e w' => e = .returned (.int .i64 (G.limit : Int)) ∧ w = w' := by
  have h3 := h.f1
  clear h
  go_enter Tryz.func17, Tryz.ntmps17
  go_wp2
  go_ret
  exact ⟨rfl, rfl⟩
set_option maxRecDepth 100000 in
theorem history_any {w : World} {g s : Nat} {pv : Value} {fp : List Nat} {G : GS} (h : GridAt w g s pv fp G) :
    Calls Tryz.prog 16 #[.pointer (some ⟨g, 0, none⟩)] w fun e w' => e = .returned (.int .i64 (G.past.length : Int)) ∧ w = w' := by
  have h2 := h.f2
  rcases h.tab with ⟨rfl, hp, _⟩ | ⟨p, off, c, pre, tail, rfl, _⟩
  · rw [hp]
    clear h
    go_enter Tryz.func16, Tryz.ntmps16
    go_wp2
    go_ret
    exact ⟨rfl, rfl⟩
  · clear h
    go_enter Tryz.func16, Tryz.ntmps16
    go_wp2
    go_ret
    exact ⟨rfl, rfl⟩
set_option maxRecDepth 100000 in
theorem shows_any {w : World} {g s : Nat} {pv : Value} {fp : List Nat} {G : GS} (h : GridAt w g s pv fp G) (y : Int) (b : Bool) (hb : decide (0 ≤ y ∧ y < G.scr.length) = b) :
    Calls Tryz.prog 119 #[.pointer (some ⟨g, 0, none⟩), .int .i64 y] w fun e w' => e = .returned (.bool b) ∧ w = w' := by
  have h3 := h.f3
  have hr := h.r2
  clear h
  by_cases h0 : 0 ≤ y
  · by_cases h1 : y < G.scr.length
    · obtain rfl : b = true := by rw [← hb]; simp [h0, h1]
      clear hb
      go_enter Tryz.func119, Tryz.ntmps119
      go_wp2
      go_ret
      exact ⟨rfl, rfl⟩
    · obtain rfl : b = false := by rw [← hb]; simp [h1]
      have d : decide (y < (G.scr.length : Int)) = false := by simpa using h1
      clear hb
      go_enter Tryz.func119, Tryz.ntmps119
      go_wp2
      go_ret
      exact ⟨rfl, rfl⟩
  · obtain rfl : b = false := by rw [← hb]; simp [h0]
    have d : decide (0 ≤ y) = false := by simpa using h0
    clear hb
    go_enter Tryz.func119, Tryz.ntmps119
    go_wp2
    go_ret
    exact ⟨rfl, rfl⟩

set_option maxRecDepth 100000 in
theorem row_scr {w : World} {g s : Nat} {pv : Value} {fp : List Nat} {G : GS} (h : GridAt w g s pv fp G) (k : Nat) (hk : k < G.scr.length) :
    Calls Tryz.prog 31 #[.pointer (some ⟨g, 0, none⟩), .int .i64 (k : Int)] w fun e w' => e = .returned (rowV G.scr[k]) ∧ Below w.heap.size w w' := by
  have h3 := h.f3
  have hr := h.r2
  obtain ⟨c0, c1⟩ := h.row_cells hk
  have hgl := h.blk.lt
  have hsl := h.scr.lt
  unfold rowV
  generalize G.scr[k] = m at *
  clear h
  have hb : Below w.heap.size w (w.alloc (.cells #[.slice (some ⟨m.b, 0, none⟩) m.l.length m.cap, .bool m.wr] 78)) := (Below.refl _ _).alloc (Nat.le_refl _) _
  go_enter Tryz.func31, Tryz.ntmps31
  go_wp2
  exact bodyPost_ret (v := .agg #[.slice (some ⟨m.b, 0, none⟩) m.l.length m.cap, .bool m.wr]) (results_cell (p := 4) (by kernel_rfl) _ _ w.heap.size _ _ _ _ rfl (BL.new w 78 [.slice (some ⟨m.b, 0, none⟩) m.l.length m.cap, .bool m.wr]) Tryz.underlying78 rfl (by kernel_rfl)) rfl ⟨rfl, hb⟩
end Go.Proofs.YtjklnnklgkihlaaGreatDoor.Grd
/- Rows that have scrolled off, and rows that there are not. -/
namespace Go.Proofs.YtjklnnklgkihlaaGreatDoor.Grd
open Go.RowKit

theorem tab_row {w : World} {p off : Nat} {pre tail : List Value} {ms : List MR} (h : BL w p 78 (pre ++ rowsL ms ++ tail)) (hp : pre.length = 2 * off) {k : Nat} (hk : k < ms.length) :
    w.cell? ⟨p, 2 * off + k * 2, none⟩ = some (.slice (some ⟨ms[k].b, 0, none⟩) ms[k].l.length ms[k].cap) ∧ w.cell? ⟨p, 2 * off + k * 2 + 1, none⟩ = some (.bool ms[k].wr) := by
  have h0 := rowsL_at hk tail 0 (by omega)
  have h1 := rowsL_at hk tail 1 (by omega)
  refine ⟨?_, ?_⟩
  · rw [h.cell, List.append_assoc, List.getElem?_append_right (by omega), show 2 * off + k * 2 - pre.length = k * 2 + 0 by omega, h0]; rfl
  · rw [h.cell, List.append_assoc, List.getElem?_append_right (by omega), show 2 * off + k * 2 + 1 - pre.length = k * 2 + 1 by omega, h1]; rfl

set_option maxRecDepth 100000 in
theorem row_past {w : World} {g s : Nat} {pv : Value} {fp : List Nat} {G : GS} (h : GridAt w g s pv fp G) (k : Nat) (hk : k < G.past.length) :
    Calls Tryz.prog 31 #[.pointer (some ⟨g, 0, none⟩), .int .i64 ((k : Int) - (G.past.length : Int))] w fun e w' => e = .returned (rowV G.past[k]) ∧ Below w.heap.size w w' := by
  have h3 := h.f3
  have h2 := h.f2
  have hr := h.r2
  have hl := h.l2
  have hpl := h.p2
  have hgl := h.blk.lt
  rcases h.tab with ⟨_, hp, _⟩ | ⟨p, off, c, pre, tail, rfl, hc1, hc2, hpre, _, hB, _⟩
  · rw [hp] at hk; exact absurd hk (by simp)
  · have hcells : w.cell? ⟨p, 2 * off + k * 2, none⟩ = some (.slice (some ⟨G.past[k].b, 0, none⟩) G.past[k].l.length G.past[k].cap) ∧ w.cell? ⟨p, 2 * off + k * 2 + 1, none⟩ = some (.bool G.past[k].wr) := tab_row hB hpre hk
    obtain ⟨c0, c1⟩ := hcells
    have hplt := hB.lt
    unfold rowV
    generalize G.past[k] = m at *
    obtain ⟨n, hn⟩ : ∃ n, G.past.length = n := ⟨_, rfl⟩
    rw [hn] at hk h2 hpl hc1 ⊢
    clear h hB
    have hb : Below w.heap.size w (w.alloc (.cells #[.slice (some ⟨m.b, 0, none⟩) m.l.length m.cap, .bool m.wr] 78)) := (Below.refl _ _).alloc (Nat.le_refl _) _
    obtain ⟨y, hy⟩ : ∃ y : Int, (k : Int) - (n : Int) = y := ⟨_, rfl⟩
    rw [hy]
    have d0 : decide (0 ≤ y) = false := by simp; omega
    have d1 : decide (-(n : Int) ≤ y) = true := by simp; omega
    have d2 : decide (y < 0) = true := by simp; omega
    have d3 : ¬ 0 ≤ y := by omega
    have d4 : -(n : Int) ≤ y := by omega
    have d5 : y < 0 := by omega
    have j1 : IntKind.i64.wrap ((n : Int) + y) = (k : Int) := by rw [show (n : Int) + y = (k : Int) by omega]; exact IntWalk.i64_in _ ⟨by omega, by omega⟩
    have k0 : (0 : Int) ≤ (k : Int) := Int.natCast_nonneg _
    have k1 : (k : Int) < (n : Int) := by omega
    clear hy hn
    go_enter Tryz.func31, Tryz.ntmps31
    go_wp2_with fail
    have hW : ∀ q : Addr, q.block < w.heap.size → (w.alloc (.cells #[.slice none 0 0, .bool false] 78)).drew.cell? q = w.cell? q := fun q hq => World.cell?_of_block (Below.heap_alloc w _ q.block hq)
    rw [← hW ⟨p, 2 * off + k * 2, none⟩ hplt] at c0
    rw [← hW ⟨p, 2 * off + k * 2 + 1, none⟩ hplt] at c1
    rw [← hW ⟨g, 2, none⟩ hgl] at h2
    have hZ : BL (w.alloc (.cells #[.slice none 0 0, .bool false] 78)).drew w.heap.size 78 [.slice none 0 0, .bool false] := BL.new w _ _
    have z0 := hZ.cell 0
    have z1 := hZ.cell 1
    have q0 := hZ.frozen 0
    have q1 := hZ.frozen 1
    go_region
    go_wp2_with fail
    exact bodyPost_ret (v := .agg #[.slice (some ⟨m.b, 0, none⟩) m.l.length m.cap, .bool m.wr]) (results_cell (p := 4) (by kernel_rfl) _ _ w.heap.size _ _ _ _ rfl (show BL (w.alloc (.cells #[.slice (some ⟨m.b, 0, none⟩) m.l.length m.cap, .bool m.wr] 78)).drew w.heap.size 78 [.slice (some ⟨m.b, 0, none⟩) m.l.length m.cap, .bool m.wr] from BL.new w _ _) Tryz.underlying78 rfl (by kernel_rfl)) rfl ⟨rfl, hb.drew⟩
set_option maxRecDepth 100000 in
theorem row_none {w : World} {g s : Nat} {pv : Value} {fp : List Nat} {G : GS} (h : GridAt w g s pv fp G) (y : Int) (hy : (G.scr.length : Int) ≤ y ∨ y < -(G.past.length : Int)) :
    Calls Tryz.prog 31 #[.pointer (some ⟨g, 0, none⟩), .int .i64 y] w fun e w' => e = .returned (.agg #[.slice none 0 0, .bool false]) ∧ Below w.heap.size w w' := by
  have h3 := h.f3
  have h2 := h.f2
  have hr := h.r2
  have hl := h.l2
  have hpl := h.p2
  have hgl := h.blk.lt
  have hb : Below w.heap.size w (w.alloc (.cells #[.slice none 0 0, .bool false] 78)) := (Below.refl _ _).alloc (Nat.le_refl _) _
  have hZ := BL.new w 78 [.slice none 0 0, .bool false]
  have hpv : ∃ a c, pv = .slice a G.past.length c := by
    rcases h.tab with ⟨e, e2, _⟩ | ⟨p, off, c, _, _, e, _⟩
    · rw [e2]; exact ⟨_, _, e⟩
    · exact ⟨_, _, e⟩
  obtain ⟨a, c, rfl⟩ := hpv
  obtain ⟨n, hn⟩ : ∃ n, G.past.length = n := ⟨_, rfl⟩
  obtain ⟨r, hrr⟩ : ∃ r, G.scr.length = r := ⟨_, rfl⟩
  rw [hn] at h2 hpl hy
  rw [hrr] at h3 hr hy
  clear h hn hrr
  rcases hy with hy | hy
  · have d0 : decide (0 ≤ y) = true := by simp; omega
    have d1 : decide (y < (r : Int)) = false := by simpa using hy
    have d2 : decide (y < 0) = false := by simp; omega
    have d4 : decide (-(n : Int) ≤ y) = true := by simp; omega
    go_enter Tryz.func31, Tryz.ntmps31
    go_wp2_with fail
    exact bodyPost_ret (v := .agg #[.slice none 0 0, .bool false]) (results_cell (p := 4) (by kernel_rfl) _ _ w.heap.size _ _ _ _ rfl hZ Tryz.underlying78 rfl (by kernel_rfl)) rfl ⟨rfl, hb⟩
  · have d0 : decide (0 ≤ y) = false := by simp; omega
    have d4 : decide (-(n : Int) ≤ y) = false := by simp; omega
    go_enter Tryz.func31, Tryz.ntmps31
    go_wp2_with fail
    exact bodyPost_ret (v := .agg #[.slice none 0 0, .bool false]) (results_cell (p := 4) (by kernel_rfl) _ _ w.heap.size _ _ _ _ rfl hZ Tryz.underlying78 rfl (by kernel_rfl)) rfl ⟨rfl, hb⟩
end Go.Proofs.YtjklnnklgkihlaaGreatDoor.Grd
/- A row's cells, copied. -/
namespace Go.Proofs.YtjklnnklgkihlaaGreatDoor.Grd
open Go.RowKit

theorem one_flat (l : List Ce) : ∀ u ∈ flat l, u.oneCell' = true := by
  intro u hu
  unfold flat at hu
  obtain ⟨c, _, hc⟩ := List.mem_flatMap.1 hu
  unfold ceL stL at hc
  simp only [List.mem_cons, List.not_mem_nil, or_false] at hc
  rcases hc with rfl | rfl | rfl | rfl | rfl <;> rfl
theorem CellsAt.all {w : World} {b cap : Nat} {l : List Ce} (h : CellsAt w b l cap) (j : Nat) (u : Value) (hj : (flat l)[j]? = some u) : w.cell? ((⟨b, 0, none⟩ : Addr).add j) = some u := by
  obtain ⟨_, tail, _, h3⟩ := h
  rw [Addr.add_mid, Nat.zero_add, h3.cell, List.getElem?_append_left (List.getElem?_eq_some_iff.1 hj).1]
  exact hj
section
variable {ops : Array Oper} {rest : List Oper} {op : Oper} {a : Act} {w : World} {Q : Exit → Act → World → Prop}
/-- Cells appended to nothing. -/
theorem wpList_append_new (hgd : op.guard = none) (s x : Operand) (ho : op.op = .call { callee := .builtin .append, args := #[s, x], argTypes := #[76, 76] })
    (base : Nat) (hb0 : base ≤ w.heap.size) (v : Value) (hs : a.eval s = v) (hown : w.ownsRow base 81 5 v 0 []) (b c cap : Nat) (l : List Ce) (hx : a.eval x = .slice (some ⟨b, 0, none⟩) l.length c) (hc : CellsAt w b l cap) (h0 : 0 < l.length) (hl : l.length ≤ 1000000)
    (h : ∀ g cap' w1, CellsAt w1 g l cap' → cap' ≤ maxLen → base ≤ g → Below base w w1 → wpList Tryz.prog ops Q rest (a.put op.dst (.slice (some ⟨g, 0, none⟩) l.length cap')) w1) : wpList Tryz.prog ops Q (op :: rest) a w := by
  have hi := info_cell
  cases hq : Tryz.prog.info? 81 with
  | none => rw [hq] at hi; cases hi
  | some i =>
    rw [hq] at hi
    simp only [Option.map_some, Option.some.injEq, Prod.mk.injEq] at hi
    obtain ⟨hz, hsz, hby⟩ := hi
    refine wpList_append_own_wide w hgd s x 76 ho base 81 i _ 5 40 Tryz.underlying76 hq hz hsz hby rfl (by omega) v 0 [] hs hown ⟨b, 0, none⟩ l.length c (flat l) hx (by rw [flat_len]; omega) hc.all (one_flat l) (by have : maxLen = 9223372036854775807 := rfl; omega) (by omega) hb0 ?_
    intro v' w' hown' hgr _
    rw [Nat.zero_add, List.nil_append] at hown'
    obtain ⟨h1, h2⟩ := hown'
    rcases h2 with ⟨_, h3⟩ | ⟨g, cap', cur, rfl, h4, h5, h6, h7, h8, h9⟩
    · omega
    · refine h g cap' w' ⟨h6, cur.toList.drop (l.length * 5), ?_, ?_⟩ h7 h4 ((Below.refl base w).grown hgr hb0 fun k hk => ?_)
      · rw [List.length_drop, Array.length_toList, h8]; omega
      · unfold BL
        rw [h5, ← h9, List.take_append_drop]
      · rcases hown.2 with ⟨e, _⟩ | ⟨g0, _, _, e, e2, _⟩
        · rw [e] at hk; cases hk
        · rw [e] at hk
          simp only [Value.ownBlock, Option.some.injEq] at hk
          omega
end
set_option maxRecDepth 100000 in
theorem clone_any (b cap c : Nat) (l : List Ce) (w : World) (h : CellsAt w b l cap) (h0 : 0 < l.length) (hl : l.length ≤ 1000000) :
    Calls Tryz.prog 60 #[.slice (some ⟨b, 0, none⟩) l.length c] w fun e w' => ∃ b' cap', e = .returned (.slice (some ⟨b', 0, none⟩) l.length cap') ∧ CellsAt w' b' l cap' ∧ w.heap.size ≤ b' ∧ Below w.heap.size w w' := by
  have he : ∀ w : World, (binOp .eql 76 (.slice (some ⟨b, 0, none⟩) l.length c) (.slice none 0 0)).run Tryz.prog w = .ok (.bool false) w := fun _ => rfl
  go_enter Tryz.func60, Tryz.ntmps60
  have hown : (w.alloc (.cells #[] 81)).ownsRow w.heap.size 81 5 (.slice (some ⟨w.heap.size, 0, none⟩) 0 0) 0 [] := ⟨rfl, .inr ⟨w.heap.size, 0, #[], rfl, Nat.le_refl _, heap_alloc_new w _, Nat.le_refl _, Nat.zero_le _, rfl, rfl⟩⟩
  have hb : Below w.heap.size w (w.alloc (.cells #[] 81)) := (Below.refl _ _).alloc (Nat.le_refl _) _
  have h2 := h.alloc (.cells #[] 81)
  go_wp2_with (at_builtin; refine wpList_append_new rfl (.tmp 5) (.tmp 6) rfl w.heap.size (by simp) _ rfl hown b c cap l rfl h2 h0 hl ?_; intro g cap' w1 hc1 hm1 hg1 ho1)
  go_ret
  exact ⟨g, cap', rfl, hc1, hg1, hb.trans ho1⟩
end Go.Proofs.YtjklnnklgkihlaaGreatDoor.Grd
/- What is asked of a row: its cells, one of them, whether it is wrapped; a row is told to be wrapped. -/
namespace Go.Proofs.YtjklnnklgkihlaaGreatDoor.Grd
open Go.RowKit

theorem field_cells (a b : Value) (w : World) : (Instr.field 78 (.agg #[a, b]) 0).run Tryz.prog w = .ok a w := by kernel_rfl
theorem field_wrapped (a b : Value) (w : World) : (Instr.field 78 (.agg #[a, b]) 1).run Tryz.prog w = .ok b w := by kernel_rfl
/-- A call of row that answers row m, which is in memory behind it. -/
def RowIs (w : World) (g : Nat) (y : Int) (m : MR) : Prop :=
  Calls Tryz.prog 31 #[.pointer (some ⟨g, 0, none⟩), .int .i64 y] w fun e w' => e = .returned (rowV m) ∧ Below w.heap.size w w'
set_option maxRecDepth 100000 in
theorem line_of {w : World} {g : Nat} {y : Int} {m : MR} (h : RowIs w g y m) (hm : CellsAt w m.b m.l m.cap) (h0 : 0 < m.l.length) (hl : m.l.length ≤ 1000000) :
    Calls Tryz.prog 37 #[.pointer (some ⟨g, 0, none⟩), .int .i64 y] w fun e w' => ∃ b cap, e = .returned (.slice (some ⟨b, 0, none⟩) m.l.length cap) ∧ CellsAt w' b m.l cap ∧ w.heap.size ≤ b ∧ Below w.heap.size w w' := by
  unfold RowIs rowV at h
  have fd0 := field_cells (.slice (some ⟨m.b, 0, none⟩) m.l.length m.cap) (.bool m.wr)
  have fd1 := field_wrapped (.slice (some ⟨m.b, 0, none⟩) m.l.length m.cap) (.bool m.wr)
  have hc := fun w hm => clone_any m.b m.cap m.cap m.l w hm h0 hl
  go_enter Tryz.func37, Tryz.ntmps37
  go_wp2_with (first
    | (go_at_call 31; refine h.mono ?_; rintro _ w1 ⟨rfl, hb1⟩; have hm1 := hm.only (F := []) (Only.of_below hb1) (by simp))
    | (go_at_call 60; refine (hc _ hm1).mono ?_; rintro _ w2 ⟨b, cap, rfl, hc2, hbw, hb2⟩))
  go_ret
  have := hb1.size
  exact ⟨b, cap, rfl, hc2, by omega, hb1.trans (hb2.mono this)⟩
set_option maxRecDepth 100000 in
theorem wrapped_of {w : World} {g : Nat} {y : Int} {m : MR} (h : RowIs w g y m) :
    Calls Tryz.prog 19 #[.pointer (some ⟨g, 0, none⟩), .int .i64 y] w fun e w' => e = .returned (.bool m.wr) ∧ Below w.heap.size w w' := by
  unfold RowIs rowV at h
  have fd0 := field_cells (.slice (some ⟨m.b, 0, none⟩) m.l.length m.cap) (.bool m.wr)
  have fd1 := field_wrapped (.slice (some ⟨m.b, 0, none⟩) m.l.length m.cap) (.bool m.wr)
  go_enter Tryz.func19, Tryz.ntmps19
  go_wp2_with (go_at_call 31; refine h.mono ?_; rintro _ w1 ⟨rfl, hb1⟩)
  go_ret
  exact ⟨rfl, hb1⟩
end Go.Proofs.YtjklnnklgkihlaaGreatDoor.Grd
/- A row of the screen turned: its mark, its cells. -/
namespace Go.Proofs.YtjklnnklgkihlaaGreatDoor.Grd
open Go.RowKit

theorem rowsL_set {ms : List MR} {k : Nat} (hk : k < ms.length) (m : MR) : rowsL (ms.set k m) = splice (rowsL ms) (2 * k) (mrL m) := by
  have hs : ms.set k m = ms.take k ++ m :: ms.drop (k + 1) := by rw [List.set_eq_take_append_cons_drop, if_pos hk]
  have e1 : rowsL ms = rowsL (ms.take k) ++ rowsL (ms.drop k) := by rw [← rowsL_app, List.take_append_drop]
  have e2 : rowsL (ms.drop k) = mrL ms[k] ++ rowsL (ms.drop (k + 1)) := by rw [List.drop_eq_getElem_cons hk]; rfl
  have hl : (rowsL (ms.take k)).length = 2 * k := by rw [rowsL_len, List.length_take]; omega
  rw [hs, rowsL_app]
  unfold splice
  rw [mrL_len, e1, e2, List.take_left' hl, List.append_assoc, show 2 * k + 2 = (rowsL (ms.take k) ++ mrL ms[k]).length by rw [List.length_append, hl, mrL_len], ← List.append_assoc (rowsL (ms.take k)) (mrL ms[k]) (rowsL (ms.drop (k + 1))), List.drop_left]
  rfl
theorem splice_one {xs : List Value} {o : Nat} (v : Value) (h : o < xs.length) : splice xs o [v] = xs.set o v := by
  have := splice_cons (xs := xs) (o := o) v [] (by simp; omega)
  rw [splice_nil] at this
  exact this.symm
theorem rowsL_wr {ms : List MR} {k : Nat} (hk : k < ms.length) (is : Bool) : rowsL (ms.set k { ms[k] with wr := is }) = (rowsL ms).set (k * 2 + 1) (.bool is) := by
  have e2 : rowsL ms = rowsL (ms.take k) ++ (mrL ms[k] ++ rowsL (ms.drop (k + 1))) := by
    have h1 : mrL ms[k] ++ rowsL (ms.drop (k + 1)) = rowsL (ms[k] :: ms.drop (k + 1)) := rfl
    rw [h1, ← rowsL_app, ← List.drop_eq_getElem_cons hk, List.take_append_drop]
  have hl : (rowsL (ms.take k)).length = 2 * k := by rw [rowsL_len, List.length_take]; omega
  rw [rowsL_set hk]
  unfold splice
  rw [mrL_len, e2, List.take_left' hl, List.set_append_right _ _ (by omega), hl, show k * 2 + 1 - 2 * k = 1 by omega]
  rw [List.drop_append, hl, show 2 * k + 2 - 2 * k = 2 by omega, List.drop_of_length_le (l := rowsL (ms.take k)) (by omega), List.append_assoc]
  rfl
/-- The same blocks, in the same order. -/
theorem set_b {ms : List MR} {k : Nat} (hk : k < ms.length) {m : MR} (hb : m.b = ms[k].b) : (ms.set k m).map MR.b = ms.map MR.b := by
  rw [List.map_set, hb]
  apply List.ext_getElem?
  intro i
  rw [List.getElem?_set]
  by_cases h : k = i
  · subst h
    rw [if_pos rfl, if_pos (by simpa using hk), List.getElem?_map, List.getElem?_eq_getElem hk]
    rfl
  · rw [if_neg h]
theorem nodup_ne {l : List Nat} (h : l.Nodup) {i j : Nat} (hi : i < l.length) (hj : j < l.length) (hne : i ≠ j) : l[i] ≠ l[j] := fun e => hne ((List.getElem_inj h).1 e)
theorem Held.set {w w' : World} {ms : List MR} (h : Held w ms) {k : Nat} (hk : k < ms.length) {m : MR} (hb : m.b = ms[k].b) (hm : CellsAt w' m.b m.l m.cap) {F : List Nat} (ho : Only F w w') (hF : ∀ i (hi : i < ms.length), i ≠ k → ms[i].b ∉ F) : Held w' (ms.set k m) := by
  refine ⟨fun x hx => ?_, by rw [set_b hk hb]; exact h.apart⟩
  obtain ⟨i, hi, rfl⟩ := List.getElem_of_mem hx
  rw [List.length_set] at hi
  rw [List.getElem_set]
  by_cases e : k = i
  · rw [if_pos e]; exact hm
  · rw [if_neg e]; exact (h.at_ _ (List.getElem_mem hi)).only ho (hF i hi (fun e2 => e e2.symm))
/-- A grid with another row in the place of one of the screen's, in the same block. -/
theorem GridAt.set_row {w w' : World} {g s : Nat} {pv : Value} {fp : List Nat} {G : GS} (h : GridAt w g s pv fp G) {k : Nat} (hk : k < G.scr.length) {m : MR} (hb : m.b = G.scr[k].b) (hl : m.l.length = G.cols) (hm : CellsAt w' m.b m.l m.cap)
    {F : List Nat} (ho : Only F w w') (hg : g ∉ F) (hp : ∀ x ∈ fp, x ∉ F) (hs : BL w' s 78 (rowsL (G.scr.set k m))) (hF : ∀ x ∈ F, x = s ∨ x = m.b) : GridAt w' g s pv fp { G with scr := G.scr.set k m } := by
  have hkk : G.past.length + k < (G.past ++ G.scr).length := by rw [List.length_append]; omega
  have hget : (G.past ++ G.scr)[G.past.length + k] = G.scr[k] := by rw [List.getElem_append_right (by omega)]; simp
  have hset : G.past ++ G.scr.set k m = (G.past ++ G.scr).set (G.past.length + k) m := by rw [List.set_append_right _ _ (by omega)]; simp
  have hns : ∀ x ∈ G.past ++ G.scr, x.b ≠ s := fun x hx e => h.far x hx (by simp [e])
  refine ⟨?_, h.tab.only ho hp, hs, ?_, h.apart, ?_, ?_, h.c1, h.c2, by show 1 ≤ (G.scr.set k m).length; rw [List.length_set]; exact h.r1, by show (G.scr.set k m).length ≤ 120; rw [List.length_set]; exact h.r2, h.l2, h.p2⟩
  · show BL w' g _ [_, _, _, slV s 0 (G.scr.set k m).length (G.scr.set k m).length]
    rw [List.length_set]
    exact h.blk.only ho hg
  · show Held w' (G.past ++ G.scr.set k m)
    rw [hset]
    refine h.held.set hkk (by rw [hget]; exact hb) hm ho fun i hi hne hx => ?_
    rcases hF _ hx with e | e
    · exact hns _ (List.getElem_mem hi) e
    · have := nodup_ne h.held.apart (i := i) (j := G.past.length + k) (by simpa using hi) (by simpa using hkk) hne
      simp only [List.getElem_map] at this
      exact this (by rw [hget, e, hb])
  · show ∀ x ∈ G.past ++ G.scr.set k m, _
    rw [hset]
    intro x hx
    rcases List.mem_or_eq_of_mem_set hx with hx | rfl
    · exact h.far x hx
    · rw [hb]; exact h.far _ (List.mem_append_right _ (List.getElem_mem hk))
  · show ∀ x ∈ G.past ++ G.scr.set k m, x.l.length = G.cols
    rw [hset]
    intro x hx
    rcases List.mem_or_eq_of_mem_set hx with hx | rfl
    · exact h.cells x hx
    · exact hl
set_option maxRecDepth 100000 in
theorem wrap_any {w : World} {g s : Nat} {pv : Value} {fp : List Nat} {G : GS} (h : GridAt w g s pv fp G) (k : Nat) (hk : k < G.scr.length) (is : Bool) :
    Calls Tryz.prog 130 #[.pointer (some ⟨g, 0, none⟩), .int .i64 (k : Int), .bool is] w fun e w' => e = .returned (.tuple #[]) ∧ GridAt w' g s pv fp { G with scr := G.scr.set k { G.scr[k] with wr := is } } ∧ Only [s] w w' := by
  have hsh := shows_any h (k : Int) true (by simp; omega)
  have h3 := h.f3
  have hr := h.r2
  obtain ⟨_, c1⟩ := h.row_cells hk
  have hf := h.scr.frozen (k * 2 + 1)
  have hap := h.apart
  simp only [List.nodup_cons, List.mem_cons, not_or] at hap
  have ho : Only [s] w (w.setCell ⟨s, k * 2 + 1, none⟩ (.bool is)) := (Only.refl _ _).setCell (.inl (by simp)) _
  have hfin : GridAt (w.setCell ⟨s, k * 2 + 1, none⟩ (.bool is)) g s pv fp { G with scr := G.scr.set k { G.scr[k] with wr := is } } := by
    have hmem : G.scr[k] ∈ G.past ++ G.scr := List.mem_append_right _ (List.getElem_mem hk)
    refine h.set_row (m := { G.scr[k] with wr := is }) hk rfl (show G.scr[k].l.length = G.cols from h.cells _ hmem) (show CellsAt _ G.scr[k].b G.scr[k].l G.scr[k].cap from (h.held.at_ _ hmem).only ho (fun e => h.far _ hmem (by simp at e; simp [e]))) ho (by simp; exact hap.1.1) (fun x hx e => ?_) ?_ (fun x hx => .inl (by simpa using hx))
    · simp only [List.mem_cons, List.not_mem_nil, or_false] at e
      exact hap.2.1 (e ▸ hx)
    · rw [rowsL_wr hk]; exact h.scr.set_ _ _
  clear h hap
  go_enter Tryz.func130, Tryz.ntmps130
  go_wp2_with (go_at_call 119; refine hsh.mono ?_; rintro _ w1 ⟨rfl, rfl⟩)
  exact body_end rfl rfl ⟨rfl, hfin, ho⟩
end Go.Proofs.YtjklnnklgkihlaaGreatDoor.Grd
/- The plain functions of layer 1 (bytes to runes, widths, cuts, fills), on lists and integers, with their laws; no program is named here. -/
namespace Go.Proofs.YtjklnnklgkihlaaGreatDoor.Cel

/-- What a decoder holds: bytes pending, bytes missing, the bits so far, the next byte's bounds. -/
structure Dec where
  p : Int
  m : Int
  r : Int
  lo : Int
  hi : Int

def zero : Dec := ⟨0, 0, 0, 0, 0⟩

/-- How many bytes go behind the second one; -1: the byte opens nothing. -/
def more (b : Int) : Int := if 194 ≤ b ∧ b ≤ 223 then 0 else if 224 ≤ b ∧ b ≤ 239 then 1 else if 240 ≤ b ∧ b ≤ 244 then 2 else -1
def lo (b : Int) : Int := if b = 224 then 160 else if b = 240 then 144 else 128
def hi (b : Int) : Int := if b = 237 then 159 else if b = 244 then 143 else 191
def mask (b : Int) : Int := if b ≤ 223 then b - 192 else if b ≤ 239 then b - 224 else b - 240
def opened (b : Int) : Dec := ⟨1, 1 + more b, mask b, lo b, hi b⟩

/-- What is told of pending bytes that are given up. -/
def lost (d : Dec) : List Int := if d.p = 0 then [] else [65533]
def first (b : Int) : Dec × List Int := if b < 128 then (zero, [b]) else if more b = -1 then (zero, [65533]) else (opened b, [])
def next (d : Dec) (b : Int) : Dec × List Int := if d.m = 1 then (zero, [d.r * 64 + b % 64]) else (⟨d.p + 1, d.m - 1, d.r * 64 + b % 64, 128, 191⟩, [])
def fits (d : Dec) (b : Int) : Prop := 0 < d.p ∧ d.lo ≤ b ∧ b ≤ d.hi
instance (d : Dec) (b : Int) : Decidable (fits d b) := by unfold fits; infer_instance
def step (d : Dec) (b : Int) : Dec × List Int := if fits d b then next d b else ((first b).1, lost d ++ (first b).2)

def run : Dec → List UInt8 → Dec × List Int
  | d, [] => (d, [])
  | d, b :: l => ((run (step d (b.toNat : Int)).1 l).1, (step d (b.toNat : Int)).2 ++ (run (step d (b.toNat : Int)).1 l).2)
def runes (l : List UInt8) : List Int := (run zero l).2 ++ lost (run zero l).1

/-- The states that a decoder can be in. -/
def Inv (d : Dec) : Prop :=
  d = zero ∨ (d.p = 1 ∧ d.m = 1 ∧ 2 ≤ d.r ∧ d.r ≤ 31 ∧ d.lo = 128 ∧ d.hi = 191) ∨
  (d.p = 1 ∧ d.m = 2 ∧ ((d.r = 0 ∧ d.lo = 160 ∧ d.hi = 191) ∨ (d.r = 13 ∧ d.lo = 128 ∧ d.hi = 159) ∨ (1 ≤ d.r ∧ d.r ≤ 15 ∧ d.r ≠ 13 ∧ d.lo = 128 ∧ d.hi = 191))) ∨
  (d.p = 1 ∧ d.m = 3 ∧ ((d.r = 0 ∧ d.lo = 144 ∧ d.hi = 191) ∨ (d.r = 4 ∧ d.lo = 128 ∧ d.hi = 143) ∨ (1 ≤ d.r ∧ d.r ≤ 3 ∧ d.lo = 128 ∧ d.hi = 191))) ∨
  (d.p = 2 ∧ d.m = 1 ∧ 32 ≤ d.r ∧ d.r ≤ 1023 ∧ ¬ (864 ≤ d.r ∧ d.r ≤ 895) ∧ d.lo = 128 ∧ d.hi = 191) ∨
  (d.p = 2 ∧ d.m = 2 ∧ 16 ≤ d.r ∧ d.r ≤ 271 ∧ d.lo = 128 ∧ d.hi = 191) ∨
  (d.p = 3 ∧ d.m = 1 ∧ 1024 ≤ d.r ∧ d.r ≤ 17407 ∧ d.lo = 128 ∧ d.hi = 191)

/-- A rune that can be written. -/
def good (r : Int) : Prop := (0 ≤ r ∧ r < 55296) ∨ (57344 ≤ r ∧ r ≤ 1114111)
theorem good_valid {r : Int} (h : good r) : Utf8.valid r = true := by
  rw [validRune_eq]; unfold validRune good at *; simp; omega

/-- The bounds that a decoder's fields keep. -/
structure Bd (d : Dec) : Prop where
  p0 : 0 ≤ d.p
  p1 : d.p ≤ 3
  m0 : 0 ≤ d.m
  m1 : d.m ≤ 3
  r0 : 0 ≤ d.r
  r1 : d.r ≤ 17407
  lo0 : 0 ≤ d.lo
  lo1 : d.lo ≤ 255
  hi0 : 0 ≤ d.hi
  hi1 : d.hi ≤ 255
  pm : d.p = 0 ↔ d.m = 0
theorem Inv.bd {d : Dec} (h : Inv d) : Bd d := by
  unfold Inv at h
  rcases h with h | h
  · subst h; constructor <;> simp [zero]
  · constructor <;> omega
theorem Inv.zero_of {d : Dec} (h : Inv d) (hp : d.p = 0) : d = zero := by
  unfold Inv at h
  rcases h with h | h
  · exact h
  · exfalso; omega
theorem inv_zero : Inv zero := Or.inl rfl

theorem inv_p1m1 {r : Int} (h1 : 2 ≤ r) (h2 : r ≤ 31) : Inv ⟨1, 1, r, 128, 191⟩ := Or.inr (Or.inl ⟨rfl, rfl, h1, h2, rfl, rfl⟩)
theorem inv_p2m1 {r : Int} (h1 : 32 ≤ r) (h2 : r ≤ 1023) (h3 : ¬ (864 ≤ r ∧ r ≤ 895)) : Inv ⟨2, 1, r, 128, 191⟩ := Or.inr (Or.inr (Or.inr (Or.inr (Or.inl ⟨rfl, rfl, h1, h2, h3, rfl, rfl⟩))))
theorem inv_p2m2 {r : Int} (h1 : 16 ≤ r) (h2 : r ≤ 271) : Inv ⟨2, 2, r, 128, 191⟩ := Or.inr (Or.inr (Or.inr (Or.inr (Or.inr (Or.inl ⟨rfl, rfl, h1, h2, rfl, rfl⟩)))))
theorem inv_p3m1 {r : Int} (h1 : 1024 ≤ r) (h2 : r ≤ 17407) : Inv ⟨3, 1, r, 128, 191⟩ := Or.inr (Or.inr (Or.inr (Or.inr (Or.inr (Or.inr ⟨rfl, rfl, h1, h2, rfl, rfl⟩)))))
theorem next_one {d : Dec} {b : Int} (hm : d.m = 1) : next d b = (zero, [d.r * 64 + b % 64]) := by unfold next; rw [if_pos hm]
theorem next_more {d : Dec} {b : Int} (hm : d.m ≠ 1) : next d b = (⟨d.p + 1, d.m - 1, d.r * 64 + b % 64, 128, 191⟩, []) := by unfold next; rw [if_neg hm]
theorem next_inv {d : Dec} {b : Int} (h : Inv d) (hf : fits d b) : Inv (next d b).1 ∧ ∀ r ∈ (next d b).2, good r := by
  obtain ⟨p, m, r, l, u⟩ := d
  unfold fits at hf
  unfold Inv at h
  simp only at hf h
  have one : ∀ x : Int, good x → Inv (zero, [x]).1 ∧ ∀ r ∈ (zero, [x]).2, good r := fun x hx => ⟨inv_zero, fun r hr => by simp at hr; subst hr; exact hx⟩
  rcases h with h | ⟨rfl, rfl, h⟩ | ⟨rfl, rfl, h⟩ | ⟨rfl, rfl, h⟩ | ⟨rfl, rfl, h⟩ | ⟨rfl, rfl, h⟩ | ⟨rfl, rfl, h⟩
  · exfalso; simp only [zero, Dec.mk.injEq] at h; omega
  · rw [next_one rfl]; refine one _ ?_; unfold good; simp only; omega
  · rw [next_more (by simp only; omega)]
    refine ⟨?_, by simp⟩
    show Inv ⟨1 + 1, 2 - 1, r * 64 + b % 64, 128, 191⟩
    exact inv_p2m1 (by rcases h with h | h | h <;> omega) (by rcases h with h | h | h <;> omega) (by rcases h with h | h | h <;> omega)
  · rw [next_more (by simp only; omega)]
    refine ⟨?_, by simp⟩
    show Inv ⟨1 + 1, 3 - 1, r * 64 + b % 64, 128, 191⟩
    exact inv_p2m2 (by rcases h with h | h | h <;> omega) (by rcases h with h | h | h <;> omega)
  · rw [next_one rfl]; refine one _ ?_; unfold good; simp only; omega
  · rw [next_more (by simp only; omega)]
    refine ⟨?_, by simp⟩
    show Inv ⟨2 + 1, 2 - 1, r * 64 + b % 64, 128, 191⟩
    exact inv_p3m1 (by omega) (by omega)
  · rw [next_one rfl]; refine one _ ?_; unfold good; simp only; omega
/-- The bytes that open a sequence. -/
theorem opens {b : Int} (hm : more b ≠ -1) :
    (194 ≤ b ∧ b ≤ 223 ∧ more b = 0 ∧ mask b = b - 192 ∧ lo b = 128 ∧ hi b = 191) ∨ (b = 224 ∧ more b = 1 ∧ mask b = 0 ∧ lo b = 160 ∧ hi b = 191) ∨
    (b = 237 ∧ more b = 1 ∧ mask b = 13 ∧ lo b = 128 ∧ hi b = 159) ∨ (225 ≤ b ∧ b ≤ 239 ∧ b ≠ 237 ∧ more b = 1 ∧ mask b = b - 224 ∧ lo b = 128 ∧ hi b = 191) ∨
    (b = 240 ∧ more b = 2 ∧ mask b = 0 ∧ lo b = 144 ∧ hi b = 191) ∨ (241 ≤ b ∧ b ≤ 243 ∧ more b = 2 ∧ mask b = b - 240 ∧ lo b = 128 ∧ hi b = 191) ∨
    (b = 244 ∧ more b = 2 ∧ mask b = 4 ∧ lo b = 128 ∧ hi b = 143) := by
  have hr : (194 ≤ b ∧ b ≤ 223) ∨ b = 224 ∨ b = 237 ∨ (225 ≤ b ∧ b ≤ 239 ∧ b ≠ 237) ∨ b = 240 ∨ (241 ≤ b ∧ b ≤ 243) ∨ b = 244 := by
    unfold more at hm
    repeat' split at hm
    all_goals omega
  rcases hr with h | rfl | rfl | h | rfl | h | rfl
  · left
    have e1 : more b = 0 := by unfold more; rw [if_pos h]
    have e2 : mask b = b - 192 := by unfold mask; rw [if_pos h.2]
    have e3 : lo b = 128 := by unfold lo; rw [if_neg (by omega), if_neg (by omega)]
    have e4 : hi b = 191 := by unfold hi; rw [if_neg (by omega), if_neg (by omega)]
    exact ⟨h.1, h.2, e1, e2, e3, e4⟩
  · right; left; decide
  · right; right; left; decide
  · right; right; right; left
    have e1 : more b = 1 := by unfold more; rw [if_neg (by omega), if_pos (by omega)]
    have e2 : mask b = b - 224 := by unfold mask; rw [if_neg (by omega), if_pos (by omega)]
    have e3 : lo b = 128 := by unfold lo; rw [if_neg (by omega), if_neg (by omega)]
    have e4 : hi b = 191 := by unfold hi; rw [if_neg (by omega), if_neg (by omega)]
    exact ⟨h.1, h.2.1, h.2.2, e1, e2, e3, e4⟩
  · right; right; right; right; left; decide
  · right; right; right; right; right; left
    have e1 : more b = 2 := by unfold more; rw [if_neg (by omega), if_neg (by omega), if_pos (by omega)]
    have e2 : mask b = b - 240 := by unfold mask; rw [if_neg (by omega), if_neg (by omega)]
    have e3 : lo b = 128 := by unfold lo; rw [if_neg (by omega), if_neg (by omega)]
    have e4 : hi b = 191 := by unfold hi; rw [if_neg (by omega), if_neg (by omega)]
    exact ⟨h.1, h.2, e1, e2, e3, e4⟩
  · right; right; right; right; right; right; decide
theorem opened_inv {b : Int} (hm : more b ≠ -1) : Inv (opened b) := by
  unfold opened
  rcases opens hm with ⟨h1, h2, e1, e2, e3, e4⟩ | ⟨_, e1, e2, e3, e4⟩ | ⟨_, e1, e2, e3, e4⟩ | ⟨h1, h2, h3, e1, e2, e3, e4⟩ | ⟨_, e1, e2, e3, e4⟩ | ⟨h1, h2, e1, e2, e3, e4⟩ | ⟨_, e1, e2, e3, e4⟩
  all_goals (rw [e1, e2, e3, e4])
  · exact inv_p1m1 (by omega) (by omega)
  · exact Or.inr (Or.inr (Or.inl ⟨rfl, rfl, Or.inl ⟨rfl, rfl, rfl⟩⟩))
  · exact Or.inr (Or.inr (Or.inl ⟨rfl, rfl, Or.inr (Or.inl ⟨rfl, rfl, rfl⟩)⟩))
  · exact Or.inr (Or.inr (Or.inl ⟨rfl, rfl, Or.inr (Or.inr ⟨show 1 ≤ b - 224 by omega, show b - 224 ≤ 15 by omega, show b - 224 ≠ 13 by omega, rfl, rfl⟩)⟩))
  · exact Or.inr (Or.inr (Or.inr (Or.inl ⟨rfl, rfl, Or.inl ⟨rfl, rfl, rfl⟩⟩)))
  · exact Or.inr (Or.inr (Or.inr (Or.inl ⟨rfl, rfl, Or.inr (Or.inr ⟨show 1 ≤ b - 240 by omega, show b - 240 ≤ 3 by omega, rfl, rfl⟩)⟩)))
  · exact Or.inr (Or.inr (Or.inr (Or.inl ⟨rfl, rfl, Or.inr (Or.inl ⟨rfl, rfl, rfl⟩)⟩)))
theorem first_inv {b : Int} (h0 : 0 ≤ b) (h1 : b ≤ 255) : Inv (first b).1 ∧ ∀ r ∈ (first b).2, good r := by
  unfold first
  split
  · refine ⟨inv_zero, ?_⟩
    intro r hr; simp at hr; subst hr; unfold good; omega
  · split
    · refine ⟨inv_zero, ?_⟩
      intro r hr; simp at hr; subst hr; unfold good; omega
    · rename_i hb hm
      exact ⟨opened_inv hm, by simp⟩
theorem lost_good (d : Dec) : ∀ r ∈ lost d, good r := by
  intro r hr
  unfold lost at hr
  split at hr
  · cases hr
  · simp at hr; subst hr; unfold good; omega
theorem step_inv {d : Dec} {b : Int} (h : Inv d) (h0 : 0 ≤ b) (h1 : b ≤ 255) : Inv (step d b).1 ∧ ∀ r ∈ (step d b).2, good r := by
  unfold step
  split
  · exact next_inv h ‹_›
  · refine ⟨(first_inv h0 h1).1, ?_⟩
    intro r hr
    rcases List.mem_append.1 hr with hr | hr
    · exact lost_good d r hr
    · exact (first_inv h0 h1).2 r hr

def pend (d : Dec) : Nat := if d.p = 0 then 0 else 1
theorem lost_length (d : Dec) : (lost d).length = pend d := by unfold lost pend; split <;> rfl
theorem first_count (b : Int) : (first b).2.length + pend (first b).1 = 1 := by
  unfold first
  split
  · simp [pend, zero]
  · split <;> simp [pend, zero, opened]
theorem step_count (d : Dec) (b : Int) : (step d b).2.length + pend (step d b).1 ≤ pend d + 1 := by
  unfold step
  split
  · rename_i hf
    unfold next
    have hp : pend d = 1 := by unfold pend; rw [if_neg]; unfold fits at hf; omega
    split
    · simp [pend, zero]
    · simp only [List.length_nil]; unfold pend at *; split <;> omega
  · have := first_count b
    simp only [List.length_append, lost_length]
    omega

theorem byte_le (b : UInt8) : 0 ≤ (b.toNat : Int) ∧ (b.toNat : Int) ≤ 255 := by
  have := b.toNat_lt
  omega
theorem run_inv : ∀ (l : List UInt8) (d : Dec), Inv d → Inv (run d l).1 ∧ ∀ r ∈ (run d l).2, good r
  | [], d, h => ⟨h, by simp [run]⟩
  | b :: l, d, h => by
    have hb := byte_le b
    have hs := step_inv h hb.1 hb.2
    have ih := run_inv l _ hs.1
    refine ⟨ih.1, ?_⟩
    intro r hr
    simp only [run] at hr
    rcases List.mem_append.1 hr with hr | hr
    · exact hs.2 r hr
    · exact ih.2 r hr
theorem run_count : ∀ (l : List UInt8) (d : Dec), Inv d → (run d l).2.length + pend (run d l).1 ≤ pend d + l.length
  | [], d, _ => by simp [run]
  | b :: l, d, h => by
    have hb := byte_le b
    have hs := step_inv h hb.1 hb.2
    have ih := run_count l _ hs.1
    have hc := step_count d (b.toNat : Int)
    simp only [run, List.length_append, List.length_cons]
    omega
theorem run_append : ∀ (l k : List UInt8) (d : Dec), run d (l ++ k) = ((run (run d l).1 k).1, (run d l).2 ++ (run (run d l).1 k).2)
  | [], k, d => by simp [run]
  | b :: l, k, d => by
    have ih := run_append l k (step d (b.toNat : Int)).1
    simp only [List.cons_append, run, ih, List.append_assoc]
theorem run_snoc (l : List UInt8) (b : UInt8) (d : Dec) : run d (l ++ [b]) = ((step (run d l).1 (b.toNat : Int)).1, (run d l).2 ++ (step (run d l).1 (b.toNat : Int)).2) := by
  rw [run_append]; simp [run]
theorem runes_good (l : List UInt8) : ∀ r ∈ runes l, good r := by
  intro r hr
  unfold runes at hr
  rcases List.mem_append.1 hr with hr | hr
  · exact (run_inv l zero inv_zero).2 r hr
  · exact lost_good _ r hr
theorem runes_length (l : List UInt8) : (runes l).length ≤ l.length := by
  have h := run_count l zero inv_zero
  have h0 : pend zero = 0 := by simp [pend, zero]
  unfold runes
  rw [List.length_append, lost_length]
  omega

/-! ### The document's way: a rune at the front -/

/-- The document's inner loop: bits, bounds, bytes missing, bytes taken. -/
def scan : Int → Int → Int → Nat → Nat → List UInt8 → Int × Nat
  | r, _, _, 0, i, _ => (r, i)
  | _, _, _, _ + 1, _, [] => (0, 0)
  | r, lo, hi, m + 1, i, b :: l => if (b.toNat : Int) < lo ∨ hi < (b.toNat : Int) then (65533, i) else scan (r * 64 + (b.toNat : Int) % 64) 128 191 m (i + 1) l
def takeAt (b : Int) (l : List UInt8) : Int × Nat := if b < 128 then (b, 1) else if more b = -1 then (65533, 1) else scan (mask b) (lo b) (hi b) (more b + 1).toNat 1 l
def take : List UInt8 → Int × Nat
  | [] => (0, 0)
  | b :: l => takeAt (b.toNat : Int) l

theorem scan_run : ∀ (l : List UInt8) (m i : Nat) (r lo hi : Int), 0 < i →
    ((scan r lo hi (m + 1) i l).2 = 0 ∧ (run ⟨i, m + 1, r, lo, hi⟩ l).2 = [] ∧ (run ⟨i, m + 1, r, lo, hi⟩ l).1.p = i + l.length) ∨
    (i ≤ (scan r lo hi (m + 1) i l).2 ∧ (scan r lo hi (m + 1) i l).2 ≤ i + l.length ∧
      run ⟨i, m + 1, r, lo, hi⟩ l = ((run zero (l.drop ((scan r lo hi (m + 1) i l).2 - i))).1, (scan r lo hi (m + 1) i l).1 :: (run zero (l.drop ((scan r lo hi (m + 1) i l).2 - i))).2))
  | [], m, i, r, lo, hi, hi0 => by left; simp [scan, run]
  | b :: l, m, i, r, lo, hi, hi0 => by
    by_cases hb : (b.toNat : Int) < lo ∨ hi < (b.toNat : Int)
    · right
      have hs : scan r lo hi (m + 1) i (b :: l) = (65533, i) := by simp only [scan]; rw [if_pos hb]
      rw [hs]
      refine ⟨Nat.le_refl _, by simp, ?_⟩
      have hf : ¬ fits ⟨i, m + 1, r, lo, hi⟩ (b.toNat : Int) := by unfold fits; simp only; omega
      have hz : ¬ fits zero (b.toNat : Int) := by unfold fits zero; simp only; omega
      have hl : lost ⟨(i : Int), m + 1, r, lo, hi⟩ = [65533] := by unfold lost; rw [if_neg (by simp only; omega)]
      have hl0 : lost zero = [] := rfl
      simp only [Nat.sub_self, List.drop_zero, run, step, if_neg hf, if_neg hz, hl, hl0, List.nil_append, List.cons_append]
    · have hs : scan r lo hi (m + 1) i (b :: l) = scan (r * 64 + (b.toNat : Int) % 64) 128 191 m (i + 1) l := by simp only [scan]; rw [if_neg hb]
      have hf : fits ⟨i, m + 1, r, lo, hi⟩ (b.toNat : Int) := by unfold fits; simp only; omega
      rw [hs]
      cases m with
      | zero =>
        right
        simp only [scan]
        refine ⟨by omega, by simp, ?_⟩
        have he : i + 1 - i = 1 := by omega
        have hn : next ⟨(i : Int), ((0 : Nat) : Int) + 1, r, lo, hi⟩ (b.toNat : Int) = (zero, [r * 64 + (b.toNat : Int) % 64]) := by unfold next; rw [if_pos (by simp)]
        simp only [he, List.drop_succ_cons, List.drop_zero, run, step, if_pos hf, hn, List.cons_append, List.nil_append]
      | succ m =>
        have hn : next ⟨(i : Int), ((m + 1 : Nat) : Int) + 1, r, lo, hi⟩ (b.toNat : Int) = (⟨((i + 1 : Nat) : Int), (m : Int) + 1, r * 64 + (b.toNat : Int) % 64, 128, 191⟩, []) := by
          unfold next
          rw [if_neg (by simp only; omega)]
          simp only [Prod.mk.injEq, Dec.mk.injEq, and_true]
          omega
        have hr : run ⟨(i : Int), ((m + 1 : Nat) : Int) + 1, r, lo, hi⟩ (b :: l) = run ⟨((i + 1 : Nat) : Int), (m : Int) + 1, r * 64 + (b.toNat : Int) % 64, 128, 191⟩ l := by
          simp only [run, step, if_pos hf, hn, List.nil_append]
        rw [hr]
        rcases scan_run l m (i + 1) (r * 64 + (b.toNat : Int) % 64) 128 191 (by omega) with ⟨h1, h2, h3⟩ | ⟨h1, h2, h3⟩
        · left
          refine ⟨h1, h2, ?_⟩
          rw [h3]
          simp only [List.length_cons]
          omega
        · right
          refine ⟨by omega, by simp only [List.length_cons]; omega, ?_⟩
          rw [h3]
          have he : (scan (r * 64 + (b.toNat : Int) % 64) 128 191 (m + 1) (i + 1) l).2 - i = (scan (r * 64 + (b.toNat : Int) % 64) 128 191 (m + 1) (i + 1) l).2 - (i + 1) + 1 := by omega
          rw [he, List.drop_succ_cons]

theorem step_zero (b : Int) : step zero b = first b := by
  have hz : ¬ fits zero b := by unfold fits zero; simp
  unfold step
  rw [if_neg hz]
  rfl
theorem run_zero_cons (b : UInt8) (l : List UInt8) : run zero (b :: l) = ((run (first (b.toNat : Int)).1 l).1, (first (b.toNat : Int)).2 ++ (run (first (b.toNat : Int)).1 l).2) := by
  rw [← step_zero]
  rfl
theorem first_one {b : Int} (h : b < 128) : first b = (zero, [b]) := by unfold first; rw [if_pos h]
theorem first_bad {b : Int} (h : ¬ b < 128) (h2 : more b = -1) : first b = (zero, [65533]) := by unfold first; rw [if_neg h, if_pos h2]
theorem first_open {b : Int} (h : ¬ b < 128) (h2 : more b ≠ -1) : first b = (opened b, []) := by unfold first; rw [if_neg h, if_neg h2]
theorem take_cons (b : UInt8) (l : List UInt8) : take (b :: l) = takeAt (b.toNat : Int) l := rfl
theorem take_one {b : Int} {l : List UInt8} (h : b < 128) : takeAt b l = (b, 1) := by unfold takeAt; rw [if_pos h]
theorem take_bad {b : Int} {l : List UInt8} (h : ¬ b < 128) (h2 : more b = -1) : takeAt b l = (65533, 1) := by unfold takeAt; rw [if_neg h, if_pos h2]
theorem take_open {b : Int} {l : List UInt8} (h : ¬ b < 128) (h2 : more b ≠ -1) : takeAt b l = scan (mask b) (lo b) (hi b) (more b + 1).toNat 1 l := by unfold takeAt; rw [if_neg h, if_neg h2]
theorem more_nat {b : Int} (h2 : more b ≠ -1) : ∃ k : Nat, more b = (k : Int) ∧ k ≤ 2 := by
  rcases opens h2 with ⟨_, _, e, _⟩ | ⟨_, e, _⟩ | ⟨_, e, _⟩ | ⟨_, _, _, e, _⟩ | ⟨_, e, _⟩ | ⟨_, _, e, _⟩ | ⟨_, e, _⟩
  · exact ⟨0, e, by omega⟩
  · exact ⟨1, e, by omega⟩
  · exact ⟨1, e, by omega⟩
  · exact ⟨1, e, by omega⟩
  · exact ⟨2, e, by omega⟩
  · exact ⟨2, e, by omega⟩
  · exact ⟨2, e, by omega⟩

/-- A rune taken at the front is what the decoder tells first; where none is whole, nothing is told, and all is pending. -/
theorem take_run (l : List UInt8) (hl : l ≠ []) :
    ((take l).2 = 0 ∧ (run zero l).2 = [] ∧ (run zero l).1.p = l.length) ∨
    (1 ≤ (take l).2 ∧ (take l).2 ≤ l.length ∧ run zero l = ((run zero (l.drop (take l).2)).1, (take l).1 :: (run zero (l.drop (take l).2)).2)) := by
  cases l with
  | nil => exact absurd rfl hl
  | cons b l =>
    rw [run_zero_cons, take_cons]
    by_cases h1 : (b.toNat : Int) < 128
    · right
      rw [take_one h1, first_one h1]
      exact ⟨Nat.le_refl _, by simp, rfl⟩
    · by_cases h2 : more (b.toNat : Int) = -1
      · right
        rw [take_bad h1 h2, first_bad h1 h2]
        exact ⟨Nat.le_refl _, by simp, rfl⟩
      · obtain ⟨k, hk, _⟩ := more_nat h2
        have hk1 : (more (b.toNat : Int) + 1).toNat = k + 1 := by omega
        have e : opened (b.toNat : Int) = ⟨((1 : Nat) : Int), (k : Int) + 1, mask (b.toNat : Int), lo (b.toNat : Int), hi (b.toNat : Int)⟩ := by
          unfold opened
          rw [hk, Int.add_comm]
          rfl
        rw [take_open h1 h2, first_open h1 h2, hk1, e]
        simp only [List.nil_append, List.length_cons]
        rcases scan_run l k 1 (mask (b.toNat : Int)) (lo (b.toNat : Int)) (hi (b.toNat : Int)) (by omega) with ⟨h3, h4, h5⟩ | ⟨h3, h4, h5⟩
        · left
          refine ⟨h3, h4, ?_⟩
          rw [h5]; omega
        · right
          refine ⟨h3, by omega, ?_⟩
          rw [h5]
          have he : (scan (mask (b.toNat : Int)) (lo (b.toNat : Int)) (hi (b.toNat : Int)) (k + 1) 1 l).2 = (scan (mask (b.toNat : Int)) (lo (b.toNat : Int)) (hi (b.toNat : Int)) (k + 1) 1 l).2 - 1 + 1 := by omega
          conv => rhs; rw [he, List.drop_succ_cons]

/-! ### Widths and cuts -/

def spans : List (Int × Int × Int) := [(127, 159, -1), (768, 879, 0), (8203, 8207, 0), (65024, 65039, 0), (4352, 4447, 2), (11904, 12350, 2), (12353, 13311, 2), (13312, 19903, 2), (19968, 40959, 2), (40960, 42191, 2), (44032, 55203, 2), (63744, 64255, 2), (65072, 65135, 2), (65280, 65376, 2), (65504, 65510, 2), (127744, 128591, 2), (129280, 129535, 2), (131072, 262141, 2)]
def look : List (Int × Int × Int) → Int → Int
  | [], _ => 1
  | s :: l, r => if s.1 ≤ r ∧ r ≤ s.2.1 then s.2.2 else look l r
def width (r : Int) : Int := if r < 32 ∨ 1114111 < r then -1 else look spans r
def room (r : Int) : Int := max (width r) 0
/-- The document's question: is r in one of the ranges? -/
def within : List Int → Int → Bool
  | a :: b :: l, r => (decide (a ≤ r) && decide (r ≤ b)) || within l r
  | _, _ => false
def zeros : List Int := [768, 879, 8203, 8207, 65024, 65039]
def twos : List Int := [4352, 4447, 11904, 12350, 12353, 13311, 13312, 19903, 19968, 40959, 40960, 42191, 44032, 55203, 63744, 64255, 65072, 65135, 65280, 65376, 65504, 65510, 127744, 128591, 129280, 129535, 131072, 262141]
def pairs (w : Int) : List Int → List (Int × Int × Int)
  | a :: b :: l => (a, b, w) :: pairs w l
  | _ => []
theorem look_pairs (w : Int) (k : List (Int × Int × Int)) (r : Int) : ∀ l : List Int, look (pairs w l ++ k) r = if within l r = true then w else look k r
  | [] => by simp [pairs, within]
  | [_] => by simp [pairs, within]
  | a :: b :: l => by
    have ih := look_pairs w k r l
    simp only [pairs, List.cons_append, look, within, ih]
    by_cases h : a ≤ r ∧ r ≤ b
    · simp [h]
    · rw [if_neg h]
      have h2 : (decide (a ≤ r) && decide (r ≤ b)) = false := by
        rw [Bool.and_eq_false_iff, decide_eq_false_iff_not, decide_eq_false_iff_not]; omega
      simp only [h2, Bool.false_or]
theorem spans_eq : spans = pairs (-1) [127, 159] ++ (pairs 0 zeros ++ (pairs 2 twos ++ [])) := rfl
/-- The document's width is the table's. -/
theorem width_eq (r : Int) : width r = if r < 32 ∨ (127 ≤ r ∧ r ≤ 159) ∨ 1114111 < r then -1 else if within zeros r = true then 0 else if within twos r = true then 2 else 1 := by
  unfold width
  by_cases h : r < 32 ∨ 1114111 < r
  · rw [if_pos h, if_pos (by omega)]
  · rw [if_neg h, spans_eq, look_pairs, look_pairs, look_pairs]
    by_cases h2 : 127 ≤ r ∧ r ≤ 159
    · have hw : within [127, 159] r = true := by simp [within, h2]
      rw [if_pos hw, if_pos (Or.inr (Or.inl h2))]
    · have hw : within [127, 159] r = false := by
        simp only [within, Bool.or_false]
        rw [Bool.and_eq_false_iff, decide_eq_false_iff_not, decide_eq_false_iff_not]; omega
      have hn : ¬ (r < 32 ∨ (127 ≤ r ∧ r ≤ 159) ∨ 1114111 < r) := by omega
      rw [if_neg (by rw [hw]; simp), if_neg hn]
      rfl
theorem look_bd (r : Int) : ∀ l : List (Int × Int × Int), (∀ s ∈ l, -1 ≤ s.2.2 ∧ s.2.2 ≤ 2) → -1 ≤ look l r ∧ look l r ≤ 2
  | [], _ => by simp [look]
  | s :: l, h => by
    unfold look
    split
    · exact h s (by simp)
    · exact look_bd r l fun x hx => h x (by simp [hx])
theorem width_bd (r : Int) : -1 ≤ width r ∧ width r ≤ 2 := by
  unfold width
  split
  · omega
  · exact look_bd r spans (by decide)
theorem room_bd (r : Int) : 0 ≤ room r ∧ room r ≤ 2 := by
  have := width_bd r
  unfold room
  omega

def cols : List Int → Int
  | [] => 0
  | r :: l => room r + cols l
theorem cols_append : ∀ l k : List Int, cols (l ++ k) = cols l + cols k
  | [], k => by simp [cols]
  | r :: l, k => by simp only [List.cons_append, cols, cols_append l k]; omega
theorem cols_bd : ∀ l : List Int, 0 ≤ cols l ∧ cols l ≤ 2 * l.length
  | [] => by simp [cols]
  | r :: l => by
    have := room_bd r
    have := cols_bd l
    simp only [cols, List.length_cons]
    omega
/-- The first columns: runes as long as they fit. -/
def cut : List Int → Int → List Int
  | [], _ => []
  | r :: l, n => if room r ≤ n then r :: cut l (n - room r) else []
/-- The last columns. -/
def cutLeft : List Int → Int → List Int
  | [], _ => []
  | r :: l, n => if cols (r :: l) ≤ n then r :: l else cutLeft l n
theorem cut_prefix : ∀ (l : List Int) (n : Int), ∃ k, l = cut l n ++ k
  | [], n => ⟨[], rfl⟩
  | r :: l, n => by
    obtain ⟨k, hk⟩ := cut_prefix l (n - room r)
    unfold cut
    split
    · exact ⟨k, by rw [List.cons_append, ← hk]⟩
    · exact ⟨r :: l, rfl⟩
theorem cutLeft_suffix : ∀ (l : List Int) (n : Int), ∃ k, l = k ++ cutLeft l n
  | [], n => ⟨[], rfl⟩
  | r :: l, n => by
    unfold cutLeft
    split
    · exact ⟨[], rfl⟩
    · obtain ⟨k, hk⟩ := cutLeft_suffix l n
      exact ⟨r :: k, by rw [List.cons_append, ← hk]⟩
theorem cut_cols : ∀ (l : List Int) (n : Int), (0 ≤ n → cols (cut l n) ≤ n) ∧ (n < 0 → cut l n = [])
  | [], n => by simp [cut, cols]
  | r :: l, n => by
    have h := room_bd r
    have ih := cut_cols l (n - room r)
    unfold cut
    split
    · refine ⟨fun hn => ?_, fun hn => by omega⟩
      have := ih.1 (by omega)
      simp only [cols]
      omega
    · exact ⟨fun hn => by simpa [cols] using hn, fun _ => rfl⟩

/-! ### Runes written as bytes -/
def enc (r : Int) : List UInt8 := (Utf8.encode r).data.toList
def bytes (ns : List Int) : List UInt8 := ns.flatMap enc
theorem bytes_append (l k : List Int) : bytes (l ++ k) = bytes l ++ bytes k := by simp [bytes]
theorem bytes_cons (r : Int) (k : List Int) : bytes (r :: k) = enc r ++ bytes k := by simp [bytes]
theorem foldl_data (ns : List Int) : ∀ s : ByteArray, (ns.foldl (fun r n => r ++ Utf8.encode n) s).data.toList = s.data.toList ++ bytes ns := by
  induction ns with
  | nil => intro s; simp [bytes]
  | cons n ns ih => intro s; rw [List.foldl_cons, ih, bytes_cons]; simp [enc, ByteArray.data_append]
theorem runesBytes_list (ns : List Int) : (runesBytes ns).data.toList = bytes ns := by
  unfold runesBytes
  rw [foldl_data]
  simp
theorem runesBytes_eq (ns : List Int) : runesBytes ns = ⟨(bytes ns).toArray⟩ := by
  rw [← runesBytes_list]
end Go.Proofs.YtjklnnklgkihlaaGreatDoor.Cel
