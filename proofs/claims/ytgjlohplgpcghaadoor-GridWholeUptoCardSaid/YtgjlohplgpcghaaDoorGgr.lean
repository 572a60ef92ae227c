/- A grid in memory; a new one. -/
import Derived.Test.YtgjlohplgpcghaaDoorGta
namespace Go.Proofs.YtgjlohplgpcghaaDoor.Grd
open Go.RowKit

/-- A grid, with the blocks of its rows. -/
structure GS where
  cols : Nat
  limit : Nat
  past : List MR
  scr : List MR
/-- A table that may lie anywhere in its block, or be none. -/
def TabAt (w : World) (v : Value) (ms : List MR) (F : List Nat) : Prop :=
  (v = .slice none 0 0 ∧ ms = [] ∧ F = []) ∨
  ∃ p off c pre tail, v = slV p (2 * off) ms.length c ∧ ms.length ≤ c ∧ c ≤ maxLen ∧ pre.length = 2 * off ∧ 2 * (c - ms.length) ≤ tail.length ∧ BL w p 73 (pre ++ rowsL ms ++ tail) ∧ F = [p]
theorem TabAt.only {w w' : World} {v : Value} {ms : List MR} {F G : List Nat} (h : TabAt w v ms F) (ho : Only G w w') (hF : ∀ x ∈ F, x ∉ G) : TabAt w' v ms F := by
  rcases h with h | ⟨p, off, c, pre, tail, h1, h2, h3, h4, h5, h6, rfl⟩
  · exact .inl h
  · exact .inr ⟨p, off, c, pre, tail, h1, h2, h3, h4, h5, h6.only ho (hF p (by simp)), rfl⟩
structure GridAt (w : World) (g s : Nat) (pv : Value) (fp : List Nat) (G : GS) : Prop where
  blk : BL w g 70 [.int .i64 (G.cols : Int), .int .i64 (G.limit : Int), pv, slV s 0 G.scr.length G.scr.length]
  tab : TabAt w pv G.past fp
  scr : BL w s 73 (rowsL G.scr)
  held : Held w (G.past ++ G.scr)
  apart : (g :: s :: fp).Nodup
  far : ∀ m ∈ G.past ++ G.scr, m.b ∉ g :: s :: fp
  cells : ∀ m ∈ G.past ++ G.scr, m.l.length = G.cols
  c1 : 1 ≤ G.cols
  c2 : G.cols ≤ 250
  r1 : 1 ≤ G.scr.length
  r2 : G.scr.length ≤ 120
  l2 : G.limit ≤ 2000
  p2 : G.past.length ≤ G.limit
/-- The blocks of a grid. -/
def foot (g s : Nat) (fp : List Nat) (G : GS) : List Nat := g :: s :: fp ++ (G.past ++ G.scr).map MR.b
theorem GridAt.only {w w' : World} {g s : Nat} {pv : Value} {fp F : List Nat} {G : GS} (h : GridAt w g s pv fp G) (ho : Only F w w') (hF : ∀ x ∈ foot g s fp G, x ∉ F) : GridAt w' g s pv fp G := by
  have h1 : ∀ x ∈ g :: s :: fp, x ∉ F := fun x hx => hF x (List.mem_append_left _ hx)
  have h2 : ∀ m ∈ G.past ++ G.scr, m.b ∉ F := fun m hm => hF m.b (List.mem_append_right _ (List.mem_map_of_mem hm))
  exact ⟨h.blk.only ho (h1 g (by simp)), h.tab.only ho (fun x hx => h1 x (by simp [hx])), h.scr.only ho (h1 s (by simp)), h.held.only ho h2, h.apart, h.far, h.cells, h.c1, h.c2, h.r1, h.r2, h.l2, h.p2⟩
theorem GridAt.below {w w' : World} {g s : Nat} {pv : Value} {fp : List Nat} {G : GS} (h : GridAt w g s pv fp G) (ho : Below w.heap.size w w') : GridAt w' g s pv fp G := h.only (F := []) (Only.of_below ho) (fun _ _ h => by cases h)

set_option maxRecDepth 100000 in
theorem isSize_any (c r : Int) (b : Bool) (hb : decide (1 ≤ c ∧ c ≤ 250 ∧ 1 ≤ r ∧ r ≤ 120) = b) (w : World) :
    Calls Tryd.prog 44 #[.int .i64 c, .int .i64 r] w fun e w' => e = .returned (.bool b) ∧ w = w' := by
  by_cases h1 : 1 ≤ c
  · by_cases h2 : c ≤ 250
    · by_cases h3 : 1 ≤ r
      · by_cases h4 : r ≤ 120
        · obtain rfl : b = true := by rw [← hb]; simp [h1, h2, h3, h4]
          clear hb
          go_enter Tryd.func44, Tryd.ntmps44
          go_wp2
          go_ret
          exact ⟨rfl, rfl⟩
        · obtain rfl : b = false := by rw [← hb]; simp [h4]
          have d : decide (r ≤ 120) = false := by simpa using h4
          clear hb
          go_enter Tryd.func44, Tryd.ntmps44
          go_wp2
          go_ret
          exact ⟨rfl, rfl⟩
      · obtain rfl : b = false := by rw [← hb]; simp [h3]
        have d : decide (1 ≤ r) = false := by simpa using h3
        clear hb
        go_enter Tryd.func44, Tryd.ntmps44
        go_wp2
        go_ret
        exact ⟨rfl, rfl⟩
    · obtain rfl : b = false := by rw [← hb]; simp [h2]
      have d : decide (c ≤ 250) = false := by simpa using h2
      clear hb
      go_enter Tryd.func44, Tryd.ntmps44
      go_wp2
      go_ret
      exact ⟨rfl, rfl⟩
  · obtain rfl : b = false := by rw [← hb]; simp [h1]
    have d : decide (1 ≤ c) = false := by simpa using h1
    clear hb
    go_enter Tryd.func44, Tryd.ntmps44
    go_wp2
    go_ret
    exact ⟨rfl, rfl⟩

set_option maxRecDepth 100000 in
theorem new_any (c r h : Nat) (hc1 : 1 ≤ c) (hc2 : c ≤ 250) (hr1 : 1 ≤ r) (hr2 : r ≤ 120) (hh : h ≤ 2000) (w : World) :
    Calls Tryd.prog 23 #[.int .i64 (c : Int), .int .i64 (r : Int), .int .i64 (h : Int)] w fun e w' => ∃ g s ms, e = .returned (.tuple #[.pointer (some ⟨g, 0, none⟩), .int .i64 0]) ∧
      GridAt w' g s (.slice none 0 0) [] ⟨c, h, [], ms⟩ ∧ ms.length = r ∧ Alike w.heap.size (List.replicate c plainCe) ms ∧ w.heap.size ≤ g ∧ w.heap.size ≤ s ∧ Below w.heap.size w w' := by
  have hs := fun w => isSize_any (c : Int) (r : Int) true (by simp; omega) w
  go_enter Tryd.func23, Tryd.ntmps23
  go_wp2_with (first
    | (go_at_call 44; refine (hs _).mono ?_; rintro _ w1 ⟨rfl, rfl⟩)
    | (go_at_call 48; refine (filled_nil c r _ hr1 (by omega) (by omega)).mono ?_; rintro _ w2 ⟨s, rfl, hsw, ms, hms, hB, hH, hK, hb2⟩))
  have hbs := hb2.size
  have hsl := hB.lt
  go_ret2
  refine ⟨w2.heap.size, s, ms, rfl, ⟨?_, .inl ⟨rfl, rfl, rfl⟩, hB.alloc _, (show Held w2 ([] ++ ms) from hH).only (F := []) ((Only.refl _ _).alloc _) (by simp), ?_, ?_, ?_, hc1, hc2, by show 1 ≤ ms.length; omega, by show ms.length ≤ 120; omega, hh, Nat.zero_le _⟩, hms, ?_, by omega, hsw, hb2.alloc hbs _⟩
  · have := BL.new w2 70 [.int .i64 (c : Int), .int .i64 (h : Int), .slice none 0 0, slV s 0 r r]
    rw [← hms] at this
    rw [← hms]
    exact this
  · simp; omega
  · intro m hm
    have h1 := (hK m hm).2.2
    have h2 := hH.lt (m := m) hm
    simp only [List.mem_cons, List.not_mem_nil, or_false, not_or]
    exact ⟨by omega, by omega⟩
  · intro m hm
    show m.l.length = c
    rw [(hK m hm).1, List.length_replicate]
  · intro m hm
    exact ⟨(hK m hm).1, (hK m hm).2.1, by have := (hK m hm).2.2; omega⟩
end Go.Proofs.YtgjlohplgpcghaaDoor.Grd
/- A grid's numbers, and its rows. -/
namespace Go.Proofs.YtgjlohplgpcghaaDoor.Grd
open Go.RowKit

theorem rowsL_at {ms : List MR} {i : Nat} (h : i < ms.length) (tail : List Value) (j : Nat) (hj : j < 2) : (rowsL ms ++ tail)[i * 2 + j]? = (mrL ms[i])[j]? := by
  have hf := rowsL_len ms
  rw [List.getElem?_append_left (by omega)]
  have e : rowsL ms = rowsL (ms.take i) ++ (mrL ms[i] ++ rowsL (ms.drop (i + 1))) := by
    have h1 : mrL ms[i] ++ rowsL (ms.drop (i + 1)) = rowsL (ms[i] :: ms.drop (i + 1)) := rfl
    rw [h1, ← rowsL_app, ← List.drop_eq_getElem_cons h, List.take_append_drop]
  have hl : (rowsL (ms.take i)).length = i * 2 := by rw [rowsL_len, List.length_take]; omega
  rw [e, List.getElem?_append_right (by omega), hl, show i * 2 + j - i * 2 = j by omega, List.getElem?_append_left (by rw [mrL_len]; exact hj)]
section
variable {w : World} {g s : Nat} {pv : Value} {fp : List Nat} {G : GS}
theorem GridAt.f0 (h : GridAt w g s pv fp G) : w.cell? ⟨g, 0, none⟩ = some (.int .i64 (G.cols : Int)) := h.blk.cell 0
theorem GridAt.f1 (h : GridAt w g s pv fp G) : w.cell? ⟨g, 1, none⟩ = some (.int .i64 (G.limit : Int)) := h.blk.cell 1
theorem GridAt.f2 (h : GridAt w g s pv fp G) : w.cell? ⟨g, 2, none⟩ = some pv := h.blk.cell 2
theorem GridAt.f3 (h : GridAt w g s pv fp G) : w.cell? ⟨g, 3, none⟩ = some (.slice (some ⟨s, 0, none⟩) G.scr.length G.scr.length) := h.blk.cell 3
theorem GridAt.row_cells (h : GridAt w g s pv fp G) {k : Nat} (hk : k < G.scr.length) :
    w.cell? ⟨s, k * 2, none⟩ = some (.slice (some ⟨G.scr[k].b, 0, none⟩) G.scr[k].l.length G.scr[k].cap) ∧ w.cell? ⟨s, k * 2 + 1, none⟩ = some (.bool G.scr[k].wr) := by
  have h0 := rowsL_at hk [] 0 (by omega)
  have h1 := rowsL_at hk [] 1 (by omega)
  rw [List.append_nil] at h0 h1
  exact ⟨by rw [h.scr.cell]; exact h0, by rw [h.scr.cell]; exact h1⟩
end
/-- What a row is as a value. -/
def rowV (m : MR) : Value := .agg #[.slice (some ⟨m.b, 0, none⟩) m.l.length m.cap, .bool m.wr]

set_option maxRecDepth 100000 in
theorem rows_any {w : World} {g s : Nat} {pv : Value} {fp : List Nat} {G : GS} (h : GridAt w g s pv fp G) :
    Calls Tryd.prog 22 #[.pointer (some ⟨g, 0, none⟩)] w fun e w' => e = .returned (.int .i64 (G.scr.length : Int)) ∧ w = w' := by
  have h3 := h.f3
  clear h
  go_enter Tryd.func22, Tryd.ntmps22
  go_wp2
  go_ret
  exact ⟨rfl, rfl⟩
set_option maxRecDepth 100000 in
theorem cols_any {w : World} {g s : Nat} {pv : Value} {fp : List Nat} {G : GS} (h : GridAt w g s pv fp G) :
    Calls Tryd.prog 21 #[.pointer (some ⟨g, 0, none⟩)] w fun e w' => e = .returned (.int .i64 (G.cols : Int)) ∧ w = w' := by
  have h3 := h.f0
  clear h
  go_enter Tryd.func21, Tryd.ntmps21
  go_wp2
  go_ret
  exact ⟨rfl, rfl⟩
set_option maxRecDepth 100000 in
theorem limit_any {w : World} {g s : Nat} {pv : Value} {fp : List Nat} {G : GS} (h : GridAt w g s pv fp G) :
    Calls Tryd.prog 9 #[.pointer (some ⟨g, 0, none⟩)] w fun e w' => e = .returned (.int .i64 (G.limit : Int)) ∧ w = w' := by
  have h3 := h.f1
  clear h
  go_enter Tryd.func9, Tryd.ntmps9
  go_wp2
  go_ret
  exact ⟨rfl, rfl⟩
set_option maxRecDepth 100000 in
theorem history_any {w : World} {g s : Nat} {pv : Value} {fp : List Nat} {G : GS} (h : GridAt w g s pv fp G) :
    Calls Tryd.prog 20 #[.pointer (some ⟨g, 0, none⟩)] w fun e w' => e = .returned (.int .i64 (G.past.length : Int)) ∧ w = w' := by
  have h2 := h.f2
  rcases h.tab with ⟨rfl, hp, _⟩ | ⟨p, off, c, pre, tail, rfl, _⟩
  · rw [hp]
    clear h
    go_enter Tryd.func20, Tryd.ntmps20
    go_wp2
    go_ret
    exact ⟨rfl, rfl⟩
  · clear h
    go_enter Tryd.func20, Tryd.ntmps20
    go_wp2
    go_ret
    exact ⟨rfl, rfl⟩
set_option maxRecDepth 100000 in
theorem shows_any {w : World} {g s : Nat} {pv : Value} {fp : List Nat} {G : GS} (h : GridAt w g s pv fp G) (y : Int) (b : Bool) (hb : decide (0 ≤ y ∧ y < G.scr.length) = b) :
    Calls Tryd.prog 35 #[.pointer (some ⟨g, 0, none⟩), .int .i64 y] w fun e w' => e = .returned (.bool b) ∧ w = w' := by
  have h3 := h.f3
  have hr := h.r2
  clear h
  by_cases h0 : 0 ≤ y
  · by_cases h1 : y < G.scr.length
    · obtain rfl : b = true := by rw [← hb]; simp [h0, h1]
      clear hb
      go_enter Tryd.func35, Tryd.ntmps35
      go_wp2
      go_ret
      exact ⟨rfl, rfl⟩
    · obtain rfl : b = false := by rw [← hb]; simp [h1]
      have d : decide (y < (G.scr.length : Int)) = false := by simpa using h1
      clear hb
      go_enter Tryd.func35, Tryd.ntmps35
      go_wp2
      go_ret
      exact ⟨rfl, rfl⟩
  · obtain rfl : b = false := by rw [← hb]; simp [h0]
    have d : decide (0 ≤ y) = false := by simpa using h0
    clear hb
    go_enter Tryd.func35, Tryd.ntmps35
    go_wp2
    go_ret
    exact ⟨rfl, rfl⟩

set_option maxRecDepth 100000 in
theorem row_scr {w : World} {g s : Nat} {pv : Value} {fp : List Nat} {G : GS} (h : GridAt w g s pv fp G) (k : Nat) (hk : k < G.scr.length) :
    Calls Tryd.prog 49 #[.pointer (some ⟨g, 0, none⟩), .int .i64 (k : Int)] w fun e w' => e = .returned (rowV G.scr[k]) ∧ Below w.heap.size w w' := by
  have h3 := h.f3
  have hr := h.r2
  obtain ⟨c0, c1⟩ := h.row_cells hk
  have hgl := h.blk.lt
  have hsl := h.scr.lt
  unfold rowV
  generalize G.scr[k] = m at *
  clear h
  have hb : Below w.heap.size w (w.alloc (.cells #[.slice (some ⟨m.b, 0, none⟩) m.l.length m.cap, .bool m.wr] 73)) := (Below.refl _ _).alloc (Nat.le_refl _) _
  go_enter Tryd.func49, Tryd.ntmps49
  go_wp2
  exact bodyPost_ret (v := .agg #[.slice (some ⟨m.b, 0, none⟩) m.l.length m.cap, .bool m.wr]) (results_cell (p := 4) (by kernel_rfl) _ _ w.heap.size _ _ _ _ rfl (BL.new w 73 [.slice (some ⟨m.b, 0, none⟩) m.l.length m.cap, .bool m.wr]) Tryd.underlying73 rfl (by kernel_rfl)) rfl ⟨rfl, hb⟩
end Go.Proofs.YtgjlohplgpcghaaDoor.Grd
/- Rows that have scrolled off, and rows that there are not. -/
namespace Go.Proofs.YtgjlohplgpcghaaDoor.Grd
open Go.RowKit

theorem tab_row {w : World} {p off : Nat} {pre tail : List Value} {ms : List MR} (h : BL w p 73 (pre ++ rowsL ms ++ tail)) (hp : pre.length = 2 * off) {k : Nat} (hk : k < ms.length) :
    w.cell? ⟨p, 2 * off + k * 2, none⟩ = some (.slice (some ⟨ms[k].b, 0, none⟩) ms[k].l.length ms[k].cap) ∧ w.cell? ⟨p, 2 * off + k * 2 + 1, none⟩ = some (.bool ms[k].wr) := by
  have h0 := rowsL_at hk tail 0 (by omega)
  have h1 := rowsL_at hk tail 1 (by omega)
  refine ⟨?_, ?_⟩
  · rw [h.cell, List.append_assoc, List.getElem?_append_right (by omega), show 2 * off + k * 2 - pre.length = k * 2 + 0 by omega, h0]; rfl
  · rw [h.cell, List.append_assoc, List.getElem?_append_right (by omega), show 2 * off + k * 2 + 1 - pre.length = k * 2 + 1 by omega, h1]; rfl

set_option maxRecDepth 100000 in
theorem row_past {w : World} {g s : Nat} {pv : Value} {fp : List Nat} {G : GS} (h : GridAt w g s pv fp G) (k : Nat) (hk : k < G.past.length) :
    Calls Tryd.prog 49 #[.pointer (some ⟨g, 0, none⟩), .int .i64 ((k : Int) - (G.past.length : Int))] w fun e w' => e = .returned (rowV G.past[k]) ∧ Below w.heap.size w w' := by
  have h3 := h.f3
  have h2 := h.f2
  have hr := h.r2
  have hl := h.l2
  have hpl := h.p2
  have hgl := h.blk.lt
  rcases h.tab with ⟨_, hp, _⟩ | ⟨p, off, c, pre, tail, rfl, hc1, hc2, hpre, _, hB, _⟩
  · rw [hp] at hk; exact absurd hk (by simp)
  · have hcells : w.cell? ⟨p, 2 * off + k * 2, none⟩ = some (.slice (some ⟨G.past[k].b, 0, none⟩) G.past[k].l.length G.past[k].cap) ∧ w.cell? ⟨p, 2 * off + k * 2 + 1, none⟩ = some (.bool G.past[k].wr) := tab_row hB hpre hk
    obtain ⟨c0, c1⟩ := hcells
    have hplt := hB.lt
    unfold rowV
    generalize G.past[k] = m at *
    obtain ⟨n, hn⟩ : ∃ n, G.past.length = n := ⟨_, rfl⟩
    rw [hn] at hk h2 hpl hc1 ⊢
    clear h hB
    have hb : Below w.heap.size w (w.alloc (.cells #[.slice (some ⟨m.b, 0, none⟩) m.l.length m.cap, .bool m.wr] 73)) := (Below.refl _ _).alloc (Nat.le_refl _) _
    obtain ⟨y, hy⟩ : ∃ y : Int, (k : Int) - (n : Int) = y := ⟨_, rfl⟩
    rw [hy]
    have d0 : decide (0 ≤ y) = false := by simp; omega
    have d1 : decide (-(n : Int) ≤ y) = true := by simp; omega
    have d2 : decide (y < 0) = true := by simp; omega
    have d3 : ¬ 0 ≤ y := by omega
    have d4 : -(n : Int) ≤ y := by omega
    have d5 : y < 0 := by omega
    have j1 : IntKind.i64.wrap ((n : Int) + y) = (k : Int) := by rw [show (n : Int) + y = (k : Int) by omega]; exact IntWalk.i64_in _ ⟨by omega, by omega⟩
    have k0 : (0 : Int) ≤ (k : Int) := Int.natCast_nonneg _
    have k1 : (k : Int) < (n : Int) := by omega
    clear hy hn
    go_enter Tryd.func49, Tryd.ntmps49
    go_wp2_with fail
    have hW : ∀ q : Addr, q.block < w.heap.size → (w.alloc (.cells #[.slice none 0 0, .bool false] 73)).drew.cell? q = w.cell? q := fun q hq => World.cell?_of_block (Below.heap_alloc w _ q.block hq)
    rw [← hW ⟨p, 2 * off + k * 2, none⟩ hplt] at c0
    rw [← hW ⟨p, 2 * off + k * 2 + 1, none⟩ hplt] at c1
    rw [← hW ⟨g, 2, none⟩ hgl] at h2
    have hZ : BL (w.alloc (.cells #[.slice none 0 0, .bool false] 73)).drew w.heap.size 73 [.slice none 0 0, .bool false] := BL.new w _ _
    have z0 := hZ.cell 0
    have z1 := hZ.cell 1
    have q0 := hZ.frozen 0
    have q1 := hZ.frozen 1
    go_region
    go_wp2_with fail
    exact bodyPost_ret (v := .agg #[.slice (some ⟨m.b, 0, none⟩) m.l.length m.cap, .bool m.wr]) (results_cell (p := 4) (by kernel_rfl) _ _ w.heap.size _ _ _ _ rfl (show BL (w.alloc (.cells #[.slice (some ⟨m.b, 0, none⟩) m.l.length m.cap, .bool m.wr] 73)).drew w.heap.size 73 [.slice (some ⟨m.b, 0, none⟩) m.l.length m.cap, .bool m.wr] from BL.new w _ _) Tryd.underlying73 rfl (by kernel_rfl)) rfl ⟨rfl, hb.drew⟩
set_option maxRecDepth 100000 in
theorem row_none {w : World} {g s : Nat} {pv : Value} {fp : List Nat} {G : GS} (h : GridAt w g s pv fp G) (y : Int) (hy : (G.scr.length : Int) ≤ y ∨ y < -(G.past.length : Int)) :
    Calls Tryd.prog 49 #[.pointer (some ⟨g, 0, none⟩), .int .i64 y] w fun e w' => e = .returned (.agg #[.slice none 0 0, .bool false]) ∧ Below w.heap.size w w' := by
  have h3 := h.f3
  have h2 := h.f2
  have hr := h.r2
  have hl := h.l2
  have hpl := h.p2
  have hgl := h.blk.lt
  have hb : Below w.heap.size w (w.alloc (.cells #[.slice none 0 0, .bool false] 73)) := (Below.refl _ _).alloc (Nat.le_refl _) _
  have hZ := BL.new w 73 [.slice none 0 0, .bool false]
  have hpv : ∃ a c, pv = .slice a G.past.length c := by
    rcases h.tab with ⟨e, e2, _⟩ | ⟨p, off, c, _, _, e, _⟩
    · rw [e2]; exact ⟨_, _, e⟩
    · exact ⟨_, _, e⟩
  obtain ⟨a, c, rfl⟩ := hpv
  obtain ⟨n, hn⟩ : ∃ n, G.past.length = n := ⟨_, rfl⟩
  obtain ⟨r, hrr⟩ : ∃ r, G.scr.length = r := ⟨_, rfl⟩
  rw [hn] at h2 hpl hy
  rw [hrr] at h3 hr hy
  clear h hn hrr
  rcases hy with hy | hy
  · have d0 : decide (0 ≤ y) = true := by simp; omega
    have d1 : decide (y < (r : Int)) = false := by simpa using hy
    have d2 : decide (y < 0) = false := by simp; omega
    have d4 : decide (-(n : Int) ≤ y) = true := by simp; omega
    go_enter Tryd.func49, Tryd.ntmps49
    go_wp2_with fail
    exact bodyPost_ret (v := .agg #[.slice none 0 0, .bool false]) (results_cell (p := 4) (by kernel_rfl) _ _ w.heap.size _ _ _ _ rfl hZ Tryd.underlying73 rfl (by kernel_rfl)) rfl ⟨rfl, hb⟩
  · have d0 : decide (0 ≤ y) = false := by simp; omega
    have d4 : decide (-(n : Int) ≤ y) = false := by simp; omega
    go_enter Tryd.func49, Tryd.ntmps49
    go_wp2_with fail
    exact bodyPost_ret (v := .agg #[.slice none 0 0, .bool false]) (results_cell (p := 4) (by kernel_rfl) _ _ w.heap.size _ _ _ _ rfl hZ Tryd.underlying73 rfl (by kernel_rfl)) rfl ⟨rfl, hb⟩
end Go.Proofs.YtgjlohplgpcghaaDoor.Grd
