/- What a flow holds, in plain words; its last row turned in memory. -/
import Derived.Test.YtgjlohplgpcghaaDoorGfr
namespace Go.Proofs.YtgjlohplgpcghaaDoor.Grd
open Go.RowKit

/-- A row in plain words: its cells, whether it goes on. -/
abbrev Ro := List Ce × Bool
structure PF where
  cols : Nat
  rows : List Ro
  next : Nat
  px : Int
  py : Int
def MR.pl (m : MR) : Ro := (m.l, m.wr)
def FL.pl (L : FL) : PF := ⟨L.cols, L.rows.map MR.pl, L.next, L.px, L.py⟩
/-- The last row turned. -/
def setLast (rs : List Ro) (f : Ro → Ro) : List Ro := rs.dropLast ++ (rs.getLast?.map f).toList
theorem setLast_snoc (rs : List Ro) (r : Ro) (f : Ro → Ro) : setLast (rs ++ [r]) f = rs ++ [f r] := by unfold setLast; simp
def beginF (P : PF) : PF := { P with rows := P.rows ++ [(List.replicate P.cols plainCe, false)], next := 0 }
/-- The row that a cell comes to: a full one goes on in a new one. -/
def roomF (P : PF) : PF := if P.next = P.cols then beginF { P with rows := setLast P.rows fun r => (r.1, true) } else P
def putF (P : PF) (c : Ce) : PF := { roomF P with rows := setLast (roomF P).rows fun r => (r.1.set (roomF P).next c, r.2), next := (roomF P).next + 1 }

theorem tab_open {w : World} {tv : Value} {R : List MR} {m : MR} {ft : List Nat} (h : TabAt w tv (R ++ [m]) ft) :
    ∃ p off c pre tail, tv = slV p (2 * off) (R.length + 1) c ∧ ft = [p] ∧ R.length + 1 ≤ c ∧ c ≤ maxLen ∧ pre.length = 2 * off ∧ 2 * (c - (R.length + 1)) ≤ tail.length ∧ BL w p 73 (pre ++ rowsL R ++ (mrL m ++ tail)) := by
  rcases h with ⟨_, e, _⟩ | ⟨p, off, c, pre, tail, rfl, h2, h3, h4, h5, h6, rfl⟩
  · simp at e
  · rw [List.length_append, List.length_singleton] at h2 h5
    refine ⟨p, off, c, pre, tail, by rw [List.length_append]; rfl, rfl, h2, h3, h4, h5, ?_⟩
    rw [rowsL_app, rowsL_one] at h6
    simpa only [List.append_assoc] using h6
theorem tab_shut {w : World} {R : List MR} {m : MR} {p off c : Nat} {pre tail : List Value} (h2 : R.length + 1 ≤ c) (h3 : c ≤ maxLen) (h4 : pre.length = 2 * off) (h5 : 2 * (c - (R.length + 1)) ≤ tail.length) (h6 : BL w p 73 (pre ++ rowsL R ++ (mrL m ++ tail))) :
    TabAt w (slV p (2 * off) (R.length + 1) c) (R ++ [m]) [p] := by
  refine .inr ⟨p, off, c, pre, tail, by rw [List.length_append]; rfl, by rw [List.length_append]; exact h2, h3, h4, by rw [List.length_append]; exact h5, ?_, rfl⟩
  rw [rowsL_app, rowsL_one]
  simpa only [List.append_assoc] using h6
/-- The last row's two values, where its table lies. -/
theorem tab_last {w : World} {R : List MR} {m : MR} {p off : Nat} {pre tail : List Value} (h4 : pre.length = 2 * off) (h6 : BL w p 73 (pre ++ rowsL R ++ (mrL m ++ tail))) :
    w.cell? ⟨p, 2 * (off + R.length), none⟩ = some (slV m.b 0 m.l.length m.cap) ∧ w.cell? ⟨p, 2 * (off + R.length) + 1, none⟩ = some (.bool m.wr) ∧ w.frozen? ⟨p, 2 * (off + R.length) + 1, none⟩ = false := by
  have hl : (pre ++ rowsL R).length = 2 * (off + R.length) := by rw [List.length_append, rowsL_len]; omega
  refine ⟨?_, ?_, h6.frozen _⟩
  · rw [h6.cell, List.getElem?_append_right (by omega), hl, Nat.sub_self]; rfl
  · rw [h6.cell, List.getElem?_append_right (by omega), hl, show 2 * (off + R.length) + 1 - 2 * (off + R.length) = 1 by omega]; rfl
theorem FlowAt.snoc_far {w : World} {f : Nat} {tv : Value} {ft : List Nat} {cols next : Nat} {px py : Int} {R : List MR} {m : MR} (h : FlowAt w f tv ft ⟨cols, R ++ [m], next, px, py⟩) : (∀ x ∈ R, x.b ≠ m.b) ∧ m.b ≠ f ∧ m.b ∉ ft ∧ m.l.length = cols ∧ CellsAt w m.b m.l m.cap := by
  have hm : m ∈ R ++ [m] := by simp
  have hn := h.held.apart
  have := h.far m hm
  refine ⟨fun x hx e => ?_, this.1, this.2, h.cells m hm, h.held.at_ m hm⟩
  simp only [List.map_append, List.map_cons, List.map_nil] at hn
  exact (List.nodup_append.1 hn).2.2 x.b (List.mem_map_of_mem hx) m.b (by simp) e
/-- A flow whose last row was turned in its place. -/
theorem FlowAt.turn {w w' : World} {f : Nat} {tv : Value} {ft F : List Nat} {cols next : Nat} {px py : Int} {R : List MR} {m m' : MR} (h : FlowAt w f tv ft ⟨cols, R ++ [m], next, px, py⟩) (hb : m'.b = m.b) (hl : m'.l.length = cols) (hm : CellsAt w' m'.b m'.l m'.cap)
    (ht : TabAt w' tv (R ++ [m']) ft) (ho : Only F w w') (hf : f ∉ F) (hF : ∀ x ∈ R, x.b ∉ F) : FlowAt w' f tv ft ⟨cols, R ++ [m'], next, px, py⟩ := by
  obtain ⟨a1, a2, a3, a4, a5⟩ := h.snoc_far
  have hR : Held w' R := ⟨fun x hx => (h.held.at_ x (by simp [hx])).only ho (hF x hx), by have := h.held.apart; rw [List.map_append] at this; exact (List.nodup_append.1 this).1⟩
  refine ⟨h.blk.only ho hf, ht, hR.snoc hm (fun x hx => by rw [hb]; exact a1 x hx), h.apart, fun x hx => ?_, fun x hx => ?_, h.c1, h.c2, h.n2, by have := h.r2; simp only [List.length_append, List.length_singleton] at this ⊢; exact this⟩
  · simp only [List.mem_append, List.mem_singleton] at hx
    rcases hx with hx | rfl
    · exact h.far x (by simp [hx])
    · rw [hb]; exact ⟨a2, a3⟩
  · simp only [List.mem_append, List.mem_singleton] at hx
    rcases hx with hx | rfl
    · exact h.cells x (by simp [hx])
    · exact hl
/-- Its cells turned. -/
theorem FlowAt.turn_cells {w w' : World} {f : Nat} {tv : Value} {ft : List Nat} {cols next : Nat} {px py : Int} {R : List MR} {m : MR} {l : List Ce} (h : FlowAt w f tv ft ⟨cols, R ++ [m], next, px, py⟩) (hl : l.length = cols) (hm : CellsAt w' m.b l m.cap) (ho : Only [m.b] w w') :
    FlowAt w' f tv ft ⟨cols, R ++ [{ m with l := l }], next, px, py⟩ := by
  obtain ⟨a1, a2, a3, a4, a5⟩ := h.snoc_far
  refine h.turn rfl hl hm ?_ ho (by simpa using fun e => a2 e.symm) (fun x hx => by simpa using a1 x hx)
  have ht := h.tab.only ho (fun x hx => by simp only [List.mem_singleton]; rintro rfl; exact a3 hx)
  have e : rowsL (R ++ [{ m with l := l }]) = rowsL (R ++ [m]) := by
    rw [rowsL_app, rowsL_app, rowsL_one, rowsL_one]
    unfold mrL
    rw [show ({ m with l := l } : MR).l.length = m.l.length from hl.trans a4.symm]
  obtain ⟨p, off, c, pre, tail, rfl, rfl, h2, h3, h4, h5, h6⟩ := tab_open ht
  refine tab_shut h2 h3 h4 h5 ?_
  rw [rowsL_app, rowsL_app, rowsL_one, rowsL_one, List.append_cancel_left_eq] at e
  rw [e]
  exact h6
/-- Its mark turned. -/
theorem FlowAt.turn_mark {w : World} {f p off c : Nat} {cols next : Nat} {px py : Int} {R : List MR} {m : MR} (h : FlowAt w f (slV p (2 * off) (R.length + 1) c) [p] ⟨cols, R ++ [m], next, px, py⟩) (is : Bool) :
    FlowAt (w.setCell ⟨p, 2 * (off + R.length) + 1, none⟩ (.bool is)) f (slV p (2 * off) (R.length + 1) c) [p] ⟨cols, R ++ [{ m with wr := is }], next, px, py⟩ := by
  obtain ⟨a1, a2, a3, a4, a5⟩ := h.snoc_far
  have ho : Only [p] w (w.setCell ⟨p, 2 * (off + R.length) + 1, none⟩ (.bool is)) := (Only.refl _ _).setCell (.inl (by simp)) _
  have hfp := h.apart
  refine h.turn rfl a4 (a5.only ho a3) ?_ ho hfp (fun x hx => (h.far x (by simp [hx])).2)
  obtain ⟨p2, off2, c2, pre, tail, e1, e2, h2, h3, h4, h5, h6⟩ := tab_open h.tab
  obtain rfl : p = p2 := by simpa using e2
  have e3 : off = off2 ∧ c = c2 := by simp only [slV, Value.slice.injEq, Option.some.injEq, Addr.mk.injEq] at e1; omega
  obtain ⟨rfl, rfl⟩ := e3
  refine tab_shut h2 h3 h4 h5 ?_
  have hl : (pre ++ rowsL R).length = 2 * (off + R.length) := by rw [List.length_append, rowsL_len]; omega
  have := h6.set_ (2 * (off + R.length) + 1) (.bool is)
  rw [List.set_append_right _ _ (by omega), hl, show 2 * (off + R.length) + 1 - 2 * (off + R.length) = 1 by omega] at this
  exact this
theorem FlowAt.turn_next {w : World} {f : Nat} {tv : Value} {ft : List Nat} {L : FL} (h : FlowAt w f tv ft L) (k : Nat) (hk : k ≤ L.cols) : FlowAt (w.setCell ⟨f, 2, none⟩ (.int .i64 (k : Int))) f tv ft { L with next := k } := by
  have ho : Only [f] w (w.setCell ⟨f, 2, none⟩ (.int .i64 (k : Int))) := (Only.refl _ _).setCell (.inl (by simp)) _
  refine ⟨h.blk.set_ 2 _, h.tab.only ho (fun x hx => by simp only [List.mem_singleton]; rintro rfl; exact h.apart hx), h.held.only ho (fun x hx => by simpa using (h.far x hx).1), h.apart, h.far, h.cells, h.c1, h.c2, hk, h.r2⟩
end Go.Proofs.YtgjlohplgpcghaaDoor.Grd
/- A cell put at a flow's end. -/
namespace Go.Proofs.YtgjlohplgpcghaaDoor.Grd
open Go.RowKit

theorem CellsAt.froz {w : World} {b cap : Nat} {l : List Ce} (h : CellsAt w b l cap) (k : Nat) : w.frozen? ⟨b, k, none⟩ = false := by
  obtain ⟨_, _, _, h⟩ := h
  exact h.frozen k
/-- A cell stored value by value. -/
theorem CellsAt.five_set {w : World} {b cap : Nat} {l : List Ce} (h : CellsAt w b l cap) {i : Nat} (hi : i < l.length) (r wd s1 s2 s3 : Int) :
    CellsAt (((((w.setCell ⟨b, i * 5, none⟩ (.int .i32 r)).setCell ⟨b, i * 5 + 1, none⟩ (.int .i64 wd)).setCell ⟨b, i * 5 + 2, none⟩ (.int .i64 s1)).setCell ⟨b, i * 5 + 3, none⟩ (.int .i64 s2)).setCell ⟨b, i * 5 + 4, none⟩ (.int .i64 s3)) b (l.set i (r, wd, s1, s2, s3)) cap ∧
    Wrote b w (((((w.setCell ⟨b, i * 5, none⟩ (.int .i32 r)).setCell ⟨b, i * 5 + 1, none⟩ (.int .i64 wd)).setCell ⟨b, i * 5 + 2, none⟩ (.int .i64 s1)).setCell ⟨b, i * 5 + 3, none⟩ (.int .i64 s2)).setCell ⟨b, i * 5 + 4, none⟩ (.int .i64 s3)) := by
  have h1 := h.set hi (r, wd, s1, s2, s3)
  have h2 := Wrote.setCells b (5 * i) (ceL (r, wd, s1, s2, s3)) w
  rw [Nat.mul_comm 5 i] at h1 h2
  exact ⟨h1, h2⟩

set_option maxRecDepth 100000 in
set_option maxHeartbeats 1000000 in
theorem fput_room {w : World} {f : Nat} {tv : Value} {ft : List Nat} {cols next : Nat} {px py : Int} {R : List MR} {m : MR} (h : FlowAt w f tv ft ⟨cols, R ++ [m], next, px, py⟩) (hx : next < cols) (r wd s1 s2 s3 : Int) :
    Calls Tryd.prog 87 #[.pointer (some ⟨f, 0, none⟩), .agg #[.int .i32 r, .int .i64 wd, .int .i64 s1, .int .i64 s2, .int .i64 s3]] w fun e w' => e = .returned (.tuple #[]) ∧
      FlowAt w' f tv ft ⟨cols, R ++ [{ m with l := m.l.set next (r, wd, s1, s2, s3) }], next + 1, px, py⟩ ∧ Only [f, m.b] w w' := by
  obtain ⟨p, off, c, pre, tail, rfl, rfl, h2, h3, h4, h5, h6⟩ := tab_open h.tab
  obtain ⟨a1, a2, a3, a4, a5⟩ := h.snoc_far
  have hcap := a5.1
  have c1 := h.c1
  have c2 := h.c2
  have hr := h.r2
  have hfp := h.apart
  have hn2 := h.n2
  simp only [List.length_append, List.length_singleton] at hr c1 c2 hn2
  have hfl := h.blk.lt
  have hmb := a5.lt
  have hA := BL.new w 35 [.int .i32 r, .int .i64 wd, .int .i64 s1, .int .i64 s2, .int .i64 s3]
  have hf0 : BL (w.alloc (.cells #[.int .i32 r, .int .i64 wd, .int .i64 s1, .int .i64 s2, .int .i64 s3] 35)) f 105 [.int .i64 (cols : Int), slV p (2 * off) (R.length + 1) c, .int .i64 (next : Int), .int .i64 px, .int .i64 py] := h.blk.alloc _
  have hp0 := h6.alloc (.cells #[.int .i32 r, .int .i64 wd, .int .i64 s1, .int .i64 s2, .int .i64 s3] 35)
  have hc0 := a5.alloc (.cells #[.int .i32 r, .int .i64 wd, .int .i64 s1, .int .i64 s2, .int .i64 s3] 35)
  have ho0 : Only [f, m.b] w (w.alloc (.cells #[.int .i32 r, .int .i64 wd, .int .i64 s1, .int .i64 s2, .int .i64 s3] 35)) := (Only.refl _ _).alloc _
  have HFIN : Hid (∀ w1 w2, Only [] w w1 → CellsAt w2 m.b (m.l.set next (r, wd, s1, s2, s3)) m.cap → Only [m.b] w1 w2 → FlowAt (w2.setCell ⟨f, 2, none⟩ (.int .i64 ((next + 1 : Nat) : Int))) f (slV p (2 * off) (R.length + 1) c) [p] ⟨cols, R ++ [{ m with l := m.l.set next (r, wd, s1, s2, s3) }], next + 1, px, py⟩ ∧ Only [f, m.b] w (w2.setCell ⟨f, 2, none⟩ (.int .i64 ((next + 1 : Nat) : Int)))) := fun w1 w2 h1 h2 h3 => by
    have k1 := ((h.only h1 (by simp) (by simp) (by simp)).turn_cells (by rw [List.length_set]; exact a4) h2 h3).turn_next (next + 1) (by show next + 1 ≤ cols; omega)
    exact ⟨k1, ((h1.mono (by simp)).trans (h3.mono (by simp))).setCell (.inl (by simp)) _⟩
  have la := fun V hV => last_any (w := V) (f := f) (p := p) (off := off) (c := c) (n := R.length) (L := ⟨cols, R ++ [m], next, px, py⟩) hV (by omega)
  have d1 : decide ((next : Int) = (cols : Int)) = false := by simp; omega
  have d1' : ¬ (next : Int) = (cols : Int) := by omega
  have j1 : IntKind.i64.wrap ((next : Int) + 1) = (next : Int) + 1 := IntWalk.i64_in _ ⟨by omega, by omega⟩
  have j2 : (0 : Int) ≤ (next : Int) := Int.natCast_nonneg _
  have j3 : (next : Int) < (m.l.length : Int) := by omega
  have j4 : next < m.l.length := by omega
  have hb0 : Below w.heap.size w (w.alloc (.cells #[.int .i32 r, .int .i64 wd, .int .i64 s1, .int .i64 s2, .int .i64 s3] 35)) := (Below.refl _ _).alloc (Nat.le_refl _) _
  have ha0 : w.heap.size < (w.alloc (.cells #[.int .i32 r, .int .i64 wd, .int .i64 s1, .int .i64 s2, .int .i64 s3] 35)).heap.size := hA.lt
  have hl4 := a4
  clear h h6 a5
  go_enter Tryd.func87, Tryd.ntmps87
  go_wp2_with fail
  have ho1 : Only [] w (w.alloc (.cells #[.int .i32 r, .int .i64 wd, .int .i64 s1, .int .i64 s2, .int .i64 s3] 35)) := (Only.refl _ _).alloc _
  generalize w.alloc (.cells #[.int .i32 r, .int .i64 wd, .int .i64 s1, .int .i64 s2, .int .i64 s3] 35) = W at *
  obtain ⟨l0, l1, l2⟩ := tab_last h4 hp0
  have SS : ∀ V, Below W.heap.size W V → (V.cell? ⟨f, 0, none⟩ = some (.int .i64 (cols : Int)) ∧ V.cell? ⟨f, 2, none⟩ = some (.int .i64 (next : Int)) ∧ V.cell? ⟨p, 2 * (off + R.length), none⟩ = some (slV m.b 0 m.l.length m.cap) ∧ V.cell? ⟨w.heap.size, 0, none⟩ = some (.int .i32 r) ∧ V.cell? ⟨w.heap.size, 1, none⟩ = some (.int .i64 wd) ∧ V.cell? ⟨w.heap.size, 2, none⟩ = some (.int .i64 s1) ∧ V.cell? ⟨w.heap.size, 3, none⟩ = some (.int .i64 s2) ∧ V.cell? ⟨w.heap.size, 4, none⟩ = some (.int .i64 s3) ∧ Below W.heap.size W V) := fun V hkk => by
    have hA2 := hA.only (F := []) (Only.of_below hkk) (by simp)
    have hf2 := hf0.only (F := []) (Only.of_below hkk) (by simp)
    obtain ⟨l3, _, _⟩ := tab_last h4 (hp0.only (F := []) (Only.of_below hkk) (by simp))
    exact ⟨hf2.cell 0, hf2.cell 2, l3, hA2.cell 0, hA2.cell 1, hA2.cell 2, hA2.cell 3, hA2.cell 4, hkk⟩
  obtain ⟨x0, x2, x3, x4, x5, x6, x7, x8, _⟩ := SS W (Below.refl _ _)
  go_region
  all_goals go_wp2_with fail
  have hdr : Below W.heap.size W W.drew.drew := (Below.refl _ _).drew.drew
  go_region_law
    (first
      | (go_simp; go_at_call 80; refine (la W.drew.drew hf0).mono ?_; rintro _ w2 ⟨rfl, hb3⟩; have hb2 := hdr.trans hb3; have hc2 := hc0.only (F := []) (Only.of_below hb2) (by simp); have hf2 := hf0.only (F := []) (Only.of_below hb2) (by simp); obtain ⟨y0, y2, y3, y4, y5, y6, y7, y8, _⟩ := SS w2 hb2; obtain ⟨e0, e1, e2, e3, e4⟩ := hc2.five j4; have g0 := hc2.froz (next * 5); have g1 := hc2.froz (next * 5 + 1); have g2 := hc2.froz (next * 5 + 2); have g3 := hc2.froz (next * 5 + 3); have g4 := hc2.froz (next * 5 + 4)))
  all_goals
    obtain ⟨hc4, hw4⟩ := hc2.five_set j4 r wd s1 s2 s3
    have hf4 := hf2.only hw4.only (by simpa using fun e => a2 e.symm)
    have u1 := hf4.cell 2
    have u2 := hf4.frozen 2
    clear e0 e1 e2 e3 e4 g0 g1 g2 g3 g4 hf0 hp0 hc0 x0 x2 x3 x4 x5 x6 x7 x8 y0 y2 y3 y4 y5 y6 y7 y8 SS
    go_wp2_with fail
    have hk := HFIN.out w2 _ (ho1.trans (Only.of_below hb2)) hc4 hw4.only
    exact body_end rfl rfl ⟨rfl, hk.1, hk.2⟩
end Go.Proofs.YtgjlohplgpcghaaDoor.Grd
/- A cell put at the end of a flow whose last row is full; at any. -/
namespace Go.Proofs.YtgjlohplgpcghaaDoor.Grd
open Go.RowKit

/-- A flow whose last row was full, behind a cell put. -/
def FullOut (w w' : World) (f : Nat) (ft : List Nat) (cols : Nat) (px py : Int) (R : List MR) (m : MR) (q : Ce) : Prop :=
  ∃ tv' ft' m', m'.l = (List.replicate cols plainCe).set 0 q ∧ m'.wr = false ∧ w.heap.size ≤ m'.b ∧ FlowAt w' f tv' ft' ⟨cols, R ++ [{ m with wr := true }] ++ [m'], 1, px, py⟩ ∧ (∀ x ∈ ft', x ∈ ft ∨ w.heap.size ≤ x) ∧ Only (f :: ft) w w'

set_option maxRecDepth 100000 in
set_option maxHeartbeats 1000000 in
theorem fput_full {w : World} {f : Nat} {tv : Value} {ft : List Nat} {cols next : Nat} {px py : Int} {R : List MR} {m : MR} (h : FlowAt w f tv ft ⟨cols, R ++ [m], next, px, py⟩) (hx : next = cols) (hR : R.length + 2 ≤ 900000) (r wd s1 s2 s3 : Int) :
    Calls Tryd.prog 87 #[.pointer (some ⟨f, 0, none⟩), .agg #[.int .i32 r, .int .i64 wd, .int .i64 s1, .int .i64 s2, .int .i64 s3]] w fun e w' => e = .returned (.tuple #[]) ∧
      FullOut w w' f ft cols px py R m (r, wd, s1, s2, s3) := by
  obtain ⟨p, off, c, pre, tail, rfl, rfl, h2, h3, h4, h5, h6⟩ := tab_open h.tab
  have c1 := h.c1
  have c2 := h.c2
  have hfp := h.apart
  simp only at c1 c2
  have hfl := h.blk.lt
  have hpl := h6.lt
  have hA := BL.new w 35 [.int .i32 r, .int .i64 wd, .int .i64 s1, .int .i64 s2, .int .i64 s3]
  have hF0 := h.only (F := []) ((Only.refl _ _).alloc (.cells #[.int .i32 r, .int .i64 wd, .int .i64 s1, .int .i64 s2, .int .i64 s3] 35)) (by simp) (by simp) (by simp)
  have ho0 : Only [f, p] w (w.alloc (.cells #[.int .i32 r, .int .i64 wd, .int .i64 s1, .int .i64 s2, .int .i64 s3] 35)) := (Only.refl _ _).alloc _
  have hp0 := h6.alloc (.cells #[.int .i32 r, .int .i64 wd, .int .i64 s1, .int .i64 s2, .int .i64 s3] 35)
  have la := fun V hV => last_any (w := V) (f := f) (p := p) (off := off) (c := c) (n := R.length) (L := ⟨cols, R ++ [m], next, px, py⟩) hV (by omega)
  have d1 : decide ((next : Int) = (cols : Int)) = true := by simp; omega
  have d1' : (next : Int) = (cols : Int) := by omega
  have hzs : (w.alloc (.cells #[.int .i32 r, .int .i64 wd, .int .i64 s1, .int .i64 s2, .int .i64 s3] 35)).heap.size = w.heap.size + 1 := by rw [size_alloc]
  clear h h6
  go_enter Tryd.func87, Tryd.ntmps87
  go_wp2_with fail
  generalize w.alloc (.cells #[.int .i32 r, .int .i64 wd, .int .i64 s1, .int .i64 s2, .int .i64 s3] 35) = W at *
  have x0 : W.cell? ⟨f, 0, none⟩ = some (.int .i64 (cols : Int)) := hF0.blk.cell 0
  have x2 : W.cell? ⟨f, 2, none⟩ = some (.int .i64 (next : Int)) := hF0.blk.cell 2
  go_region
  all_goals go_wp2_with (first
    | (go_at_call 80; refine (la W.drew hF0.blk).mono ?_; rintro _ w1 ⟨rfl, hb1⟩; have ho1 : Only [] W w1 := ((Only.refl _ W).drew).trans (Only.of_below hb1); have hF1 := hF0.only ho1 (by simp) (by simp) (by simp); obtain ⟨_, l1, l2⟩ := tab_last h4 (hp0.only ho1 (by simp)))
    | (go_at_call 77; refine (begin_any (hF1.turn_mark true) (by simp; omega)).mono ?_; rintro _ w3 ⟨rfl, tv3, ft3, mn, hmn1, hmn2, hmn3, hF3, hft3, ho3⟩))
  have hz1 := hb1.size
  rw [show W.drew.heap.size = W.heap.size from rfl, hzs] at hz1
  have hz2 : (w1.setCell ⟨p, 2 * (off + R.length) + 1, none⟩ (.bool true)).heap.size = w1.heap.size := by simp [World.setCell]
  rw [hz2] at hmn3 hft3
  have ho13 : Only [f, p] W w3 := ((ho1.mono (by simp)).setCell (p := ⟨p, 2 * (off + R.length) + 1, none⟩) (.inl (by simp)) (.bool true)).trans ho3
  have how3 := ho0.trans ho13
  have hA3 := hA.only ho13 (by simp; omega)
  have hz3 := ho13.size
  have hpf : p ≠ f := fun e => hfp (by simp [e])
  have hpl3 : ∀ x ∈ ft3, x ∈ [p] ∨ w.heap.size ≤ x := fun x hx => (hft3 x hx).imp id (fun y => by omega)
  have hmnw : w.heap.size ≤ mn.b := by omega
  obtain ⟨nx, hnx⟩ : ∃ nx : Nat, nx = 0 := ⟨0, rfl⟩
  rw [← hnx] at hF3
  obtain ⟨R2, hR2⟩ : ∃ R2 : List MR, R2 = R ++ [{ m with wr := true }] := ⟨_, rfl⟩
  rw [← hR2] at hF3
  have hRl : R2.length = R.length + 1 := by rw [hR2]; simp
  obtain ⟨q, of2, cq, pr2, tl2, rfl, rfl, i2, i3, i4, i5, i6⟩ := tab_open hF3.tab
  obtain ⟨a1, a2, a3, a4, a5⟩ := hF3.snoc_far
  have lb := fun V hV => last_any (w := V) (f := f) (p := q) (off := of2) (c := cq) (n := R2.length) (L := ⟨cols, R2 ++ [mn], nx, px, py⟩) hV (by omega)
  have HFIN : Hid (∀ w4 w5, Only [] w3 w4 → CellsAt w5 mn.b (mn.l.set nx (r, wd, s1, s2, s3)) mn.cap → Only [mn.b] w4 w5 → FullOut w (w5.setCell ⟨f, 2, none⟩ (.int .i64 ((nx + 1 : Nat) : Int))) f [p] cols px py R m (r, wd, s1, s2, s3)) := fun w4 w5 h1 h2 h3 => by
    have k1 := ((hF3.only h1 (by simp) (by simp) (by simp)).turn_cells (by rw [List.length_set]; exact a4) h2 h3).turn_next (nx + 1) (by show nx + 1 ≤ cols; omega)
    have k2 : Only [f, p] w _ := ((how3.trans (h1.mono (by simp))).trans2 h3 (fun x hx => by rw [List.mem_singleton] at hx; rw [hx]; exact .inr hmnw)).setCell (p := ⟨f, 2, none⟩) (.inl (by simp)) (.int .i64 ((nx + 1 : Nat) : Int))
    subst hnx
    rw [hR2] at k1
    exact ⟨_, _, ⟨mn.b, mn.cap, mn.l.set 0 (r, wd, s1, s2, s3), mn.wr⟩, by rw [hmn1], hmn2, hmnw, k1, hpl3, k2⟩
  have j1 : IntKind.i64.wrap ((nx : Int) + 1) = (nx : Int) + 1 := IntWalk.i64_in _ ⟨by omega, by omega⟩
  have j2 : (0 : Int) ≤ (nx : Int) := Int.natCast_nonneg _
  have j3 : (nx : Int) < (mn.l.length : Int) := by rw [a4]; omega
  have j4 : nx < mn.l.length := by rw [a4]; omega
  have hcap := a5.1
  have j5 : nx < cols := by omega
  have SS : ∀ V, Below w3.heap.size w3 V → (V.cell? ⟨f, 0, none⟩ = some (.int .i64 (cols : Int)) ∧ V.cell? ⟨f, 2, none⟩ = some (.int .i64 (nx : Int)) ∧ V.cell? ⟨q, 2 * (of2 + R2.length), none⟩ = some (slV mn.b 0 mn.l.length mn.cap) ∧ V.cell? ⟨w.heap.size, 0, none⟩ = some (.int .i32 r) ∧ V.cell? ⟨w.heap.size, 1, none⟩ = some (.int .i64 wd) ∧ V.cell? ⟨w.heap.size, 2, none⟩ = some (.int .i64 s1) ∧ V.cell? ⟨w.heap.size, 3, none⟩ = some (.int .i64 s2) ∧ V.cell? ⟨w.heap.size, 4, none⟩ = some (.int .i64 s3) ∧ Below w3.heap.size w3 V) := fun V hkk => by
    have hA2 := hA3.only (F := []) (Only.of_below hkk) (by simp)
    have hf2 := hF3.blk.only (F := []) (Only.of_below hkk) (by simp)
    obtain ⟨l3, _, _⟩ := tab_last i4 (i6.only (F := []) (Only.of_below hkk) (by simp))
    exact ⟨hf2.cell 0, hf2.cell 2, l3, hA2.cell 0, hA2.cell 1, hA2.cell 2, hA2.cell 3, hA2.cell 4, hkk⟩
  obtain ⟨z0, z2, z3, z4, z5, z6, z7, z8, _⟩ := SS w3 (Below.refl _ _)
  have hfb := hF3.blk
  have hl1 := hmn1
  clear hF0 hF1 hp0 x0 x2 l1 l2 ho1 hb1 la hz1 hz2 hz3 ho0 ho13 ho3 hft3
  clear hR2 hRl hnx
  have hdr : Below w3.heap.size w3 w3.drew := (Below.refl _ _).drew
  go_region_law
    (first
      | (go_simp; go_at_call 80; refine (lb w3.drew hfb).mono ?_; rintro _ w2 ⟨rfl, hb3⟩; have hb2 := hdr.trans hb3; have hc2 := a5.only (F := []) (Only.of_below hb2) (by simp); have hf2 := hfb.only (F := []) (Only.of_below hb2) (by simp); obtain ⟨y0, y2, y3, y4, y5, y6, y7, y8, _⟩ := SS w2 hb2; obtain ⟨e0, e1, e2, e3, e4⟩ := hc2.five j4; have g0 := hc2.froz (nx * 5); have g1 := hc2.froz (nx * 5 + 1); have g2 := hc2.froz (nx * 5 + 2); have g3 := hc2.froz (nx * 5 + 3); have g4 := hc2.froz (nx * 5 + 4)))
  all_goals
    obtain ⟨hc4, hw4⟩ := hc2.five_set j4 r wd s1 s2 s3
    have hf4 := hf2.only hw4.only (by simpa using fun e => a2 e.symm)
    have u1 := hf4.cell 2
    have u2 := hf4.frozen 2
    clear e0 e1 e2 e3 e4 g0 g1 g2 g3 g4 z0 z2 z3 z4 z5 z6 z7 z8 y0 y2 y3 y4 y5 y6 y7 y8 SS
    go_wp2_with fail
    have hk := HFIN.out w2 _ (Only.of_below hb2) hc4 hw4.only
    exact body_end rfl rfl ⟨rfl, hk⟩
end Go.Proofs.YtgjlohplgpcghaaDoor.Grd
