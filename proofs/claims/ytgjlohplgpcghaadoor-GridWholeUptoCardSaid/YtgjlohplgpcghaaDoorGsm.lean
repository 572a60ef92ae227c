/- Two grids that hold the same, compared. -/
import Derived.Test.YtgjlohplgpcghaaDoorGbk
namespace Go.Proofs.YtgjlohplgpcghaaDoor.Grd
open Go.RowKit Cel Sty

/-- A table of rows, with their cells. -/
def Tabled (w : World) (v : Value) (ms : List MR) : Prop := (∃ F, TabAt w v ms F) ∧ ∀ m ∈ ms, CellsAt w m.b m.l m.cap ∧ m.l.length ≤ 1000000
theorem Tabled.below {w w' : World} {v : Value} {ms : List MR} (h : Tabled w v ms) (hb : Below w.heap.size w w') : Tabled w' v ms := by
  obtain ⟨⟨F, h1⟩, h2⟩ := h
  exact ⟨⟨F, h1.only (G := []) (Only.of_below hb) (fun _ _ h => by cases h)⟩, fun m hm => ⟨(h2 m hm).1.only (F := []) (Only.of_below hb) (by simp), (h2 m hm).2⟩⟩
set_option maxRecDepth 100000 in
set_option maxHeartbeats 2000000 in
theorem equalRows_any {w : World} {p1 off1 c1 p2 off2 c2 : Nat} {pre1 tail1 pre2 tail2 : List Value} {ms1 ms2 : List MR} (h1 : BL w p1 73 (pre1 ++ rowsL ms1 ++ tail1)) (hp1 : pre1.length = 2 * off1) (h2 : BL w p2 73 (pre2 ++ rowsL ms2 ++ tail2)) (hp2 : pre2.length = 2 * off2)
    (hm1 : ∀ m ∈ ms1, CellsAt w m.b m.l m.cap ∧ m.l.length ≤ 1000000) (hm2 : ∀ m ∈ ms2, CellsAt w m.b m.l m.cap ∧ m.l.length ≤ 1000000) (hl : ms1.length ≤ 100000) (heq : ms1.map MR.pl = ms2.map MR.pl) :
    Calls Tryd.prog 51 #[.slice (some ⟨p1, 2 * off1, none⟩) ms1.length c1, .slice (some ⟨p2, 2 * off2, none⟩) ms2.length c2, .func (.func 52) #[] #[]] w fun e w' => e = .returned (.bool true) ∧ Below w.heap.size w w' := by
  have hl2 : ms1.length = ms2.length := by have := congrArg List.length heq; simpa using this
  obtain ⟨n, hn⟩ : ∃ n, ms1.length = n := ⟨_, rfl⟩
  have hn2 : ms2.length = n := by omega
  have HN1 := Lib.hid hn
  have HN2 := Lib.hid hn2
  rw [hn] at hl ⊢
  rw [hn2]
  have HEQ := Lib.hid heq
  clear hn hn2 hl2 heq
  go_enter Tryd.func51, Tryd.ntmps51
  go_wp2_with fail
  go_loopw [17] (fun i wr => ∃ k : Nat, k ≤ n ∧ i = .int .i64 (k : Int) ∧ Below w.heap.size w wr) (fun i _ => n - (intOf i).toNat)
  case atStart => exact ⟨0, Nat.zero_le _, rfl, Below.refl _ _⟩
  case round =>
    obtain ⟨k, hk, rfl, hb⟩ := hrel
    have hs := hb.size
    by_cases hlt : k < n
    · have k1 : k < ms1.length := by have := HN1.out; omega
      have k2 : k < ms2.length := by have := HN2.out; omega
      obtain ⟨q0, q1⟩ := tab_row (h1.only (F := []) (Only.of_below hb) (by simp)) hp1 k1
      obtain ⟨r0, r1⟩ := tab_row ((h2.only (F := []) (Only.of_below hb) (by simp)).alloc (.cells #[.slice (some ⟨ms1[k].b, 0, none⟩) ms1[k].l.length ms1[k].cap, .bool ms1[k].wr] 73)) hp2 k2
      obtain ⟨hca, hla⟩ := hm1 _ (List.getElem_mem k1)
      obtain ⟨hcb, hlb⟩ := hm2 _ (List.getElem_mem k2)
      have hab : (ms1[k].l, ms1[k].wr) = (ms2[k].l, ms2[k].wr) := by
        have e1 : (ms1.map MR.pl)[k]? = (ms2.map MR.pl)[k]? := by rw [HEQ.out]
        rw [List.getElem?_eq_getElem (by simpa using k1), List.getElem?_eq_getElem (by simpa using k2)] at e1
        simpa [MR.pl] using e1
      obtain ⟨ma, hma⟩ : ∃ m, ms1[k] = m := ⟨_, rfl⟩
      obtain ⟨mb, hmb⟩ : ∃ m, ms2[k] = m := ⟨_, rfl⟩
      rw [hma] at q0 q1 hca hla hab r0 r1
      rw [hmb] at r0 r1 hcb hlb hab
      have HAB := Lib.hid hab
      have HCA := Lib.hid (hca.only (F := []) (Only.of_below hb) (by simp))
      have HCB := Lib.hid (hcb.only (F := []) (Only.of_below hb) (by simp))
      have i0 : (0 : Int) ≤ (k : Int) := Int.natCast_nonneg _
      have i1 : (k : Int) < (n : Int) := by omega
      clear hma hmb hab hca hcb
      have hA := BL.new wr 73 [.slice (some ⟨ma.b, 0, none⟩) ma.l.length ma.cap, .bool ma.wr]
      have hA2 := hA.alloc (.cells #[.slice (some ⟨mb.b, 0, none⟩) mb.l.length mb.cap, .bool mb.wr] 73)
      have hB := BL.new (wr.alloc (.cells #[.slice (some ⟨ma.b, 0, none⟩) ma.l.length ma.cap, .bool ma.wr] 73)) 73 [.slice (some ⟨mb.b, 0, none⟩) mb.l.length mb.cap, .bool mb.wr]
      have hzA : (wr.alloc (.cells #[.slice (some ⟨ma.b, 0, none⟩) ma.l.length ma.cap, .bool ma.wr] 73)).heap.size = wr.heap.size + 1 := size_alloc _ _
      rw [hzA] at hB
      have hbA : Below wr.heap.size wr ((wr.alloc (.cells #[.slice (some ⟨ma.b, 0, none⟩) ma.l.length ma.cap, .bool ma.wr] 73)).alloc (.cells #[.slice (some ⟨mb.b, 0, none⟩) mb.l.length mb.cap, .bool mb.wr] 73)) := ((Below.refl _ _).alloc (Nat.le_refl _) _).alloc (by omega) _
      have z0 := hA2.cell 0
      have z1 := hA2.cell 1
      have y0 := hB.cell 0
      have y1 := hB.cell 1
      have hbA2 := hb.trans (hbA.mono hs)
      have HBA := Lib.hid hbA
      have HBA2 := Lib.hid hbA2
      clear hA hA2 hB hzA hbA hbA2
      go_wp2_with fail
      have hsr := sameRow_any (HCA.out.only (F := []) (Only.of_below HBA.out) (by simp)) (HCB.out.only (F := []) (Only.of_below HBA.out) (by simp)) ma.cap mb.cap hla hlb HCA.out.1 HCB.out.1 ma.wr mb.wr true (by rw [HAB.out]; simp)
      refine hsr.mono ?_
      rintro _ w3 ⟨rfl, hb3⟩
      have hbE := HBA2.out.trans (hb3.mono HBA2.out.size)
      clear hsr hb3 z0 z1 y0 y1 q0 q1 r0 r1
      go_wp2_with fail
      go_roundw
      case rel => exact ⟨k + 1, by omega, by go_num, hbE⟩
      case measure => simp [intOf]; omega
    · have i1 : (n : Int) ≤ (k : Int) := by omega
      clear hlt
      go_wp2_with fail
      go_ret
      exact ⟨rfl, hb⟩
set_option maxRecDepth 100000 in
theorem equalNone_any (w : World) (A1 A2 : Option Addr) (c1 c2 : Nat) :
    Calls Tryd.prog 51 #[.slice A1 0 c1, .slice A2 0 c2, .func (.func 52) #[] #[]] w fun e w' => e = .returned (.bool true) ∧ Below w.heap.size w w' := by
  go_enter Tryd.func51, Tryd.ntmps51
  go_wp2_with fail
  refine wp_loop_rounds 1 ?_
  rw [rounds_succ]
  go_wp2_with fail
  go_ret
  exact ⟨rfl, Below.refl _ _⟩
/-- Two tables that hold the same, wherever they lie. -/
theorem equalTab_any {w : World} {v1 v2 : Value} {ms1 ms2 : List MR} (h1 : Tabled w v1 ms1) (h2 : Tabled w v2 ms2) (hl : ms1.length ≤ 100000) (heq : ms1.map MR.pl = ms2.map MR.pl) :
    Calls Tryd.prog 51 #[v1, v2, .func (.func 52) #[] #[]] w fun e w' => e = .returned (.bool true) ∧ Below w.heap.size w w' := by
  have hl2 : ms1.length = ms2.length := by have := congrArg List.length heq; simpa using this
  obtain ⟨⟨F1, t1⟩, m1⟩ := h1
  obtain ⟨⟨F2, t2⟩, m2⟩ := h2
  have hsh : ∀ {v : Value} {ms : List MR} {F : List Nat}, TabAt w v ms F → ms = [] → ∃ A c, v = .slice A 0 c := by
    rintro v ms F (⟨rfl, _, _⟩ | ⟨p, off, c, pre, tail, rfl, _⟩) e
    · exact ⟨_, _, rfl⟩
    · subst e; exact ⟨_, _, rfl⟩
  by_cases h0 : ms1 = []
  · have h02 : ms2 = [] := List.eq_nil_of_length_eq_zero (by rw [← hl2, h0]; rfl)
    obtain ⟨A1, c1, rfl⟩ := hsh t1 h0
    obtain ⟨A2, c2, rfl⟩ := hsh t2 h02
    exact equalNone_any w A1 A2 c1 c2
  · have h02 : ms2 ≠ [] := fun e => h0 (List.eq_nil_of_length_eq_zero (by rw [hl2, e]; rfl))
    rcases t1 with ⟨_, e, _⟩ | ⟨p1, off1, c1, pre1, tail1, rfl, _, _, hp1, _, hB1, _⟩
    · exact absurd e h0
    · rcases t2 with ⟨_, e, _⟩ | ⟨p2, off2, c2, pre2, tail2, rfl, _, _, hp2, _, hB2, _⟩
      · exact absurd e h02
      · exact equalRows_any hB1 hp1 hB2 hp2 m1 m2 hl heq
set_option maxRecDepth 100000 in
set_option maxHeartbeats 2000000 in
/-- Two grids that hold the same are the same. -/
theorem same_ga {w : World} {g1 g2 : Nat} {F1 F2 : List Nat} {c lim : Nat} {past rows : List Ro} (h1 : GA w g1 F1 c lim past rows) (h2 : GA w g2 F2 c lim past rows) :
    Calls Tryd.prog 30 #[.pointer (some ⟨g1, 0, none⟩), .pointer (some ⟨g2, 0, none⟩)] w fun e w' => e = .returned (.bool true) ∧ Below w.heap.size w w' := by
  have hbd := h1.bd
  obtain ⟨s1, pv1, fp1, G1, a1, rfl, a2, a3, a4, a5⟩ := h1
  obtain ⟨s2, pv2, fp2, G2, b1, rfl, b2, b3, b4, b5⟩ := h2
  have tb : ∀ {g s : Nat} {pv : Value} {fp : List Nat} {G : GS}, GridAt w g s pv fp G → Tabled w pv G.past ∧ Tabled w (.slice (some ⟨s, 0, none⟩) G.scr.length G.scr.length) G.scr := fun {g s pv fp G} h => by
    have hc : ∀ m ∈ G.past ++ G.scr, CellsAt w m.b m.l m.cap ∧ m.l.length ≤ 1000000 := fun m hm => ⟨h.held.at_ m hm, by rw [h.cells m hm]; have := h.c2; omega⟩
    refine ⟨⟨⟨fp, h.tab⟩, fun m hm => hc m (List.mem_append_left _ hm)⟩, ⟨⟨[s], .inr ⟨s, 0, G.scr.length, [], [], rfl, Nat.le_refl _, ?_, rfl, by simp, by rw [List.append_nil]; exact h.scr, rfl⟩⟩, fun m hm => hc m (List.mem_append_right _ hm)⟩⟩
    have := h.r2
    unfold maxLen; omega
  obtain ⟨p1, r1⟩ := tb a1
  obtain ⟨p2, r2⟩ := tb b1
  have hpl : G1.past.length ≤ 100000 := by have := a1.p2; have := a1.l2; omega
  have hrl : G1.scr.length ≤ 100000 := by have := a1.r2; omega
  have hE : ∀ v1 v2, (v1 = pv1 ∧ v2 = pv2 ∨ v1 = .slice (some ⟨s1, 0, none⟩) G1.scr.length G1.scr.length ∧ v2 = .slice (some ⟨s2, 0, none⟩) G2.scr.length G2.scr.length) → ∀ V, Below w.heap.size w V → Calls Tryd.prog 51 #[v1, v2, .func (.func 52) #[] #[]] V fun e w' => e = .returned (.bool true) ∧ Below V.heap.size V w' := by
    rintro v1 v2 (⟨rfl, rfl⟩ | ⟨rfl, rfl⟩) V hV
    · exact equalTab_any (p1.below hV) (p2.below hV) hpl (by rw [a4, b4])
    · exact equalTab_any (r1.below hV) (r2.below hV) hrl (by rw [a5, b5])
  have x0 := a1.f0
  have x1 := a1.f1
  have x2 := a1.f2
  have x3 := a1.f3
  have y0 := b1.f0
  have y1 := b1.f1
  have y2 := b1.f2
  have y3 := b1.f3
  have hg1 := a1.blk.lt
  have hg2 := b1.blk.lt
  rw [a2] at x0
  rw [a3] at x1
  rw [b2] at y0
  rw [b3] at y1
  have SS : ∀ V, Below w.heap.size w V → (V.cell? ⟨g1, 0, none⟩ = some (.int .i64 (c : Int)) ∧ V.cell? ⟨g1, 1, none⟩ = some (.int .i64 (lim : Int)) ∧ V.cell? ⟨g1, 2, none⟩ = some pv1 ∧ V.cell? ⟨g1, 3, none⟩ = some (.slice (some ⟨s1, 0, none⟩) G1.scr.length G1.scr.length) ∧ V.cell? ⟨g2, 0, none⟩ = some (.int .i64 (c : Int)) ∧ V.cell? ⟨g2, 1, none⟩ = some (.int .i64 (lim : Int)) ∧ V.cell? ⟨g2, 2, none⟩ = some pv2 ∧ V.cell? ⟨g2, 3, none⟩ = some (.slice (some ⟨s2, 0, none⟩) G2.scr.length G2.scr.length) ∧ Below w.heap.size w V) := fun V hV =>
    ⟨(hV.cell (p := ⟨g1, 0, none⟩) hg1).trans x0, (hV.cell (p := ⟨g1, 1, none⟩) hg1).trans x1, (hV.cell (p := ⟨g1, 2, none⟩) hg1).trans x2, (hV.cell (p := ⟨g1, 3, none⟩) hg1).trans x3, (hV.cell (p := ⟨g2, 0, none⟩) hg2).trans y0, (hV.cell (p := ⟨g2, 1, none⟩) hg2).trans y1, (hV.cell (p := ⟨g2, 2, none⟩) hg2).trans y2, (hV.cell (p := ⟨g2, 3, none⟩) hg2).trans y3, hV⟩
  have hdr : Below w.heap.size w w.drew := (Below.refl _ _).drew
  clear tb p1 p2 r1 r2 hpl hrl a1 b1 a2 a3 a4 a5 b2 b3 b4 b5 x0 x1 x2 x3 y0 y1 y2 y3 hbd hg1 hg2
  go_enter Tryd.func30, Tryd.ntmps30
  go_wp2_with fail
  go_region_held3 (fun V => V.cell? ⟨g1, 0, none⟩ = some (.int .i64 (c : Int)) ∧ V.cell? ⟨g1, 1, none⟩ = some (.int .i64 (lim : Int)) ∧ V.cell? ⟨g1, 2, none⟩ = some pv1 ∧ V.cell? ⟨g1, 3, none⟩ = some (.slice (some ⟨s1, 0, none⟩) G1.scr.length G1.scr.length) ∧ V.cell? ⟨g2, 0, none⟩ = some (.int .i64 (c : Int)) ∧ V.cell? ⟨g2, 1, none⟩ = some (.int .i64 (lim : Int)) ∧ V.cell? ⟨g2, 2, none⟩ = some pv2 ∧ V.cell? ⟨g2, 3, none⟩ = some (.slice (some ⟨s2, 0, none⟩) G2.scr.length G2.scr.length) ∧ Below w.heap.size w V)
    (first
      | (refine SS _ ?_; assumption)
      | fail)
    (first
      | (go_at_call 51; obtain ⟨_, _, _, _, _, _, _, _, k2⟩ := (by assumption : _ ∧ _ ∧ _ ∧ _ ∧ _ ∧ _ ∧ _ ∧ _ ∧ Below w.heap.size w _); refine (hE _ _ (by first | exact .inl ⟨rfl, rfl⟩ | exact .inr ⟨rfl, rfl⟩) _ k2).mono ?_; rintro _ w2 ⟨rfl, hb2⟩; have hby := k2.trans (hb2.mono k2.size)))
  all_goals go_wp2_with fail
  all_goals go_ret
  all_goals exact ⟨rfl, hby⟩
end Go.Proofs.YtgjlohplgpcghaaDoor.Grd
