/- Rows scrolled down. -/
import Derived.Test.YtjklnnklgkihlaaGreatDoorPah
import Derived.Test.YtjklnnklgkihlaaGreatDoorPaj
import Derived.Deep.RegionHeld3
import Derived.Deep.AppendLies
namespace Go.Proofs.YtjklnnklgkihlaaGreatDoor.Grd
open Go.RowKit Cel Sty

/-- The rows of the screen, scrolled down: of len from top on, the last q are gone, as many new ones stand ahead of the others. -/
def downL (scr : List MR) (top len q : Nat) (ms : List MR) : List MR := scr.take top ++ (ms ++ ((scr.drop top).take (len - q) ++ scr.drop (top + len)))
theorem downL_len {scr : List MR} {top len q : Nat} {ms : List MR} (h : top + len ≤ scr.length) (hq : q ≤ len) (hm : ms.length = q) : (downL scr top len q ms).length = scr.length := by
  unfold downL
  simp only [List.length_append, List.length_take, List.length_drop]
  omega
theorem downL_rows {scr : List MR} {top len q : Nat} {ms : List MR} (h : top + len ≤ scr.length) (hq : q ≤ len) (hm : ms.length = q) :
    splice (splice (rowsL scr) (2 * (top + q)) (rowsL ((scr.drop top).take (len - q)))) (2 * top) (rowsL ms) = rowsL (downL scr top len q ms) := by
  have h1 : (rowsL ((scr.drop top).take (len - q))).length = 2 * (len - q) := by rw [rowsL_len, List.length_take, List.length_drop]; omega
  have h2 := rowsL_len ms
  have h3 := rowsL_len scr
  have ht : ((rowsL scr).take (2 * (top + q))).length = 2 * (top + q) := by rw [List.length_take]; omega
  have h4 : ∀ X : List Value, ((rowsL scr).take (2 * (top + q)) ++ X).take (2 * top) = (rowsL scr).take (2 * top) := fun X => by
    rw [List.take_append_of_le_length (l₁ := (rowsL scr).take (2 * (top + q))) (by rw [ht]; omega), List.take_take, Nat.min_eq_left (by omega)]
  have h5 : ∀ X : List Value, ((rowsL scr).take (2 * (top + q)) ++ X).drop (2 * top + 2 * q) = X := fun X => by
    rw [show 2 * top + 2 * q = ((rowsL scr).take (2 * (top + q))).length by rw [ht]; omega, List.drop_left]
  unfold splice downL
  rw [rowsL_app, rowsL_app, rowsL_app, rowsL_take scr top, rowsL_drop scr (top + len), h1, h2, hm, show 2 * (top + q) + 2 * (len - q) = 2 * (top + len) by omega]
  rw [List.append_assoc ((rowsL scr).take (2 * (top + q))), h4, h5, List.append_assoc]
theorem downL_sub (past scr : List MR) {top len q : Nat} : ((past ++ scr.take top) ++ ((scr.drop top).take (len - q) ++ scr.drop (top + len))).Sublist (past ++ scr) := by
  rw [List.append_assoc]
  refine (List.Sublist.refl past).append ?_
  have e : scr = scr.take top ++ scr.drop top := (List.take_append_drop top scr).symm
  conv => rhs; rw [e]
  refine (List.Sublist.refl _).append ?_
  have e2 : scr.drop (top + len) = (scr.drop top).drop len := by rw [List.drop_drop]
  rw [e2]
  generalize scr.drop top = l
  have e3 : l.drop len = (l.drop (len - q)).drop (len - (len - q)) := by rw [List.drop_drop, show len - q + (len - (len - q)) = len by omega]
  rw [e3]
  conv => rhs; rw [← List.take_append_drop (len - q) l]
  exact (List.Sublist.refl _).append (List.drop_sublist _ _)

set_option maxRecDepth 100000 in
set_option maxHeartbeats 2000000 in
theorem down_any {w : World} {g s : Nat} {pv : Value} {fp : List Nat} {G : GS} (h : GridAt w g s pv fp G) (top bottom q : Nat) (htb : top ≤ bottom) (hbr : bottom < G.scr.length) (n : Int) (hn : 1 ≤ n) (hq : (q : Int) = min n ((bottom : Int) + 1 - (top : Int)))
    (s1 s2 s3 : Int) (hst : rightS s1 s2 s3 = true) :
    Calls Tryz.prog 204 #[.pointer (some ⟨g, 0, none⟩), .int .i64 (top : Int), .int .i64 (bottom : Int), .int .i64 n, .agg #[.int .i64 s1, .int .i64 s2, .int .i64 s3]] w fun e w' => e = .returned (.tuple #[]) ∧
      ∃ ms, ms.length = q ∧ Alike w.heap.size (List.replicate G.cols (32, 1, s1, s2, s3)) ms ∧ GridAt w' g s pv fp ⟨G.cols, G.limit, G.past, downL G.scr top (bottom + 1 - top) q ms⟩ ∧ Only [s] w w' := by
  have hA := BL.new w 23 [.int .i64 s1, .int .i64 s2, .int .i64 s3]
  have hb0 : Below w.heap.size w (w.alloc (.cells #[.int .i64 s1, .int .i64 s2, .int .i64 s3] 23)) := (Below.refl _ _).alloc (Nat.le_refl _) _
  have hs0 := hb0.size
  have h0 := h.below hb0
  have hreg := region_any h0 top bottom q htb hbr n hn hq s1 s2 s3 hst
  have hr2 := h.r2
  have hc2 := h.c2
  have hgl := h.blk.lt
  have hsl := h.scr.lt
  obtain ⟨d, hd⟩ : ∃ d, bottom + 1 - top = d + q := ⟨bottom + 1 - top - q, by omega⟩
  have hq1 : 1 ≤ q := by omega
  obtain ⟨C, hC⟩ : ∃ C, G.scr.length - top = C := ⟨_, rfl⟩
  have hCd : d + q ≤ C := by omega
  have hC2 : C ≤ 120 := by omega
  have htop : top ≤ 120 := by omega
  have htd : top + (d + q) ≤ G.scr.length := by omega
  rw [hd, hC] at hreg
  rw [hd]
  have HG := Lib.hid h
  have hrl := rowsL_len G.scr
  have hns : g ≠ s := by
    have := h.apart
    simp only [List.nodup_cons, List.mem_cons, not_or] at this
    exact this.1.1
  have hnsp : s ∉ fp := by
    have := h.apart
    simp only [List.nodup_cons, List.mem_cons, not_or] at this
    exact this.2.1
  clear hq hbr htb hn hd hC hst h0
  have i0 : (0 : Int) ≤ (q : Int) := Int.natCast_nonneg _
  have i1 : (q : Int) ≤ (d : Int) + (q : Int) := by omega
  have i2 : (0 : Int) ≤ (d : Int) := Int.natCast_nonneg _
  have i3 : (d : Int) ≤ (d : Int) + (q : Int) := by omega
  have j1 : IntKind.i64.wrap (d : Int) = (d : Int) := IntWalk.i64_in _ ⟨by omega, by omega⟩
  have cd : ¬ C = d := by omega
  have HF : Hid (∀ (w' : World) (ms : List MR), ms.length = q → BL w' s 78 (splice (splice (rowsL G.scr) (2 * (top + q)) (rowsL ((G.scr.drop top).take (d + q - q)))) (2 * top) (rowsL ms)) → Held w' ms → Alike w.heap.size (List.replicate G.cols (32, 1, s1, s2, s3)) ms → Only [s] w w' →
      GridAt w' g s pv fp ⟨G.cols, G.limit, G.past, downL G.scr top (d + q) q ms⟩) := fun w' ms hms hB hH hK ho => by
    have hl := downL_len htd (Nat.le_add_left q d) hms
    rw [downL_rows htd (Nat.le_add_left q d) hms] at hB
    have hb := HG.out.blk.only ho (by simpa using hns)
    rw [← hl] at hb
    refine HG.out.remake (P := G.past ++ G.scr.take top) (M := ms) (S := (G.scr.drop top).take (d + q - q) ++ G.scr.drop (top + (d + q))) hb (HG.out.tab.only ho (fun x hx e => hnsp (by simp at e; exact e ▸ hx))) hB hl ho (fun x hx => by simp at hx; simp [hx]) (fun x hx => .inl hx) HG.out.apart HG.out.p2 ?_ (downL_sub _ _) hH (fun m hm => ?_)
    · unfold downL; simp only [List.append_assoc]
    · obtain ⟨k1, _, k3⟩ := hK m hm
      refine ⟨k3, by rw [k1, List.length_replicate], fun e => ?_⟩
      rcases HG.out.tab with ⟨_, _, e2⟩ | ⟨p, _, _, _, _, _, _, _, _, _, hBp, e2⟩
      · rw [e2] at e; cases e
      · rw [e2] at e
        have := hBp.lt
        simp at e
        omega
  have hgc : w.cell? ⟨g, 0, none⟩ = some (.int .i64 (G.cols : Int)) := HG.out.f0
  have hBs := HG.out.scr
  have hcs1 := rows_from hBs top d
  have hcl : (rowsL ((G.scr.drop top).take d)).length = d * 2 := by rw [rowsL_len, List.length_take, List.length_drop]; omega
  have hone := one_rows ((G.scr.drop top).take d)
  rw [show d + q - q = d by omega] at HF
  rw [show 2 * (top + q) = top * 2 + q * 2 by omega, show 2 * top = top * 2 by omega] at HF
  generalize rowsL ((G.scr.drop top).take d) = cs at *
  generalize rowsL G.scr = xs at *
  obtain ⟨cols, hcols⟩ : ∃ cols, G.cols = cols := ⟨_, rfl⟩
  obtain ⟨GL, hGL⟩ : ∃ GL, G.scr.length = GL := ⟨_, rfl⟩
  rw [hcols] at hgc hc2
  rw [hcols] at HF
  rw [hcols]
  rw [hGL] at hr2 hrl htd
  have hmn : Nat.min (d + q) d * 2 = d * 2 := by rw [show Nat.min (d + q) d = d from Nat.min_eq_right (by omega)]
  rw [← hmn] at hcl
  clear h HG hGL hcols
  have hlay := fun W hx => lay_any s top q C cols (splice xs (top * 2 + q * 2) cs) s1 s2 s3 W hx (by rw [splice_len (by rw [hcl, hmn]; omega)]; omega) (by rw [splice_len (by rw [hcl, hmn]; omega)]; omega) (by omega)
  unfold slV at hlay
  rw [show 2 * top = top * 2 by omega] at hlay
  by_cases hCq : C = q
  · have hqC : q = C := hCq.symm
    subst hqC
    clear hCq
    obtain rfl : d = 0 := by omega
    have hcs0 : cs.length = 0 := by rw [hcl, hmn]
    have hq0 : ¬ q = 0 := by omega
    clear hmn hcl j1 i3 i2
    obtain rfl : cs = [] := List.eq_nil_of_length_eq_zero hcs0
    simp only [splice_nil, Nat.zero_add] at hlay HF hreg htd ⊢
    go_enter Tryz.func204, Tryz.ntmps204
    go_wp2_with (first
      | (refine wpList_load_row rfl 23 _ rfl w.heap.size rfl _ _ _ _ hA Tryz.underlying23 rfl (by kernel_rfl) ?_)
      | (go_at_call 202; refine hreg.mono ?_; rintro _ w1 ⟨rfl, hb1⟩; have hbw := hb0.trans (hb1.mono hs0); have hB1 := hBs.only (F := []) (Only.of_below hbw) (by simp); have hA1 := hA.only (F := []) (Only.of_below hb1) (by simp); have hw1 := Only.of_below (F := [s]) hbw; have hc1 : w1.cell? ⟨g, 0, none⟩ = some (.int .i64 (cols : Int)) := (hbw.cell (p := ⟨g, 0, none⟩) hgl).trans hgc)
      | (refine wpList_copy_wide rfl (.tmp 22) (.tmp 23) 70 70 rfl 78 2 Tryz.underlying70 (by kernel_rfl) s (top * 2) 0 _ ⟨s, top * 2, none⟩ q q rfl rfl xs 78 hB1 [] (by rw [show Nat.min q 0 = 0 from Nat.min_zero q]; rfl) (fun j u hj => by simp at hj) (by simp; omega) (fun v hv => by cases hv) ?_; intro w2 hB2 hw2; rw [splice_nil] at hB2; have hA2 := hA1.only hw2.only (by simp; omega); have ho2 := hw2.2 _ _ hw1 (.inl (by simp)); have hc2' : w2.cell? ⟨g, 0, none⟩ = some (.int .i64 (cols : Int)) := (World.cell?_of_block (hw2.only.block g (by have := hbw.size; omega) (by simpa using hns))).trans hc1; rw [show Nat.min q 0 = 0 from Nat.min_zero q]))
    go_simp
    have hBd : BL w2.drew s 78 xs := hB2
    have hod : Only [s] w w2.drew := ho2.drew
    have hcd : w2.drew.cell? ⟨g, 0, none⟩ = some (.int .i64 (cols : Int)) := hc2'
    have hAd : BL w2.drew w.heap.size 23 [.int .i64 s1, .int .i64 s2, .int .i64 s3] := hA2
    have a0 : w2.drew.cell? ⟨w.heap.size, 0, none⟩ = some (.int .i64 s1) := hAd.cell 0
    have a1 : w2.drew.cell? ⟨w.heap.size, 1, none⟩ = some (.int .i64 s2) := hAd.cell 1
    have a2 : w2.drew.cell? ⟨w.heap.size, 2, none⟩ = some (.int .i64 s3) := hAd.cell 2
    have hsz := hod.size
    clear hA hA1 hA2 hB1 hB2 hreg hcs1 hBs hAd hc1 hc2' ho2 hw2 hw1 hgc hbw hb1 hb0
    go_region_with (go_at_call 103; refine (hlay _ hBd).mono ?_; rintro _ w3 ⟨rfl, ms, hms, hB3, hH3, hK3, ho3⟩)
    all_goals
      have hK4 : Alike w.heap.size (List.replicate cols (32, 1, s1, s2, s3)) ms := fun m hm => ⟨(hK3 m hm).1, (hK3 m hm).2.1, by have := (hK3 m hm).2.2; omega⟩
      have ho4 := hod.trans ho3
      exact body_end rfl rfl ⟨rfl, ms, hms, hK4, HF.out w3 ms hms hB3 hH3 hK4 ho4, ho4⟩
  · go_enter Tryz.func204, Tryz.ntmps204
    go_wp2_with (first
      | (refine wpList_load_row rfl 23 _ rfl w.heap.size rfl _ _ _ _ hA Tryz.underlying23 rfl (by kernel_rfl) ?_)
      | (go_at_call 202; refine hreg.mono ?_; rintro _ w1 ⟨rfl, hb1⟩; have hbw := hb0.trans (hb1.mono hs0); have hB1 := hBs.only (F := []) (Only.of_below hbw) (by simp); have hA1 := hA.only (F := []) (Only.of_below hb1) (by simp); have hw1 := Only.of_below (F := [s]) hbw; have hc1 : w1.cell? ⟨g, 0, none⟩ = some (.int .i64 (cols : Int)) := (hbw.cell (p := ⟨g, 0, none⟩) hgl).trans hgc)
      | (refine wpList_copy_wide rfl (.tmp 22) (.tmp 23) 70 70 rfl 78 2 Tryz.underlying70 (by kernel_rfl) s (top * 2 + q * 2) d (C - q) ⟨s, top * 2, none⟩ (d + q) C rfl rfl xs 78 hB1 cs hcl (fun j u hj => by rw [Addr.add_mid, hB1.cell]; have := hcs1 j u hj; rw [Addr.add_mid, hBs.cell] at this; exact this) (by rw [hcl, hmn]; omega) hone ?_; intro w2 hB2 hw2; have hA2 := hA1.only hw2.only (by simp; omega); have ho2 := hw2.2 _ _ hw1 (.inl (by simp)); have hc2' : w2.cell? ⟨g, 0, none⟩ = some (.int .i64 (cols : Int)) := (World.cell?_of_block (hw2.only.block g (by have := hbw.size; omega) (by simpa using hns))).trans hc1; rw [show Nat.min (d + q) d = d from Nat.min_eq_right (by omega)]))
    go_simp
    have hBd : BL w2.drew s 78 (splice xs (top * 2 + q * 2) cs) := hB2
    have hod : Only [s] w w2.drew := ho2.drew
    have hcd : w2.drew.cell? ⟨g, 0, none⟩ = some (.int .i64 (cols : Int)) := hc2'
    have hAd : BL w2.drew w.heap.size 23 [.int .i64 s1, .int .i64 s2, .int .i64 s3] := hA2
    have a0 : w2.drew.cell? ⟨w.heap.size, 0, none⟩ = some (.int .i64 s1) := hAd.cell 0
    have a1 : w2.drew.cell? ⟨w.heap.size, 1, none⟩ = some (.int .i64 s2) := hAd.cell 1
    have a2 : w2.drew.cell? ⟨w.heap.size, 2, none⟩ = some (.int .i64 s3) := hAd.cell 2
    have hsz := hod.size
    clear hA hA1 hA2 hB1 hB2 hreg hcs1 hBs hAd hc1 hc2' ho2 hw2 hw1 hgc hbw hb1 hb0
    go_region_with (go_at_call 103; refine (hlay _ hBd).mono ?_; rintro _ w3 ⟨rfl, ms, hms, hB3, hH3, hK3, ho3⟩)
    all_goals
      have hK4 : Alike w.heap.size (List.replicate cols (32, 1, s1, s2, s3)) ms := fun m hm => ⟨(hK3 m hm).1, (hK3 m hm).2.1, by have := (hK3 m hm).2.2; omega⟩
      have ho4 := hod.trans ho3
      exact body_end rfl rfl ⟨rfl, ms, hms, hK4, HF.out w3 ms hms hB3 hH3 hK4 ho4, ho4⟩
end Go.Proofs.YtjklnnklgkihlaaGreatDoor.Grd
/- A table of rows, copied. -/
namespace Go.Proofs.YtjklnnklgkihlaaGreatDoor.Grd
open Go.RowKit

/-- Rows that hold what others hold. -/
def Copies (ms ns : List MR) : Prop := ns.map (fun m => (m.l, m.wr)) = ms.map (fun m => (m.l, m.wr))
theorem Copies.len {ms ns : List MR} (h : Copies ms ns) : ns.length = ms.length := by
  have := congrArg List.length h
  simpa using this
theorem Copies.snoc {ms ns : List MR} {k : Nat} (h : Copies (ms.take k) ns) (hk : k < ms.length) {m : MR} (h1 : m.l = ms[k].l) (h2 : m.wr = ms[k].wr) : Copies (ms.take (k + 1)) (ns ++ [m]) := by
  unfold Copies at h ⊢
  rw [List.take_succ_eq_append_getElem hk, List.map_append, List.map_append, h]
  simp [h1, h2]
set_option maxRecDepth 100000 in
set_option maxHeartbeats 2000000 in
theorem cloned_any {w : World} {p off c : Nat} {pre tail : List Value} {ms : List MR} (hB : BL w p 78 (pre ++ rowsL ms ++ tail)) (hpre : pre.length = 2 * off) (hms : ∀ m ∈ ms, CellsAt w m.b m.l m.cap ∧ 0 < m.l.length ∧ m.l.length ≤ 1000000) (hl : ms.length ≤ 100000) :
    Calls Tryz.prog 53 #[.slice (some ⟨p, 2 * off, none⟩) ms.length c] w fun e w' => ∃ b ns, e = .returned (.slice (some ⟨b, 0, none⟩) ms.length ms.length) ∧ w.heap.size ≤ b ∧ BL w' b 78 (rowsL ns) ∧ Copies ms ns ∧ Held w' ns ∧ (∀ m ∈ ns, w.heap.size ≤ m.b ∧ m.b ≠ b) ∧ Below w.heap.size w w' := by
  have hpl := hB.lt
  obtain ⟨n, hn⟩ : ∃ n, ms.length = n := ⟨_, rfl⟩
  have HMS := Lib.hid hn
  rw [hn] at hl ⊢
  clear hn
  go_enter Tryz.func53, Tryz.ntmps53
  go_wp2_with (refine wpList_make_rep rfl (.tmp 7) (.tmp 7) 70 78 rfl Tryz.underlying70 _ 2 32 info_row rfl n rfl rfl (by omega) (by omega) ?_; intro w1 hm hb1 hs1)
  have hzl := rowV0_len n
  go_loopw [4, 5, 11] (fun _ _ i wr => ∃ ns : List MR, ns.length ≤ n ∧ i = .int .i64 (ns.length : Int) ∧ BL wr w.heap.size 78 (splice (List.replicate n rowV0).flatten 0 (rowsL ns)) ∧ Copies (ms.take ns.length) ns ∧ Held wr ns ∧ (∀ m ∈ ns, w.heap.size + 1 ≤ m.b) ∧ Below w.heap.size w wr ∧ w.heap.size + 1 ≤ wr.heap.size) (fun _ _ i _ => n - (intOf i).toNat)
  case atStart => exact ⟨[], Nat.zero_le _, rfl, by rw [show rowsL [] = [] from rfl, splice_nil]; exact hm, rfl, Held.nil _, (fun _ h => by cases h), hb1, by omega⟩
  case round =>
    obtain ⟨ns, hk, rfl, hN, hC, hH, hF, hb, hws⟩ := hrel
    clear hm hb1 hs1
    have hBr := hB.only (F := []) (Only.of_below hb) (by simp)
    have hrl := rowsL_len ns
    have hsl : (splice (List.replicate n rowV0).flatten 0 (rowsL ns)).length = 2 * n := by rw [splice_len (by omega), hzl]
    by_cases hlt : ns.length < n
    · have hlt2 : ns.length < ms.length := by have := HMS.out; omega
      obtain ⟨q0, q1⟩ := tab_row hBr hpre hlt2
      obtain ⟨hcm, hm0, hm1⟩ := hms _ (List.getElem_mem hlt2)
      obtain ⟨m, hmm⟩ : ∃ m, ms[ns.length] = m := ⟨_, rfl⟩
      have HM := Lib.hid hmm
      rw [hmm] at q0 q1 hcm hm0 hm1
      clear hmm
      have hcr := hcm.only (F := []) (Only.of_below hb) (by simp)
      go_wp2_with fail
      have hR := BL.new wr 78 [.slice (some ⟨m.b, 0, none⟩) m.l.length m.cap, .bool m.wr]
      have hcW := hcr.alloc (.cells #[.slice (some ⟨m.b, 0, none⟩) m.l.length m.cap, .bool m.wr] 78)
      have hNW := hN.alloc (.cells #[.slice (some ⟨m.b, 0, none⟩) m.l.length m.cap, .bool m.wr] 78)
      have hbW : Below w.heap.size w (wr.alloc (.cells #[.slice (some ⟨m.b, 0, none⟩) m.l.length m.cap, .bool m.wr] 78)) := hb.alloc (by omega) _
      have hHW := hH.only (F := []) ((Only.refl _ _).alloc (.cells #[.slice (some ⟨m.b, 0, none⟩) m.l.length m.cap, .bool m.wr] 78)) (fun _ _ h => by cases h)
      have hWs : (wr.alloc (.cells #[.slice (some ⟨m.b, 0, none⟩) m.l.length m.cap, .bool m.wr] 78)).heap.size = wr.heap.size + 1 := size_alloc _ _
      have hbm := hcm.lt
      have hcl := fun W h => clone_any m.b m.cap m.cap m.l W h hm0 hm1
      have HR := Lib.hid hR
      have HCW := Lib.hid hcW
      have HWS := Lib.hid hWs
      obtain ⟨xs, hxs⟩ : ∃ xs, splice (List.replicate n rowV0).flatten 0 (rowsL ns) = xs := ⟨_, rfl⟩
      rw [hxs] at hNW hsl
      have HXS := Lib.hid hxs
      clear hN hR hcW hWs hcr q0 q1 hBr hb hxs hH hcm
      generalize wr.alloc (.cells #[.slice (some ⟨m.b, 0, none⟩) m.l.length m.cap, .bool m.wr] 78) = W at *
      have SS : ∀ V, Only [w.heap.size] W V → (V.cell? ⟨wr.heap.size, 0, none⟩ = some (.slice (some ⟨m.b, 0, none⟩) m.l.length m.cap) ∧ V.cell? ⟨wr.heap.size, 1, none⟩ = some (.bool m.wr) ∧ CellsAt V m.b m.l m.cap ∧ Only [w.heap.size] W V) := fun V hkk => by
        have h2 := HR.out.only hkk (by simp; omega)
        exact ⟨h2.cell 0, h2.cell 1, HCW.out.only hkk (by simp; omega), hkk⟩
      have hod : Only [w.heap.size] W W.drew := (Only.refl _ _).drew
      have OS : ∀ V x y, Only [w.heap.size] W V → Only [w.heap.size] W ((V.setCell ⟨w.heap.size, ns.length * 2, none⟩ x).setCell ⟨w.heap.size, ns.length * 2 + 1, none⟩ y) := fun V x y h => (h.setCell (p := ⟨w.heap.size, ns.length * 2, none⟩) (.inl (by simp)) x).setCell (p := ⟨w.heap.size, ns.length * 2 + 1, none⟩) (.inl (by simp)) y
      have v0 : xs[ns.length * 2]? = some (xs[ns.length * 2]'(by omega)) := List.getElem?_eq_getElem (by omega)
      have v1 : xs[ns.length * 2 + 1]? = some (xs[ns.length * 2 + 1]'(by omega)) := List.getElem?_eq_getElem (by omega)
      generalize xs[ns.length * 2]'(by omega) = x0 at *
      generalize xs[ns.length * 2 + 1]'(by omega) = x1 at *
      go_region_held3 (fun V => V.cell? ⟨wr.heap.size, 0, none⟩ = some (.slice (some ⟨m.b, 0, none⟩) m.l.length m.cap) ∧ V.cell? ⟨wr.heap.size, 1, none⟩ = some (.bool m.wr) ∧ CellsAt V m.b m.l m.cap ∧ Only [w.heap.size] W V)
        (first
          | (refine SS _ ?_; assumption)
          | (refine SS _ (OS _ _ _ ?_); assumption)
          | fail)
        (first
          | (go_at_call 60; obtain ⟨_, _, kc, k3⟩ := (by assumption : _ ∧ _ ∧ CellsAt _ m.b m.l m.cap ∧ Only [w.heap.size] W _); refine (hcl _ kc).mono ?_; rintro _ w2 ⟨b2, cap2, rfl, hc2, hbb2, hb2⟩; have hox := k3.trans (Only.of_below hb2); have k5 := k3.size; have hN2 := (show BL W.drew w.heap.size 78 xs from hNW).only (F := []) (Only.of_below hb2) (by simp); have z0 : w2.cell? ⟨w.heap.size, ns.length * 2, none⟩ = some x0 := (hN2.cell _).trans v0; have z1 : w2.cell? ⟨w.heap.size, ns.length * 2 + 1, none⟩ = some x1 := (hN2.cell _).trans v1; have y0 := hN2.frozen (ns.length * 2); have y1 := hN2.frozen (ns.length * 2 + 1)))
      all_goals go_wp2_with fail
      have how := OS w2 (.slice (some ⟨b2, 0, none⟩) m.l.length cap2) (.bool m.wr) hox
      have hN3 := (hN2.set_ (ns.length * 2) (.slice (some ⟨b2, 0, none⟩) m.l.length cap2)).set_ (ns.length * 2 + 1) (.bool m.wr)
      have hsp : (xs.set (ns.length * 2) (.slice (some ⟨b2, 0, none⟩) m.l.length cap2)).set (ns.length * 2 + 1) (.bool m.wr) = splice (List.replicate n rowV0).flatten 0 (rowsL (ns ++ [⟨b2, cap2, m.l, m.wr⟩])) := by
        have e1 := splice_cons (xs := xs) (o := ns.length * 2) (.slice (some ⟨b2, 0, none⟩) m.l.length cap2) [.bool m.wr] (by simp; omega)
        have e2 := splice_one (xs := xs.set (ns.length * 2) (.slice (some ⟨b2, 0, none⟩) m.l.length cap2)) (o := ns.length * 2 + 1) (.bool m.wr) (by rw [List.length_set]; omega)
        have e3 := splice_app (xs := (List.replicate n rowV0).flatten) (us := rowsL ns) (vs := mrL ⟨b2, cap2, m.l, m.wr⟩) (o := 0) (by rw [mrL_len]; omega)
        rw [Nat.zero_add, hrl, HXS.out, show 2 * ns.length = ns.length * 2 by omega] at e3
        rw [← e2, e1, rowsL_app, rowsL_one, ← e3]
        rfl
      rw [hsp] at hN3
      have hws3 := HWS.out
      have hbz : w.heap.size + 1 ≤ b2 := by omega
      have ho23 : Only [w.heap.size] w2 ((w2.setCell ⟨w.heap.size, ns.length * 2, none⟩ (.slice (some ⟨b2, 0, none⟩) m.l.length cap2)).setCell ⟨w.heap.size, ns.length * 2 + 1, none⟩ (.bool m.wr)) := ((Only.refl _ _).setCell (p := ⟨w.heap.size, ns.length * 2, none⟩) (.inl (by simp)) _).setCell (p := ⟨w.heap.size, ns.length * 2 + 1, none⟩) (.inl (by simp)) _
      have hH3 := (hHW.only how (fun x hx => by have := hF x hx; simp; omega)).snoc (m := ⟨b2, cap2, m.l, m.wr⟩) (hc2.only ho23 (by simp; omega)) (fun x hx => by have := hHW.lt hx; show x.b ≠ b2; omega)
      have hC3 := hC.snoc hlt2 (m := ⟨b2, cap2, m.l, m.wr⟩) (by rw [HM.out]) (by rw [HM.out])
      have hlen3 : (ns ++ [(⟨b2, cap2, m.l, m.wr⟩ : MR)]).length = ns.length + 1 := by simp
      rw [← hlen3] at hC3
      have hF3 : ∀ x ∈ ns ++ [(⟨b2, cap2, m.l, m.wr⟩ : MR)], w.heap.size + 1 ≤ x.b := fun x hx => by
        rcases List.mem_append.1 hx with hx | hx
        · exact hF x hx
        · rw [List.mem_singleton] at hx; rw [hx]; exact hbz
      have hsz := how.size
      have hb3 := hbW.trans (how.below (by omega) (by simp))
      go_roundw
      case rel => exact ⟨_, by rw [hlen3]; omega, by rw [hlen3]; simp, hN3, hC3, hH3, hF3, hb3, by omega⟩
      case measure => simp [intOf]; omega
    · have hkn : ns.length = n := by omega
      have hfull : splice (List.replicate n rowV0).flatten 0 (rowsL ns) = rowsL ns := by
        unfold splice
        rw [List.take_zero, List.nil_append, List.drop_of_length_le (by omega), List.append_nil]
      rw [hfull] at hN
      rw [hkn, ← HMS.out, List.take_length] at hC
      clear hkn
      go_wp2_with fail
      go_ret
      exact ⟨_, ns, rfl, Nat.le_refl _, hN, hC, hH, (fun m hm => by have := hF m hm; omega), hb⟩
set_option maxRecDepth 100000 in
theorem cloned_nil (w : World) :
    Calls Tryz.prog 53 #[.slice none 0 0] w fun e w' => ∃ b, e = .returned (.slice (some ⟨b, 0, none⟩) 0 0) ∧ w.heap.size ≤ b ∧ BL w' b 78 [] ∧ Below w.heap.size w w' := by
  go_enter Tryz.func53, Tryz.ntmps53
  go_wp2_with (refine wpList_make_rep rfl (.tmp 7) (.tmp 7) 70 78 rfl Tryz.underlying70 _ 2 32 info_row rfl 0 rfl rfl (by omega) (by omega) ?_; intro w1 hm hb1 hs1)
  refine wp_loop_rounds 1 ?_
  rw [rounds_succ]
  go_wp2_with fail
  go_ret
  exact ⟨_, rfl, Nat.le_refl _, hm, hb1⟩
/-- A table's copy, wherever the table lies. -/
theorem cloned_tab {w : World} {pv : Value} {ms : List MR} {fp : List Nat} (h : TabAt w pv ms fp) (hms : ∀ m ∈ ms, CellsAt w m.b m.l m.cap ∧ 0 < m.l.length ∧ m.l.length ≤ 1000000) (hl : ms.length ≤ 100000) :
    Calls Tryz.prog 53 #[pv] w fun e w' => ∃ b ns, e = .returned (.slice (some ⟨b, 0, none⟩) ms.length ms.length) ∧ w.heap.size ≤ b ∧ BL w' b 78 (rowsL ns) ∧ Copies ms ns ∧ Held w' ns ∧ (∀ m ∈ ns, w.heap.size ≤ m.b ∧ m.b ≠ b) ∧ Below w.heap.size w w' := by
  rcases h with ⟨rfl, rfl, _⟩ | ⟨p, off, c, pre, tail, rfl, _, _, hpre, _, hB, _⟩
  · refine (cloned_nil w).mono fun e w' ⟨b, he, hb, hB, hb2⟩ => ⟨b, [], he, hb, hB, rfl, Held.nil _, (fun _ h => by cases h), hb2⟩
  · exact cloned_any hB hpre hms hl
end Go.Proofs.YtjklnnklgkihlaaGreatDoor.Grd
/- A grid, copied. -/
namespace Go.Proofs.YtjklnnklgkihlaaGreatDoor.Grd
open Go.RowKit

theorem Copies.cells {ms ns : List MR} (h : Copies ms ns) {c : Nat} (hc : ∀ m ∈ ms, m.l.length = c) : ∀ m ∈ ns, m.l.length = c := by
  intro m hm
  have h1 : (m.l, m.wr) ∈ ns.map (fun m => (m.l, m.wr)) := List.mem_map_of_mem hm
  unfold Copies at h
  rw [h] at h1
  obtain ⟨x, hx, e⟩ := List.mem_map.1 h1
  have := hc x hx
  rw [← (Prod.mk.inj e).1]
  exact this
set_option maxRecDepth 100000 in
set_option maxHeartbeats 2000000 in
theorem clone_grid {w : World} {g s : Nat} {pv : Value} {fp : List Nat} {G : GS} (h : GridAt w g s pv fp G) :
    Calls Tryz.prog 30 #[.pointer (some ⟨g, 0, none⟩)] w fun e w' => ∃ g2 s2 p2 np ns, e = .returned (.pointer (some ⟨g2, 0, none⟩)) ∧ GridAt w' g2 s2 (slV p2 0 np.length np.length) [p2] ⟨G.cols, G.limit, np, ns⟩ ∧ Copies G.past np ∧ Copies G.scr ns ∧
      (∀ x ∈ foot g2 s2 [p2] ⟨G.cols, G.limit, np, ns⟩, w.heap.size ≤ x) ∧ Below w.heap.size w w' := by
  have hc1 := h.c1
  have hc2 := h.c2
  have hr1 := h.r1
  have hr2 := h.r2
  have hl2 := h.l2
  have hp2 := h.p2
  have hok : ∀ V, GridAt V g s pv fp G → ∀ m ∈ G.past ++ G.scr, CellsAt V m.b m.l m.cap ∧ 0 < m.l.length ∧ m.l.length ≤ 1000000 := fun V hV m hm => ⟨hV.held.at_ m hm, by rw [hV.cells m hm]; omega, by rw [hV.cells m hm]; omega⟩
  have k1 := fun V (hV : GridAt V g s pv fp G) => cloned_tab hV.tab (fun m hm => hok V hV m (List.mem_append_left _ hm)) (by omega)
  have k2 := fun V (hV : GridAt V g s pv fp G) => cloned_any (p := s) (off := 0) (c := G.scr.length) (pre := []) (tail := []) (ms := G.scr) (by rw [List.nil_append, List.append_nil]; exact hV.scr) rfl (fun m hm => hok V hV m (List.mem_append_right _ hm)) (by omega)
  rw [show 2 * 0 = 0 from rfl] at k2
  have HCp := Lib.hid (fun m hm => h.cells m (List.mem_append_left _ hm))
  have HCs := Lib.hid (fun m hm => h.cells m (List.mem_append_right _ hm))
  have SS : ∀ V, Below w.heap.size w V → (V.cell? ⟨g, 0, none⟩ = some (.int .i64 (G.cols : Int)) ∧ V.cell? ⟨g, 1, none⟩ = some (.int .i64 (G.limit : Int)) ∧ V.cell? ⟨g, 2, none⟩ = some pv ∧ V.cell? ⟨g, 3, none⟩ = some (.slice (some ⟨s, 0, none⟩) G.scr.length G.scr.length) ∧ GridAt V g s pv fp G ∧ Below w.heap.size w V) := fun V hkk => by
    have hV := h.below hkk
    exact ⟨hV.f0, hV.f1, hV.f2, hV.f3, hV, hkk⟩
  have hdr : Below w.heap.size w w.drew := (Below.refl _ _).drew
  have BA : ∀ V o, Below w.heap.size w V → Below w.heap.size w (V.alloc o) := fun V o h => h.alloc h.size o
  clear h hok
  go_enter Tryz.func30, Tryz.ntmps30
  go_wp2_with fail
  go_cut [2] (fun s2v wx => ∃ g2 s2 p2 np ns, s2v = .pointer (some ⟨g2, 0, none⟩) ∧ GridAt wx g2 s2 (slV p2 0 np.length np.length) [p2] ⟨G.cols, G.limit, np, ns⟩ ∧ Copies G.past np ∧ Copies G.scr ns ∧ (∀ x ∈ foot g2 s2 [p2] ⟨G.cols, G.limit, np, ns⟩, w.heap.size ≤ x) ∧ Below w.heap.size w wx)
  case first =>
    go_region_held3 (fun V => V.cell? ⟨g, 0, none⟩ = some (.int .i64 (G.cols : Int)) ∧ V.cell? ⟨g, 1, none⟩ = some (.int .i64 (G.limit : Int)) ∧ V.cell? ⟨g, 2, none⟩ = some pv ∧ V.cell? ⟨g, 3, none⟩ = some (.slice (some ⟨s, 0, none⟩) G.scr.length G.scr.length) ∧ GridAt V g s pv fp G ∧ Below w.heap.size w V)
      (first
        | (refine SS _ ?_; assumption)
        | (refine SS _ (BA _ _ ?_); assumption)
        | fail)
      (first
        | (go_at_call 53; obtain ⟨_, _, _, _, kg, kb⟩ := (by assumption : _ ∧ _ ∧ _ ∧ _ ∧ GridAt _ g s pv fp G ∧ Below w.heap.size w _); with_reducible refine (k1 _ kg).mono ?_; rintro _ w2 ⟨b1, np, rfl, hb1w, hB1, hC1, hH1, hF1, hbl1⟩; have hbx := kb.trans (hbl1.mono kb.size); have ks1 := kb.size)
        | (go_at_call 53; obtain ⟨_, _, _, _, kg4, kb4⟩ := (by assumption : _ ∧ _ ∧ _ ∧ _ ∧ GridAt _ g s pv fp G ∧ Below w.heap.size w _); with_reducible refine (k2 _ kg4).mono ?_; rintro _ w3 ⟨b2, ns, rfl, hb2w, hB2, hC2, hH2, hF2, hbl2⟩; have hby := kb4.trans (hbl2.mono kb4.size); have ks2 := kb4.size))
    all_goals go_wp2_with fail
    all_goals go_meet
    have hB1x := hB1.only (F := []) (Only.of_below hbl2) (by simp)
    have hH1x := hH1.only (F := []) (Only.of_below hbl2) (fun _ _ h => by cases h)
    have e1 := hC1.len
    have e2 := hC2.len
    have l1 := hB1.lt
    have l2 := hB2.lt
    have hs3 := hbl2.size
    have hn1 : ∀ m ∈ np, m.b < w2.heap.size := fun m hm => hH1.lt hm
    have hn2 : ∀ m ∈ ns, m.b < w3.heap.size := fun m hm => hH2.lt hm
    have hmx : maxLen = 9223372036854775807 := rfl
    have hap : Held w3 (np ++ ns) := by
      refine ⟨fun m hm => ?_, ?_⟩
      · rcases List.mem_append.1 hm with hm | hm
        · exact hH1x.at_ m hm
        · exact hH2.at_ m hm
      · rw [List.map_append, List.nodup_append]
        refine ⟨hH1.apart, hH2.apart, fun a ha b hb e => ?_⟩
        obtain ⟨x, hx, rfl⟩ := List.mem_map.1 ha
        obtain ⟨y, hy, rfl⟩ := List.mem_map.1 hb
        have := hn1 x hx
        have := (hF2 y hy).1
        omega
    have hblk := BL.new w3 72 [.int .i64 (G.cols : Int), .int .i64 (G.limit : Int), .slice (some ⟨b1, 0, none⟩) G.past.length G.past.length, .slice (some ⟨b2, 0, none⟩) G.scr.length G.scr.length]
    rw [← e1, ← e2] at hblk ⊢
    refine ⟨w3.heap.size, b2, b1, np, ns, rfl, ⟨hblk, .inr ⟨b1, 0, np.length, [], [], rfl, Nat.le_refl _, by omega, rfl, by simp, by rw [List.nil_append, List.append_nil]; exact hB1x.alloc _, rfl⟩, hB2.alloc _, hap.only (F := []) ((Only.refl _ _).alloc _) (fun _ _ h => by cases h), ?_, ?_, ?_, hc1, hc2, by show 1 ≤ ns.length; omega, by show ns.length ≤ 120; omega, hl2, by show np.length ≤ G.limit; omega⟩, hC1, hC2, ?_, BA _ _ hby⟩
    · simp only [List.nodup_cons, List.mem_cons, List.not_mem_nil, or_false, not_or, not_false_eq_true, List.nodup_nil, and_true]
      omega
    · intro m hm
      simp only [List.mem_cons, List.not_mem_nil, or_false, not_or]
      rcases List.mem_append.1 hm with hm | hm
      · have h1 := hn1 m hm
        have h2 := (hF1 m hm).2
        exact ⟨by omega, by omega, h2⟩
      · have h1 := hn2 m hm
        obtain ⟨h2, h3⟩ := hF2 m hm
        exact ⟨by omega, h3, by omega⟩
    · intro m hm
      rcases List.mem_append.1 hm with hm | hm
      · exact hC1.cells HCp.out m hm
      · exact hC2.cells HCs.out m hm
    · intro x hx
      unfold foot at hx
      rcases List.mem_append.1 hx with hx | hx
      · simp only [List.mem_cons, List.not_mem_nil, or_false] at hx
        rcases hx with rfl | rfl | rfl <;> omega
      · obtain ⟨m, hm, rfl⟩ := List.mem_map.1 hx
        rcases List.mem_append.1 hm with hm | hm
        · have := (hF1 m hm).1
          omega
        · have := (hF2 m hm).1
          omega
  case rest =>
    obtain ⟨g2, s2, p2, np, ns, rfl, h1, h2, h3, h4, h5⟩ := hcut
    go_wp2_with fail
    go_ret
    exact ⟨g2, s2, p2, np, ns, rfl, h1, h2, h3, h4, h5⟩
end Go.Proofs.YtjklnnklgkihlaaGreatDoor.Grd
/- A builder of texts: a letter of seven bits written to it. -/
namespace Go.Proofs.YtjklnnklgkihlaaGreatDoor.Grd
open Go.RowKit

set_option maxRecDepth 100000 in
set_option maxHeartbeats 1000000 in
theorem copyCheck_any (B b : Nat) (bs : List Value) (w : World) (h : Lib.IsBuilder 75 5 B b bs w) :
    Calls Tryz.prog 54 #[.pointer (some ⟨b, 0, none⟩)] w fun e w' => e = .returned (.tuple #[]) ∧ Lib.BuilderAt 75 5 B b (.pointer (some ⟨b, 0, none⟩)) bs w' ∧ Below B w w' := by
  have hsz : (Tryz.prog.info? 75).map (·.size) = some 2 := by kernel_rfl
  obtain ⟨j, hj, hjs⟩ := Option.map_eq_some_iff.1 hsz
  rcases h with h | h
  · have hc := h.cell0
    have hf := h.frozen0
    have hsh := h.shape
    have hu := h.used (.pointer (some ⟨b, 0, none⟩))
    have hb : Below B w (w.setCell ⟨b, 0, none⟩ (.pointer (some ⟨b, 0, none⟩))) := (Below.refl B w).setCell (p := ⟨b, 0, none⟩) h.1 _
    go_enter Tryz.func54, Tryz.ntmps54
    go_wp2
    rw [Lib.run_to_unsafe w ⟨b, 0, none⟩ Tryz.underlying73 Tryz.underlying140 hj (by rw [hjs]; decide) hsh (Nat.zero_lt_succ 1)]
    simp only [Result.andThen]
    rw [Oper.upon_value]
    go_wp2
    rw [run_callFunc_extern Tryz.func98 (by kernel_rfl) (by kernel_rfl) (by kernel_rfl) (e := Extern.AbiNoEscape.same) (by kernel_rfl), Lib.run_noEscape]
    simp only [Result.andThen]
    rw [Oper.upon_value]
    go_wp2
    rw [Lib.run_from_unsafe w ⟨b, 0, none⟩ Tryz.underlying140 Tryz.underlying73 hj hsh (by kernel_rfl)]
    simp only [Result.andThen]
    rw [Oper.upon_value]
    go_wp2
    exact body_end rfl rfl ⟨rfl, hu, hb⟩
  · have hc := h.cell0
    have hne : ∀ W : World, (binOp .neq 73 (.pointer (some ⟨b, 0, none⟩)) (.pointer (some ⟨b, 0, none⟩))).run Tryz.prog W = .ok (.bool false) W := fun W => Lib.run_neq_ptr_same W _ Tryz.underlying73 hj
    go_enter Tryz.func54, Tryz.ntmps54
    go_wp2
    exact body_end rfl rfl ⟨rfl, h, Below.refl _ _⟩
theorem info_byte : (Tryz.prog.info? 5).map (fun i => (i.zero, i.size, i.bytes)) = some (some (.int .u8 0), 1, 1) := by kernel_rfl
set_option maxRecDepth 100000 in
set_option maxHeartbeats 1000000 in
theorem appendRune_ascii (B n : Nat) (v : Value) (xs : List Value) (r : Int) (hr0 : 0 ≤ r) (hr1 : r < 128) (w : World) (hown : w.ownsRow B 5 1 v n xs) (hn : n ≤ 1000000) (hB : B ≤ w.heap.size) :
    Calls Tryz.prog 55 #[v, .int .i32 r] w fun e w' => ∃ v', e = .returned v' ∧ w'.ownsRow B 5 1 v' (n + 1) (xs ++ [.int .u8 r]) ∧ (∀ k, k < w.heap.size → v.ownBlock ≠ some k → w'.heap[k]? = w.heap[k]?) ∧ Below B w w' := by
  have j1 : IntKind.u32.wrap r = r := IntWalk.u32_in _ ⟨by omega, by omega⟩
  have j2 : IntKind.u8.wrap r = r := IntWalk.u8_in _ ⟨by omega, by omega⟩
  have hi := info_byte
  cases hq : Tryz.prog.info? 5 with
  | none => rw [hq] at hi; cases hi
  | some i =>
    rw [hq] at hi
    simp only [Option.map_some, Option.some.injEq, Prod.mk.injEq] at hi
    obtain ⟨hz, hsz, hby⟩ := hi
    have hob := hown.alloc (.cells #[.int .u8 r] 5)
    have hmx : maxLen = 9223372036854775807 := rfl
    go_enter Tryz.func55, Tryz.ntmps55
    go_wp2_with (at_builtin; refine wpList_append_own _ rfl (.tmp 8) (.tmp 11) 28 rfl B 5 i (.int .u8 0) 1 1 Tryz.underlying28 hq hz hsz hby rfl (by decide) v n xs rfl hob ⟨w.heap.size, 0, none⟩ 1 1 [.int .u8 r] rfl (by rfl) (by intro j u hj; match j, hj with | 0, hj => (simp at hj; subst hj; simp [Addr.add])) (by intro u hu; simp at hu; subst hu; rfl) (by omega) (by omega) (by simp; omega) ?_; intro v' w2 hown' hgr _)
    go_ret
    refine ⟨v', rfl, hown', fun k hk hne => ?_, ((Below.refl B w).alloc hB _).grown hgr (by simp; omega) (fun k hk => (hown.lt k hk).1)⟩
    rw [hgr.block k (by simp; omega) (fun e => hne e.symm)]
    exact Below.heap_alloc w _ k hk
set_option maxRecDepth 100000 in
set_option maxHeartbeats 1000000 in
theorem writeRune_ascii (B b : Nat) (bs : List Value) (r : Int) (hr0 : 0 ≤ r) (hr1 : r < 128) (w : World) (h : Lib.IsBuilder 75 5 B b bs w) (hn : bs.length ≤ 1000000) (hB : B ≤ w.heap.size) :
    Calls Tryz.prog 33 #[.pointer (some ⟨b, 0, none⟩), .int .i32 r] w fun e w' => (∃ k : Int, e = .returned (.tuple #[.int .i64 k, .nilIface])) ∧ Lib.IsBuilder 75 5 B b (bs ++ [.int .u8 r]) w' ∧ Below B w w' := by
  have hcc := copyCheck_any B b bs w h
  clear h
  go_enter Tryz.func33, Tryz.ntmps33
  go_wp2_with fail
  refine hcc.mono ?_
  rintro _ w1 ⟨rfl, h1, hb1⟩
  obtain ⟨hBb, v, hbk, hown, hne⟩ := h1
  have c1 : w1.cell? ⟨b, 1, none⟩ = some v := by rw [Lib.cell_of_heap hbk]; rfl
  have hlen : ∀ W : World, ∃ ao cap, v = .slice ao bs.length cap := fun _ => by
    rcases hown.2 with ⟨hv, h0⟩ | ⟨g, cap, cur, hv, _⟩
    · exact ⟨none, 0, by rw [hv, h0]⟩
    · exact ⟨_, _, hv⟩
  obtain ⟨ao, cap, hv⟩ := hlen w1
  have hblt : b < w1.heap.size := by
    rcases Nat.lt_or_ge b w1.heap.size with h' | h'
    · exact h'
    · simp [Array.getElem?_eq_none h'] at hbk
  have har := appendRune_ascii B bs.length v bs r hr0 hr1 w1 hown hn (by have := hb1.size; omega)
  subst hv
  go_wp2_with fail
  refine har.mono ?_
  rintro _ w2 ⟨v2, rfl, hown2, hkeep, hb2⟩
  have hbk2 := (hkeep b hblt hne).trans hbk
  have d1 : w2.cell? ⟨b, 1, none⟩ = some (.slice ao bs.length cap) := by rw [Lib.cell_of_heap hbk2]; rfl
  have f1 : w2.frozen? ⟨b, 1, none⟩ = false := Lib.frozen_of_heap hbk2 1
  obtain ⟨g, cap2, rfl⟩ : ∃ g cap2, v2 = .slice (some ⟨g, 0, none⟩) (bs.length + 1) cap2 := by
    rcases hown2.2 with ⟨_, h0⟩ | ⟨g, cap, cur, hv, _⟩
    · omega
    · exact ⟨g, cap, hv⟩
  go_wp2_with fail
  go_ret2
  refine ⟨⟨_, rfl⟩, .inr ?_, ?_⟩
  · exact Lib.BuilderAt.put (T := 75) (e := 5) hBb hbk2 (bs' := bs ++ [.int .u8 r]) (by simpa using hown2) (by decide)
  · exact (hb1.trans hb2).setCell (p := ⟨b, 1, none⟩) hBb _
end Go.Proofs.YtjklnnklgkihlaaGreatDoor.Grd
/- A row's text, where its runes have seven bits. -/
namespace Go.Proofs.YtjklnnklgkihlaaGreatDoor.Grd
open Go.RowKit

/-- The letters of cells, paddings left out. -/
def lettersL (l : List Ce) : List UInt8 := (l.filter fun c => c.2.1 != 0).map fun c => UInt8.ofNat c.1.toNat
theorem letters_snoc (l : List Ce) {k : Nat} (h : k < l.length) : lettersL (l.take (k + 1)) = if l[k].2.1 = 0 then lettersL (l.take k) else lettersL (l.take k) ++ [UInt8.ofNat l[k].1.toNat] := by
  unfold lettersL
  rw [List.take_succ_eq_append_getElem h, List.filter_append, List.map_append]
  by_cases h0 : l[k].2.1 = 0
  · rw [if_pos h0]; simp [h0]
  · rw [if_neg h0]; simp [h0]
theorem letters_len (l : List Ce) : (lettersL l).length ≤ l.length := by
  unfold lettersL
  rw [List.length_map]
  exact List.length_filter_le _ _
theorem builder_below {B b : Nat} {bs : List Value} {w w' : World} (h : Lib.IsBuilder 75 5 B b bs w) (hb : Below w.heap.size w w') : Lib.IsBuilder 75 5 B b bs w' := by
  have one : ∀ p, Lib.BuilderAt 75 5 B b p bs w → Lib.BuilderAt 75 5 B b p bs w' := fun p hp => by
    have hlt := hp.lt
    obtain ⟨h1, v, h2, h3, h4⟩ := hp
    refine ⟨h1, v, (hb.block b hlt).trans h2, ⟨h3.1, ?_⟩, h4⟩
    rcases h3.2 with e | ⟨g, cap, cur, e1, e2, e3, e4⟩
    · exact .inl e
    · refine .inr ⟨g, cap, cur, e1, e2, (hb.block g ?_).trans e3, e4⟩
      rcases Nat.lt_or_ge g w.heap.size with h' | h'
      · exact h'
      · rw [Array.getElem?_eq_none h'] at e3; cases e3
  exact h.imp (one _) (one _)
set_option maxRecDepth 100000 in
set_option maxHeartbeats 1000000 in
theorem text_of {w : World} {g : Nat} {y : Int} {m : MR} (h : ∀ w', Below w.heap.size w w' → RowIs w' g y m) (hm : CellsAt w m.b m.l m.cap) (hl : m.l.length ≤ 100000) (ha : ∀ c ∈ m.l, c.2.1 ≠ 0 → 0 ≤ c.1 ∧ c.1 < 128) :
    Calls Tryz.prog 18 #[.pointer (some ⟨g, 0, none⟩), .int .i64 y] w fun e w' => e = .returned (.string ⟨(Lib.trimRightB (lettersL m.l) 32).toArray⟩) ∧ Below w.heap.size w w' := by
  have hb0 : Below w.heap.size w (w.alloc (.cells #[.pointer none, .slice none 0 0] 75)) := (Below.refl _ _).alloc (Nat.le_refl _) _
  have h1 := h _ hb0
  have hBu : Lib.IsBuilder 75 5 w.heap.size w.heap.size [] (w.alloc (.cells #[.pointer none, .slice none 0 0] 75)) := .inl ⟨Nat.le_refl _, .slice none 0 0, heap_alloc_new w _, World.ownsRow_nil _ _ _ _, by simp [Value.ownBlock]⟩
  unfold RowIs rowV at h1
  have fd0 := field_cells (.slice (some ⟨m.b, 0, none⟩) m.l.length m.cap) (.bool m.wr)
  have hmb := hm.lt
  have hs0 := hb0.size
  obtain ⟨n, hn⟩ : ∃ n, m.l.length = n := ⟨_, rfl⟩
  have HN := Lib.hid hn
  rw [hn] at h1 fd0 hl
  clear h hn
  go_enter Tryz.func18, Tryz.ntmps18
  go_wp2_with (go_at_call 31; refine h1.mono ?_; rintro _ w1 ⟨rfl, hb1⟩; have hw1 := hb0.trans (hb1.mono hs0))
  have hB1 := builder_below hBu hb1
  have hm1 := hm.only (F := []) (Only.of_below hw1) (by simp)
  have hs1 := hb1.size
  clear hBu hb1 h1 hb0
  go_loopw [7, 13] (fun _ i wr => ∃ k : Nat, k ≤ n ∧ i = .int .i64 (k : Int) ∧ Lib.IsBuilder 75 5 w.heap.size w.heap.size (Lib.byteCells (lettersL (m.l.take k))) wr ∧ CellsAt wr m.b m.l m.cap ∧ Below w.heap.size w wr) (fun _ i _ => n - (intOf i).toNat)
  case atStart => exact ⟨0, Nat.zero_le _, rfl, hB1, hm1, hw1⟩
  case round =>
    obtain ⟨k, hk, rfl, hBu, hmr, hb⟩ := hrel
    clear hB1 hm1 hw1
    have hbs := hb.size
    by_cases hlt : k < n
    · have hkl : k < m.l.length := by have := HN.out; omega
      have hsn := letters_snoc m.l hkl
      have hac := ha m.l[k] (List.getElem_mem hkl)
      have hll := letters_len (m.l.take k)
      rw [List.length_take] at hll
      obtain ⟨⟨r, wd, s1, s2, s3⟩, hq⟩ : ∃ q, m.l[k] = q := ⟨_, rfl⟩
      rw [hq] at hsn hac
      simp only at hsn hac
      have HSN := Lib.hid hsn
      have hA := BL.new wr 81 [.int .i32 r, .int .i64 wd, .int .i64 s1, .int .i64 s2, .int .i64 s3]
      have hbA : Below wr.heap.size wr (wr.alloc (.cells #[.int .i32 r, .int .i64 wd, .int .i64 s1, .int .i64 s2, .int .i64 s3] 81)) := (Below.refl _ _).alloc (Nat.le_refl _) _
      have hBA := builder_below hBu hbA
      have hmA := hmr.alloc (.cells #[.int .i32 r, .int .i64 wd, .int .i64 s1, .int .i64 s2, .int .i64 s3] 81)
      have hbw := hb.trans (hbA.mono hbs)
      have hsA : (wr.alloc (.cells #[.int .i32 r, .int .i64 wd, .int .i64 s1, .int .i64 s2, .int .i64 s3] 81)).heap.size = wr.heap.size + 1 := size_alloc _ _
      have HQ := Lib.hid hq
      clear hsn hq hBu
      by_cases h0 : wd = 0
      · subst h0
        have hip := fun W => isPadding_any r 0 s1 s2 s3 W
        rw [show ((0 : Int) == 0) = true from rfl] at hip
        go_wp2_with (first
          | (refine wpList_load_cell rfl (.tmp 15) rfl m.b (k * 5) k m.cap m.l rfl hmr hkl (by omega) ?_; rw [HQ.out])
          | (refine wpList_load_row rfl 81 _ rfl wr.heap.size rfl _ _ _ _ hA Tryz.underlying81 rfl (by kernel_rfl) ?_)
          | (go_at_call 32; refine (hip _).mono ?_; rintro _ w2 ⟨rfl, hb2⟩; have hB2 := builder_below hBA hb2; have hm2 := hmA.only (F := []) (Only.of_below hb2) (by simp); have hbw2 := hbw.trans (hb2.mono (by omega))))
        go_roundw
        case rel => exact ⟨k + 1, by omega, by go_num, by rw [HSN.out, if_pos trivial]; exact hB2, hm2, hbw2⟩
        case measure => simp [intOf]; omega
      · obtain ⟨hr0, hr1⟩ := hac h0
        have hip := fun W => isPadding_any r wd s1 s2 s3 W
        rw [show (wd == 0) = false by simpa using h0] at hip
        go_wp2_with (first
          | (refine wpList_load_cell rfl (.tmp 15) rfl m.b (k * 5) k m.cap m.l rfl hmr hkl (by omega) ?_; rw [HQ.out])
          | (refine wpList_load_row rfl 81 _ rfl wr.heap.size rfl _ _ _ _ hA Tryz.underlying81 rfl (by kernel_rfl) ?_)
          | (go_at_call 32; refine (hip _).mono ?_; rintro _ w2 ⟨rfl, hb2⟩; have hB2 := builder_below hBA hb2; have hm2 := hmA.only (F := []) (Only.of_below hb2) (by simp); have hbw2 := hbw.trans (hb2.mono (by omega)); have hA2 := hA.only (F := []) (Only.of_below hb2) (by simp); have a0 : w2.cell? ⟨wr.heap.size, 0, none⟩ = some (.int .i32 r) := hA2.cell 0)
          | (go_at_call 33; refine (writeRune_ascii w.heap.size w.heap.size _ r hr0 hr1 _ hB2 (by unfold Lib.byteCells; rw [List.length_map]; omega) hbw2.size).mono ?_; rintro _ w3 ⟨⟨kk, rfl⟩, hB3, hb3⟩))
        have hbw3 := hbw2.trans hb3
        have hby : Lib.byteCells (lettersL (m.l.take k) ++ [UInt8.ofNat r.toNat]) = Lib.byteCells (lettersL (m.l.take k)) ++ [.int .u8 r] := by
          unfold Lib.byteCells
          rw [List.map_append]
          have e : ((UInt8.ofNat r.toNat).toNat : Int) = r := by
            have : (UInt8.ofNat r.toNat).toNat = r.toNat % 256 := UInt8.toNat_ofNat
            omega
          show _ ++ [Value.int .u8 ((UInt8.ofNat r.toNat).toNat : Int)] = _
          rw [e]
        have hS2 := HSN.out
        rw [if_neg h0] at hS2
        go_roundw
        case rel => exact ⟨k + 1, by omega, by go_num, by rw [hS2, hby]; exact hB3, hm.only (F := []) (Only.of_below hbw3) (by simp), hbw3⟩
        case measure => simp [intOf]; omega
    · obtain rfl : k = n := by omega
      have e : lettersL (m.l.take k) = lettersL m.l := by rw [← HN.out, List.take_length]
      rw [e] at hBu
      have hll := letters_len m.l
      have hszl : (⟨(lettersL m.l).toArray⟩ : ByteArray).size ≤ 9223372036854775807 := by
        show (lettersL m.l).toArray.size ≤ _
        rw [List.size_toArray]
        have := HN.out
        omega
      clear e
      go_wp2_with (first
        | (go_at_call 35; refine (Tryz.Builder_String_any w.heap.size w.heap.size (lettersL m.l) _ hBu hbs).mono ?_; rintro _ w2 ⟨rfl, hb2⟩)
        | (go_at_call 34; refine (Tryz.strings_TrimRight_one ⟨(lettersL m.l).toArray⟩ 32 (by decide) _ hszl).mono ?_; rintro _ w3 ⟨rfl, rfl⟩))
      go_ret
      exact ⟨rfl, hb.trans hb2⟩
end Go.Proofs.YtjklnnklgkihlaaGreatDoor.Grd
/- The law's own pick, letter and plain look; a number held within a size. -/
namespace Go.Proofs.YtjklnnklgkihlaaGreatDoor.Grd
open Go.RowKit

def pickS (n m : Int) : Int := (if n < 0 then -(n + 1) else n) % m
theorem pickS_le (n m : Int) (hm : 0 < m) : 0 ≤ pickS n m ∧ pickS n m < m := ⟨Int.emod_nonneg _ (by omega), Int.emod_lt_of_pos _ hm⟩
end Go.Proofs.YtjklnnklgkihlaaGreatDoor.Grd
/- So many rows, out of a table that there is. -/
namespace Go.Proofs.YtjklnnklgkihlaaGreatDoor.Grd
open Go.RowKit

set_option maxRecDepth 100000 in
set_option maxHeartbeats 1000000 in
theorem filled_rows {w : World} {p off c : Nat} {pre tail : List Value} {ms : List MR} (hB : BL w p 78 (pre ++ rowsL ms ++ tail)) (hpre : pre.length = 2 * off) (cols n : Nat) (hn1 : 1 ≤ n) (hn : n ≤ 1000) (hc : cols ≤ 1000000) :
    Calls Tryz.prog 62 #[.slice (some ⟨p, 2 * off, none⟩) ms.length c, .int .i64 (cols : Int), .int .i64 (n : Int)] w fun e w' => ∃ g new, e = .returned (.slice (some ⟨g, 0, none⟩) n n) ∧ w.heap.size ≤ g ∧ new.length = n - ms.length ∧
      BL w' g 78 (rowsL (ms.take n ++ new)) ∧ Held w' new ∧ Alike (g + 1) (List.replicate cols plainCe) new ∧ Below w.heap.size w w' := by
  obtain ⟨k, hk⟩ : ∃ k, ms.length = k := ⟨_, rfl⟩
  obtain ⟨h, hh⟩ : ∃ h, Nat.min k n = h := ⟨_, rfl⟩
  have hh2 : (k ≤ n ∧ h = k) ∨ (n < k ∧ h = n) := by
    rcases Nat.le_total k n with e | e
    · exact .inl ⟨e, by rw [← hh]; exact Nat.min_eq_left e⟩
    · rcases Nat.lt_or_ge n k with e2 | e2
      · exact .inr ⟨e2, by rw [← hh]; exact Nat.min_eq_right e⟩
      · exact .inl ⟨e2, by rw [← hh]; exact Nat.min_eq_left e2⟩
  have hcl : (rowsL (ms.take n)).length = h * 2 := by rw [rowsL_len, List.length_take, hk]; omega
  have hone := one_rows (ms.take n)
  have hsrc : ∀ V : World, BL V p 78 (pre ++ rowsL ms ++ tail) → ∀ j u, (rowsL (ms.take n))[j]? = some u → V.cell? ((⟨p, 2 * off, none⟩ : Addr).add j) = some u := fun V hV j u hj => by
    have hj2 := (List.getElem?_eq_some_iff.1 hj).1
    have hr := rowsL_len ms
    rw [rowsL_take, List.getElem?_take] at hj
    split at hj
    · rw [Addr.add_mid, hV.cell, List.append_assoc, List.getElem?_append_right (by omega), hpre, show 2 * off + j - 2 * off = j by omega, List.getElem?_append_left (List.getElem?_eq_some_iff.1 hj).1]
      exact hj
    · cases hj
  rw [hk]
  have HF : Hid (∀ new : List MR, new.length = n - k → splice (splice (List.replicate n rowV0).flatten 0 (rowsL (ms.take n))) (2 * h) (rowsL new) = rowsL (ms.take n ++ new)) := fun new hnew => by
    have h1 := rowsL_len new
    have h2 := splice_full (xs := (List.replicate n rowV0).flatten) (us := rowsL (ms.take n)) (vs := rowsL new) (by rw [rowV0_len, h1, hcl, hnew]; omega)
    rw [hcl, show h * 2 = 2 * h by omega] at h2
    rw [h2, rowsL_app]
  generalize rowsL (ms.take n) = cs at *
  have hzl := rowV0_len n
  have i0 : (0 : Int) ≤ (h : Int) := Int.natCast_nonneg _
  have i1 : (h : Int) ≤ (n : Int) := by omega
  clear hpre hk
  by_cases hhn : h = n
  · subst hhn
    have hnk : h - k = 0 := by omega
    go_enter Tryz.func62, Tryz.ntmps62
    go_wp2_with (first
      | (refine wpList_make_rep rfl (.tmp 9) (.tmp 9) 70 78 rfl Tryz.underlying70 _ 2 32 info_row rfl h rfl rfl (by omega) (by omega) ?_; intro w1 hm hb1 hs1; have hB1 := hB.only (F := []) (Only.of_below hb1) (by simp))
      | (refine wpList_copy_wide rfl (.tmp 11) (.tmp 12) 70 70 rfl 78 2 Tryz.underlying70 (by kernel_rfl) w.heap.size 0 h h ⟨p, 2 * off, none⟩ k c rfl rfl (List.replicate h rowV0).flatten 78 hm cs (by rw [hcl, hh]) (hsrc _ hB1) (by rw [hcl]; omega) hone ?_; intro w2 hm2 hw2; rw [hh]))
    have ho2 := hw2.2 [w.heap.size] w (Only.of_below hb1) (.inl (by simp))
    have hmd : BL w2.drew w.heap.size 78 (splice (List.replicate h rowV0).flatten 0 cs) := hm2
    have hod : Only [w.heap.size] w w2.drew := ho2.drew
    have hsl : (splice (List.replicate h rowV0).flatten 0 cs).length = 2 * h := by rw [splice_len (by omega), hzl]
    have hs2 : w.heap.size + 1 ≤ w2.drew.heap.size := by show _ ≤ w2.heap.size; rw [hw2.1]; omega
    clear hm hm2 hb1 hs1 hB1 hB hw2 ho2 hsrc
    go_region_with (first
      | (go_at_call 10; refine (plain_any _).mono ?_; rintro _ w3 ⟨rfl, hb3⟩; have hm3 := hmd.only (F := []) (Only.of_below hb3) (by simp); have hw3 := hod.trans (Only.of_below hb3); have hs3 := hb3.size)
      | (go_at_call 103; refine (lay_any w.heap.size 0 0 0 cols _ _ _ _ _ hm3 (by omega) (by omega) hc).mono ?_; rintro _ w4 ⟨rfl, new, hnew, hB4, hH4, hK4, ho4⟩))
    all_goals go_wp2_with fail
    all_goals
      have hnew2 : new = [] := List.eq_nil_of_length_eq_zero hnew
      subst hnew2
      have hx := HF.out [] (by rw [hnk]; rfl)
      rw [show rowsL ([] : List MR) = [] from rfl, splice_nil] at hx
      rw [show rowsL ([] : List MR) = [] from rfl, splice_nil, hx] at hB4
      go_ret
      exact ⟨_, [], rfl, Nat.le_refl _, hnk.symm, hB4, hH4, (fun m hm => by cases hm), (hw3.trans ho4).below (Nat.le_refl _) (by simp)⟩
  · have cd : ¬ n = h := fun e => hhn e.symm
    go_enter Tryz.func62, Tryz.ntmps62
    go_wp2_with (first
      | (refine wpList_make_rep rfl (.tmp 9) (.tmp 9) 70 78 rfl Tryz.underlying70 _ 2 32 info_row rfl n rfl rfl (by omega) (by omega) ?_; intro w1 hm hb1 hs1; have hB1 := hB.only (F := []) (Only.of_below hb1) (by simp))
      | (refine wpList_copy_wide rfl (.tmp 11) (.tmp 12) 70 70 rfl 78 2 Tryz.underlying70 (by kernel_rfl) w.heap.size 0 n n ⟨p, 2 * off, none⟩ k c rfl rfl (List.replicate n rowV0).flatten 78 hm cs (by rw [hcl, hh]) (hsrc _ hB1) (by rw [hcl]; omega) hone ?_; intro w2 hm2 hw2; rw [hh]))
    have ho2 := hw2.2 [w.heap.size] w (Only.of_below hb1) (.inl (by simp))
    have hmd : BL w2.drew w.heap.size 78 (splice (List.replicate n rowV0).flatten 0 cs) := hm2
    have hod : Only [w.heap.size] w w2.drew := ho2.drew
    have hsl : (splice (List.replicate n rowV0).flatten 0 cs).length = 2 * n := by rw [splice_len (by omega), hzl]
    have hs2 : w.heap.size + 1 ≤ w2.drew.heap.size := by show _ ≤ w2.heap.size; rw [hw2.1]; omega
    clear hm hm2 hb1 hs1 hB1 hB hw2 ho2 hsrc
    go_region_with (first
      | (go_at_call 10; refine (plain_any _).mono ?_; rintro _ w3 ⟨rfl, hb3⟩; have hm3 := hmd.only (F := []) (Only.of_below hb3) (by simp); have hw3 := hod.trans (Only.of_below hb3); have hs3 := hb3.size)
      | (go_at_call 103; rw [Nat.mul_comm h 2]; refine (lay_any w.heap.size h (n - h) (n - h) cols _ _ _ _ _ hm3 (by omega) (by omega) hc).mono ?_; rintro _ w4 ⟨rfl, new, hnew, hB4, hH4, hK4, ho4⟩))
    all_goals go_wp2_with fail
    all_goals
      have hnew2 : new.length = n - k := by omega
      rw [HF.out new hnew2] at hB4
      go_ret
      exact ⟨_, new, rfl, Nat.le_refl _, hnew2, hB4, hH4, (fun m hm => ⟨(hK4 m hm).1, (hK4 m hm).2.1, by have := (hK4 m hm).2.2; omega⟩), (hw3.trans ho4).below (Nat.le_refl _) (by simp)⟩
end Go.Proofs.YtjklnnklgkihlaaGreatDoor.Grd
/- A flow in memory: its last row. -/
namespace Go.Proofs.YtjklnnklgkihlaaGreatDoor.Grd
open Go.RowKit

/-- What flows: the rows so far, the column that comes next, the place. -/
structure FL where
  cols : Nat
  rows : List MR
  next : Nat
  px : Int
  py : Int
end Go.Proofs.YtjklnnklgkihlaaGreatDoor.Grd
/- A flow begins a row. -/
namespace Go.Proofs.YtjklnnklgkihlaaGreatDoor.Grd
open Go.RowKit

theorem step_append_rows {ops : Array Oper} {o : Oper} {a : Act} {w : World} {K : Act → World → Prop} {Q : Exit → Act → World → Prop} {E : Prop} (hgd : o.guard = none) (s x : Operand) (ho : o.op = .call { callee := .builtin .append, args := #[s, x], argTypes := #[70, 70] })
    (pv : Value) (past : List MR) (fp : List Nat) (hs : a.eval s = pv) (ht : TabAt w pv past fp) (ad : Addr) (c : Nat) (new : List MR) (hx : a.eval x = .slice (some ad) new.length c) (h0 : 0 < new.length) (hnews : ∀ j u, (rowsL new)[j]? = some u → w.cell? (ad.add j) = some u) (hl : past.length + new.length ≤ 1000000)
    (h : ∀ v' w' fp', TabAt w' v' (past ++ new) fp' → (∀ x ∈ fp', x ∈ fp ∨ w.heap.size ≤ x) → Only fp w w' → K (a.put o.dst v') w') :
    if Region.wanted o (yielded ops a.tmps) = true then Oper.wp Tryz.prog o a w K Q else E := by
  have hw : Region.wanted o (yielded ops a.tmps) = true := by simp [Region.wanted, hgd]
  rw [if_pos hw]
  obtain ⟨v', w', fp', hrun, h1, h2, h3⟩ := append_rows w ht o.type ad c new h0 hnews hl
  have hk := h v' w' fp' h1 h2 h3
  unfold Oper.wp
  simp [execOp, ho, resolve, invoke, builtin, hs, hx, hrun, Result.andThen]
  exact hk

end Go.Proofs.YtjklnnklgkihlaaGreatDoor.Grd
/- What a flow holds, in plain words; its last row turned in memory. -/
namespace Go.Proofs.YtjklnnklgkihlaaGreatDoor.Grd
open Go.RowKit

/-- A row in plain words: its cells, whether it goes on. -/
abbrev Ro := List Ce × Bool
structure PF where
  cols : Nat
  rows : List Ro
  next : Nat
  px : Int
  py : Int
def MR.pl (m : MR) : Ro := (m.l, m.wr)
def FL.pl (L : FL) : PF := ⟨L.cols, L.rows.map MR.pl, L.next, L.px, L.py⟩
/-- The last row turned. -/
def setLast (rs : List Ro) (f : Ro → Ro) : List Ro := rs.dropLast ++ (rs.getLast?.map f).toList
theorem setLast_snoc (rs : List Ro) (r : Ro) (f : Ro → Ro) : setLast (rs ++ [r]) f = rs ++ [f r] := by unfold setLast; simp
def beginF (P : PF) : PF := { P with rows := P.rows ++ [(List.replicate P.cols plainCe, false)], next := 0 }
/-- The row that a cell comes to: a full one goes on in a new one. -/
def roomF (P : PF) : PF := if P.next = P.cols then beginF { P with rows := setLast P.rows fun r => (r.1, true) } else P
def putF (P : PF) (c : Ce) : PF := { roomF P with rows := setLast (roomF P).rows fun r => (r.1.set (roomF P).next c, r.2), next := (roomF P).next + 1 }

theorem tab_open {w : World} {tv : Value} {R : List MR} {m : MR} {ft : List Nat} (h : TabAt w tv (R ++ [m]) ft) :
    ∃ p off c pre tail, tv = slV p (2 * off) (R.length + 1) c ∧ ft = [p] ∧ R.length + 1 ≤ c ∧ c ≤ maxLen ∧ pre.length = 2 * off ∧ 2 * (c - (R.length + 1)) ≤ tail.length ∧ BL w p 78 (pre ++ rowsL R ++ (mrL m ++ tail)) := by
  rcases h with ⟨_, e, _⟩ | ⟨p, off, c, pre, tail, rfl, h2, h3, h4, h5, h6, rfl⟩
  · simp at e
  · rw [List.length_append, List.length_singleton] at h2 h5
    refine ⟨p, off, c, pre, tail, by rw [List.length_append]; rfl, rfl, h2, h3, h4, h5, ?_⟩
    rw [rowsL_app, rowsL_one] at h6
    simpa only [List.append_assoc] using h6
theorem tab_shut {w : World} {R : List MR} {m : MR} {p off c : Nat} {pre tail : List Value} (h2 : R.length + 1 ≤ c) (h3 : c ≤ maxLen) (h4 : pre.length = 2 * off) (h5 : 2 * (c - (R.length + 1)) ≤ tail.length) (h6 : BL w p 78 (pre ++ rowsL R ++ (mrL m ++ tail))) :
    TabAt w (slV p (2 * off) (R.length + 1) c) (R ++ [m]) [p] := by
  refine .inr ⟨p, off, c, pre, tail, by rw [List.length_append]; rfl, by rw [List.length_append]; exact h2, h3, h4, by rw [List.length_append]; exact h5, ?_, rfl⟩
  rw [rowsL_app, rowsL_one]
  simpa only [List.append_assoc] using h6
/-- The last row's two values, where its table lies. -/
theorem tab_last {w : World} {R : List MR} {m : MR} {p off : Nat} {pre tail : List Value} (h4 : pre.length = 2 * off) (h6 : BL w p 78 (pre ++ rowsL R ++ (mrL m ++ tail))) :
    w.cell? ⟨p, 2 * (off + R.length), none⟩ = some (slV m.b 0 m.l.length m.cap) ∧ w.cell? ⟨p, 2 * (off + R.length) + 1, none⟩ = some (.bool m.wr) ∧ w.frozen? ⟨p, 2 * (off + R.length) + 1, none⟩ = false := by
  have hl : (pre ++ rowsL R).length = 2 * (off + R.length) := by rw [List.length_append, rowsL_len]; omega
  refine ⟨?_, ?_, h6.frozen _⟩
  · rw [h6.cell, List.getElem?_append_right (by omega), hl, Nat.sub_self]; rfl
  · rw [h6.cell, List.getElem?_append_right (by omega), hl, show 2 * (off + R.length) + 1 - 2 * (off + R.length) = 1 by omega]; rfl
end Go.Proofs.YtjklnnklgkihlaaGreatDoor.Grd
/- A cell put at a flow's end. -/
namespace Go.Proofs.YtjklnnklgkihlaaGreatDoor.Grd
open Go.RowKit

theorem CellsAt.froz {w : World} {b cap : Nat} {l : List Ce} (h : CellsAt w b l cap) (k : Nat) : w.frozen? ⟨b, k, none⟩ = false := by
  obtain ⟨_, _, _, h⟩ := h
  exact h.frozen k
/-- A cell stored value by value. -/
theorem CellsAt.five_set {w : World} {b cap : Nat} {l : List Ce} (h : CellsAt w b l cap) {i : Nat} (hi : i < l.length) (r wd s1 s2 s3 : Int) :
    CellsAt (((((w.setCell ⟨b, i * 5, none⟩ (.int .i32 r)).setCell ⟨b, i * 5 + 1, none⟩ (.int .i64 wd)).setCell ⟨b, i * 5 + 2, none⟩ (.int .i64 s1)).setCell ⟨b, i * 5 + 3, none⟩ (.int .i64 s2)).setCell ⟨b, i * 5 + 4, none⟩ (.int .i64 s3)) b (l.set i (r, wd, s1, s2, s3)) cap ∧
    Wrote b w (((((w.setCell ⟨b, i * 5, none⟩ (.int .i32 r)).setCell ⟨b, i * 5 + 1, none⟩ (.int .i64 wd)).setCell ⟨b, i * 5 + 2, none⟩ (.int .i64 s1)).setCell ⟨b, i * 5 + 3, none⟩ (.int .i64 s2)).setCell ⟨b, i * 5 + 4, none⟩ (.int .i64 s3)) := by
  have h1 := h.set hi (r, wd, s1, s2, s3)
  have h2 := Wrote.setCells b (5 * i) (ceL (r, wd, s1, s2, s3)) w
  rw [Nat.mul_comm 5 i] at h1 h2
  exact ⟨h1, h2⟩

end Go.Proofs.YtjklnnklgkihlaaGreatDoor.Grd
/- A cell put at the end of a flow whose last row is full; at any. -/
namespace Go.Proofs.YtjklnnklgkihlaaGreatDoor.Grd
open Go.RowKit

end Go.Proofs.YtjklnnklgkihlaaGreatDoor.Grd
