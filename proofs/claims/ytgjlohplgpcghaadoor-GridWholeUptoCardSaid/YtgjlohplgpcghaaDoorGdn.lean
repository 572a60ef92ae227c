/- Rows scrolled down. -/
import Derived.Test.YtgjlohplgpcghaaDoorGup
namespace Go.Proofs.YtgjlohplgpcghaaDoor.Grd
open Go.RowKit Cel Sty

/-- The rows of the screen, scrolled down: of len from top on, the last q are gone, as many new ones stand ahead of the others. -/
def downL (scr : List MR) (top len q : Nat) (ms : List MR) : List MR := scr.take top ++ (ms ++ ((scr.drop top).take (len - q) ++ scr.drop (top + len)))
theorem downL_len {scr : List MR} {top len q : Nat} {ms : List MR} (h : top + len ≤ scr.length) (hq : q ≤ len) (hm : ms.length = q) : (downL scr top len q ms).length = scr.length := by
  unfold downL
  simp only [List.length_append, List.length_take, List.length_drop]
  omega
theorem downL_rows {scr : List MR} {top len q : Nat} {ms : List MR} (h : top + len ≤ scr.length) (hq : q ≤ len) (hm : ms.length = q) :
    splice (splice (rowsL scr) (2 * (top + q)) (rowsL ((scr.drop top).take (len - q)))) (2 * top) (rowsL ms) = rowsL (downL scr top len q ms) := by
  have h1 : (rowsL ((scr.drop top).take (len - q))).length = 2 * (len - q) := by rw [rowsL_len, List.length_take, List.length_drop]; omega
  have h2 := rowsL_len ms
  have h3 := rowsL_len scr
  have ht : ((rowsL scr).take (2 * (top + q))).length = 2 * (top + q) := by rw [List.length_take]; omega
  have h4 : ∀ X : List Value, ((rowsL scr).take (2 * (top + q)) ++ X).take (2 * top) = (rowsL scr).take (2 * top) := fun X => by
    rw [List.take_append_of_le_length (l₁ := (rowsL scr).take (2 * (top + q))) (by rw [ht]; omega), List.take_take, Nat.min_eq_left (by omega)]
  have h5 : ∀ X : List Value, ((rowsL scr).take (2 * (top + q)) ++ X).drop (2 * top + 2 * q) = X := fun X => by
    rw [show 2 * top + 2 * q = ((rowsL scr).take (2 * (top + q))).length by rw [ht]; omega, List.drop_left]
  unfold splice downL
  rw [rowsL_app, rowsL_app, rowsL_app, rowsL_take scr top, rowsL_drop scr (top + len), h1, h2, hm, show 2 * (top + q) + 2 * (len - q) = 2 * (top + len) by omega]
  rw [List.append_assoc ((rowsL scr).take (2 * (top + q))), h4, h5, List.append_assoc]
theorem downL_sub (past scr : List MR) {top len q : Nat} : ((past ++ scr.take top) ++ ((scr.drop top).take (len - q) ++ scr.drop (top + len))).Sublist (past ++ scr) := by
  rw [List.append_assoc]
  refine (List.Sublist.refl past).append ?_
  have e : scr = scr.take top ++ scr.drop top := (List.take_append_drop top scr).symm
  conv => rhs; rw [e]
  refine (List.Sublist.refl _).append ?_
  have e2 : scr.drop (top + len) = (scr.drop top).drop len := by rw [List.drop_drop]
  rw [e2]
  generalize scr.drop top = l
  have e3 : l.drop len = (l.drop (len - q)).drop (len - (len - q)) := by rw [List.drop_drop, show len - q + (len - (len - q)) = len by omega]
  rw [e3]
  conv => rhs; rw [← List.take_append_drop (len - q) l]
  exact (List.Sublist.refl _).append (List.drop_sublist _ _)

set_option maxRecDepth 100000 in
set_option maxHeartbeats 2000000 in
theorem down_any {w : World} {g s : Nat} {pv : Value} {fp : List Nat} {G : GS} (h : GridAt w g s pv fp G) (top bottom q : Nat) (htb : top ≤ bottom) (hbr : bottom < G.scr.length) (n : Int) (hn : 1 ≤ n) (hq : (q : Int) = min n ((bottom : Int) + 1 - (top : Int)))
    (s1 s2 s3 : Int) (hst : rightS s1 s2 s3 = true) :
    Calls Tryd.prog 16 #[.pointer (some ⟨g, 0, none⟩), .int .i64 (top : Int), .int .i64 (bottom : Int), .int .i64 n, .agg #[.int .i64 s1, .int .i64 s2, .int .i64 s3]] w fun e w' => e = .returned (.tuple #[]) ∧
      ∃ ms, ms.length = q ∧ Alike w.heap.size (List.replicate G.cols (32, 1, s1, s2, s3)) ms ∧ GridAt w' g s pv fp ⟨G.cols, G.limit, G.past, downL G.scr top (bottom + 1 - top) q ms⟩ ∧ Only [s] w w' := by
  have hA := BL.new w 33 [.int .i64 s1, .int .i64 s2, .int .i64 s3]
  have hb0 : Below w.heap.size w (w.alloc (.cells #[.int .i64 s1, .int .i64 s2, .int .i64 s3] 33)) := (Below.refl _ _).alloc (Nat.le_refl _) _
  have hs0 := hb0.size
  have h0 := h.below hb0
  have hreg := region_any h0 top bottom q htb hbr n hn hq s1 s2 s3 hst
  have hr2 := h.r2
  have hc2 := h.c2
  have hgl := h.blk.lt
  have hsl := h.scr.lt
  obtain ⟨d, hd⟩ : ∃ d, bottom + 1 - top = d + q := ⟨bottom + 1 - top - q, by omega⟩
  have hq1 : 1 ≤ q := by omega
  obtain ⟨C, hC⟩ : ∃ C, G.scr.length - top = C := ⟨_, rfl⟩
  have hCd : d + q ≤ C := by omega
  have hC2 : C ≤ 120 := by omega
  have htop : top ≤ 120 := by omega
  have htd : top + (d + q) ≤ G.scr.length := by omega
  rw [hd, hC] at hreg
  rw [hd]
  have HG := Lib.hid h
  have hrl := rowsL_len G.scr
  have hns : g ≠ s := by
    have := h.apart
    simp only [List.nodup_cons, List.mem_cons, not_or] at this
    exact this.1.1
  have hnsp : s ∉ fp := by
    have := h.apart
    simp only [List.nodup_cons, List.mem_cons, not_or] at this
    exact this.2.1
  clear hq hbr htb hn hd hC hst h0
  have i0 : (0 : Int) ≤ (q : Int) := Int.natCast_nonneg _
  have i1 : (q : Int) ≤ (d : Int) + (q : Int) := by omega
  have i2 : (0 : Int) ≤ (d : Int) := Int.natCast_nonneg _
  have i3 : (d : Int) ≤ (d : Int) + (q : Int) := by omega
  have j1 : IntKind.i64.wrap (d : Int) = (d : Int) := IntWalk.i64_in _ ⟨by omega, by omega⟩
  have cd : ¬ C = d := by omega
  have HF : Hid (∀ (w' : World) (ms : List MR), ms.length = q → BL w' s 73 (splice (splice (rowsL G.scr) (2 * (top + q)) (rowsL ((G.scr.drop top).take (d + q - q)))) (2 * top) (rowsL ms)) → Held w' ms → Alike w.heap.size (List.replicate G.cols (32, 1, s1, s2, s3)) ms → Only [s] w w' →
      GridAt w' g s pv fp ⟨G.cols, G.limit, G.past, downL G.scr top (d + q) q ms⟩) := fun w' ms hms hB hH hK ho => by
    have hl := downL_len htd (Nat.le_add_left q d) hms
    rw [downL_rows htd (Nat.le_add_left q d) hms] at hB
    have hb := HG.out.blk.only ho (by simpa using hns)
    rw [← hl] at hb
    refine HG.out.remake (P := G.past ++ G.scr.take top) (M := ms) (S := (G.scr.drop top).take (d + q - q) ++ G.scr.drop (top + (d + q))) hb (HG.out.tab.only ho (fun x hx e => hnsp (by simp at e; exact e ▸ hx))) hB hl ho (fun x hx => by simp at hx; simp [hx]) (fun x hx => .inl hx) HG.out.apart HG.out.p2 ?_ (downL_sub _ _) hH (fun m hm => ?_)
    · unfold downL; simp only [List.append_assoc]
    · obtain ⟨k1, _, k3⟩ := hK m hm
      refine ⟨k3, by rw [k1, List.length_replicate], fun e => ?_⟩
      rcases HG.out.tab with ⟨_, _, e2⟩ | ⟨p, _, _, _, _, _, _, _, _, _, hBp, e2⟩
      · rw [e2] at e; cases e
      · rw [e2] at e
        have := hBp.lt
        simp at e
        omega
  have hgc : w.cell? ⟨g, 0, none⟩ = some (.int .i64 (G.cols : Int)) := HG.out.f0
  have hBs := HG.out.scr
  have hcs1 := rows_from hBs top d
  have hcl : (rowsL ((G.scr.drop top).take d)).length = d * 2 := by rw [rowsL_len, List.length_take, List.length_drop]; omega
  have hone := one_rows ((G.scr.drop top).take d)
  rw [show d + q - q = d by omega] at HF
  rw [show 2 * (top + q) = top * 2 + q * 2 by omega, show 2 * top = top * 2 by omega] at HF
  generalize rowsL ((G.scr.drop top).take d) = cs at *
  generalize rowsL G.scr = xs at *
  obtain ⟨cols, hcols⟩ : ∃ cols, G.cols = cols := ⟨_, rfl⟩
  obtain ⟨GL, hGL⟩ : ∃ GL, G.scr.length = GL := ⟨_, rfl⟩
  rw [hcols] at hgc hc2
  rw [hcols] at HF
  rw [hcols]
  rw [hGL] at hr2 hrl htd
  have hmn : Nat.min (d + q) d * 2 = d * 2 := by rw [show Nat.min (d + q) d = d from Nat.min_eq_right (by omega)]
  rw [← hmn] at hcl
  clear h HG hGL hcols
  have hlay := fun W hx => lay_any s top q C cols (splice xs (top * 2 + q * 2) cs) s1 s2 s3 W hx (by rw [splice_len (by rw [hcl, hmn]; omega)]; omega) (by rw [splice_len (by rw [hcl, hmn]; omega)]; omega) (by omega)
  unfold slV at hlay
  rw [show 2 * top = top * 2 by omega] at hlay
  by_cases hCq : C = q
  · have hqC : q = C := hCq.symm
    subst hqC
    clear hCq
    obtain rfl : d = 0 := by omega
    have hcs0 : cs.length = 0 := by rw [hcl, hmn]
    have hq0 : ¬ q = 0 := by omega
    clear hmn hcl j1 i3 i2
    obtain rfl : cs = [] := List.eq_nil_of_length_eq_zero hcs0
    simp only [splice_nil, Nat.zero_add] at hlay HF hreg htd ⊢
    go_enter Tryd.func16, Tryd.ntmps16
    go_wp2_with (first
      | (refine wpList_load_row rfl 33 _ rfl w.heap.size rfl _ _ _ _ hA Tryd.underlying33 rfl (by kernel_rfl) ?_)
      | (go_at_call 41; refine hreg.mono ?_; rintro _ w1 ⟨rfl, hb1⟩; have hbw := hb0.trans (hb1.mono hs0); have hB1 := hBs.only (F := []) (Only.of_below hbw) (by simp); have hA1 := hA.only (F := []) (Only.of_below hb1) (by simp); have hw1 := Only.of_below (F := [s]) hbw; have hc1 : w1.cell? ⟨g, 0, none⟩ = some (.int .i64 (cols : Int)) := (hbw.cell (p := ⟨g, 0, none⟩) hgl).trans hgc)
      | (refine wpList_copy_wide rfl (.tmp 22) (.tmp 23) 68 68 rfl 73 2 Tryd.underlying68 (by kernel_rfl) s (top * 2) 0 _ ⟨s, top * 2, none⟩ q q rfl rfl xs 73 hB1 [] (by rw [show Nat.min q 0 = 0 from Nat.min_zero q]; rfl) (fun j u hj => by simp at hj) (by simp; omega) (fun v hv => by cases hv) ?_; intro w2 hB2 hw2; rw [splice_nil] at hB2; have hA2 := hA1.only hw2.only (by simp; omega); have ho2 := hw2.2 _ _ hw1 (.inl (by simp)); have hc2' : w2.cell? ⟨g, 0, none⟩ = some (.int .i64 (cols : Int)) := (World.cell?_of_block (hw2.only.block g (by have := hbw.size; omega) (by simpa using hns))).trans hc1; rw [show Nat.min q 0 = 0 from Nat.min_zero q]))
    go_simp
    have hBd : BL w2.drew s 73 xs := hB2
    have hod : Only [s] w w2.drew := ho2.drew
    have hcd : w2.drew.cell? ⟨g, 0, none⟩ = some (.int .i64 (cols : Int)) := hc2'
    have hAd : BL w2.drew w.heap.size 33 [.int .i64 s1, .int .i64 s2, .int .i64 s3] := hA2
    have a0 : w2.drew.cell? ⟨w.heap.size, 0, none⟩ = some (.int .i64 s1) := hAd.cell 0
    have a1 : w2.drew.cell? ⟨w.heap.size, 1, none⟩ = some (.int .i64 s2) := hAd.cell 1
    have a2 : w2.drew.cell? ⟨w.heap.size, 2, none⟩ = some (.int .i64 s3) := hAd.cell 2
    have hsz := hod.size
    clear hA hA1 hA2 hB1 hB2 hreg hcs1 hBs hAd hc1 hc2' ho2 hw2 hw1 hgc hbw hb1 hb0
    go_region_with (go_at_call 43; refine (hlay _ hBd).mono ?_; rintro _ w3 ⟨rfl, ms, hms, hB3, hH3, hK3, ho3⟩)
    all_goals
      have hK4 : Alike w.heap.size (List.replicate cols (32, 1, s1, s2, s3)) ms := fun m hm => ⟨(hK3 m hm).1, (hK3 m hm).2.1, by have := (hK3 m hm).2.2; omega⟩
      have ho4 := hod.trans ho3
      exact body_end rfl rfl ⟨rfl, ms, hms, hK4, HF.out w3 ms hms hB3 hH3 hK4 ho4, ho4⟩
  · go_enter Tryd.func16, Tryd.ntmps16
    go_wp2_with (first
      | (refine wpList_load_row rfl 33 _ rfl w.heap.size rfl _ _ _ _ hA Tryd.underlying33 rfl (by kernel_rfl) ?_)
      | (go_at_call 41; refine hreg.mono ?_; rintro _ w1 ⟨rfl, hb1⟩; have hbw := hb0.trans (hb1.mono hs0); have hB1 := hBs.only (F := []) (Only.of_below hbw) (by simp); have hA1 := hA.only (F := []) (Only.of_below hb1) (by simp); have hw1 := Only.of_below (F := [s]) hbw; have hc1 : w1.cell? ⟨g, 0, none⟩ = some (.int .i64 (cols : Int)) := (hbw.cell (p := ⟨g, 0, none⟩) hgl).trans hgc)
      | (refine wpList_copy_wide rfl (.tmp 22) (.tmp 23) 68 68 rfl 73 2 Tryd.underlying68 (by kernel_rfl) s (top * 2 + q * 2) d (C - q) ⟨s, top * 2, none⟩ (d + q) C rfl rfl xs 73 hB1 cs hcl (fun j u hj => by rw [Addr.add_mid, hB1.cell]; have := hcs1 j u hj; rw [Addr.add_mid, hBs.cell] at this; exact this) (by rw [hcl, hmn]; omega) hone ?_; intro w2 hB2 hw2; have hA2 := hA1.only hw2.only (by simp; omega); have ho2 := hw2.2 _ _ hw1 (.inl (by simp)); have hc2' : w2.cell? ⟨g, 0, none⟩ = some (.int .i64 (cols : Int)) := (World.cell?_of_block (hw2.only.block g (by have := hbw.size; omega) (by simpa using hns))).trans hc1; rw [show Nat.min (d + q) d = d from Nat.min_eq_right (by omega)]))
    go_simp
    have hBd : BL w2.drew s 73 (splice xs (top * 2 + q * 2) cs) := hB2
    have hod : Only [s] w w2.drew := ho2.drew
    have hcd : w2.drew.cell? ⟨g, 0, none⟩ = some (.int .i64 (cols : Int)) := hc2'
    have hAd : BL w2.drew w.heap.size 33 [.int .i64 s1, .int .i64 s2, .int .i64 s3] := hA2
    have a0 : w2.drew.cell? ⟨w.heap.size, 0, none⟩ = some (.int .i64 s1) := hAd.cell 0
    have a1 : w2.drew.cell? ⟨w.heap.size, 1, none⟩ = some (.int .i64 s2) := hAd.cell 1
    have a2 : w2.drew.cell? ⟨w.heap.size, 2, none⟩ = some (.int .i64 s3) := hAd.cell 2
    have hsz := hod.size
    clear hA hA1 hA2 hB1 hB2 hreg hcs1 hBs hAd hc1 hc2' ho2 hw2 hw1 hgc hbw hb1 hb0
    go_region_with (go_at_call 43; refine (hlay _ hBd).mono ?_; rintro _ w3 ⟨rfl, ms, hms, hB3, hH3, hK3, ho3⟩)
    all_goals
      have hK4 : Alike w.heap.size (List.replicate cols (32, 1, s1, s2, s3)) ms := fun m hm => ⟨(hK3 m hm).1, (hK3 m hm).2.1, by have := (hK3 m hm).2.2; omega⟩
      have ho4 := hod.trans ho3
      exact body_end rfl rfl ⟨rfl, ms, hms, hK4, HF.out w3 ms hms hB3 hH3 hK4 ho4, ho4⟩
end Go.Proofs.YtgjlohplgpcghaaDoor.Grd
/- A table of rows, copied. -/
namespace Go.Proofs.YtgjlohplgpcghaaDoor.Grd
open Go.RowKit

/-- Rows that hold what others hold. -/
def Copies (ms ns : List MR) : Prop := ns.map (fun m => (m.l, m.wr)) = ms.map (fun m => (m.l, m.wr))
theorem Copies.len {ms ns : List MR} (h : Copies ms ns) : ns.length = ms.length := by
  have := congrArg List.length h
  simpa using this
theorem Copies.snoc {ms ns : List MR} {k : Nat} (h : Copies (ms.take k) ns) (hk : k < ms.length) {m : MR} (h1 : m.l = ms[k].l) (h2 : m.wr = ms[k].wr) : Copies (ms.take (k + 1)) (ns ++ [m]) := by
  unfold Copies at h ⊢
  rw [List.take_succ_eq_append_getElem hk, List.map_append, List.map_append, h]
  simp [h1, h2]
set_option maxRecDepth 100000 in
set_option maxHeartbeats 2000000 in
theorem cloned_any {w : World} {p off c : Nat} {pre tail : List Value} {ms : List MR} (hB : BL w p 73 (pre ++ rowsL ms ++ tail)) (hpre : pre.length = 2 * off) (hms : ∀ m ∈ ms, CellsAt w m.b m.l m.cap ∧ 0 < m.l.length ∧ m.l.length ≤ 1000000) (hl : ms.length ≤ 100000) :
    Calls Tryd.prog 50 #[.slice (some ⟨p, 2 * off, none⟩) ms.length c] w fun e w' => ∃ b ns, e = .returned (.slice (some ⟨b, 0, none⟩) ms.length ms.length) ∧ w.heap.size ≤ b ∧ BL w' b 73 (rowsL ns) ∧ Copies ms ns ∧ Held w' ns ∧ (∀ m ∈ ns, w.heap.size ≤ m.b ∧ m.b ≠ b) ∧ Below w.heap.size w w' := by
  have hpl := hB.lt
  obtain ⟨n, hn⟩ : ∃ n, ms.length = n := ⟨_, rfl⟩
  have HMS := Lib.hid hn
  rw [hn] at hl ⊢
  clear hn
  go_enter Tryd.func50, Tryd.ntmps50
  go_wp2_with (refine wpList_make_rep rfl (.tmp 7) (.tmp 7) 68 73 rfl Tryd.underlying68 _ 2 32 info_row rfl n rfl rfl (by omega) (by omega) ?_; intro w1 hm hb1 hs1)
  have hzl := rowV0_len n
  go_loopw [4, 5, 11] (fun _ _ i wr => ∃ ns : List MR, ns.length ≤ n ∧ i = .int .i64 (ns.length : Int) ∧ BL wr w.heap.size 73 (splice (List.replicate n rowV0).flatten 0 (rowsL ns)) ∧ Copies (ms.take ns.length) ns ∧ Held wr ns ∧ (∀ m ∈ ns, w.heap.size + 1 ≤ m.b) ∧ Below w.heap.size w wr ∧ w.heap.size + 1 ≤ wr.heap.size) (fun _ _ i _ => n - (intOf i).toNat)
  case atStart => exact ⟨[], Nat.zero_le _, rfl, by rw [show rowsL [] = [] from rfl, splice_nil]; exact hm, rfl, Held.nil _, (fun _ h => by cases h), hb1, by omega⟩
  case round =>
    obtain ⟨ns, hk, rfl, hN, hC, hH, hF, hb, hws⟩ := hrel
    clear hm hb1 hs1
    have hBr := hB.only (F := []) (Only.of_below hb) (by simp)
    have hrl := rowsL_len ns
    have hsl : (splice (List.replicate n rowV0).flatten 0 (rowsL ns)).length = 2 * n := by rw [splice_len (by omega), hzl]
    by_cases hlt : ns.length < n
    · have hlt2 : ns.length < ms.length := by have := HMS.out; omega
      obtain ⟨q0, q1⟩ := tab_row hBr hpre hlt2
      obtain ⟨hcm, hm0, hm1⟩ := hms _ (List.getElem_mem hlt2)
      obtain ⟨m, hmm⟩ : ∃ m, ms[ns.length] = m := ⟨_, rfl⟩
      have HM := Lib.hid hmm
      rw [hmm] at q0 q1 hcm hm0 hm1
      clear hmm
      have hcr := hcm.only (F := []) (Only.of_below hb) (by simp)
      go_wp2_with fail
      have hR := BL.new wr 73 [.slice (some ⟨m.b, 0, none⟩) m.l.length m.cap, .bool m.wr]
      have hcW := hcr.alloc (.cells #[.slice (some ⟨m.b, 0, none⟩) m.l.length m.cap, .bool m.wr] 73)
      have hNW := hN.alloc (.cells #[.slice (some ⟨m.b, 0, none⟩) m.l.length m.cap, .bool m.wr] 73)
      have hbW : Below w.heap.size w (wr.alloc (.cells #[.slice (some ⟨m.b, 0, none⟩) m.l.length m.cap, .bool m.wr] 73)) := hb.alloc (by omega) _
      have hHW := hH.only (F := []) ((Only.refl _ _).alloc (.cells #[.slice (some ⟨m.b, 0, none⟩) m.l.length m.cap, .bool m.wr] 73)) (fun _ _ h => by cases h)
      have hWs : (wr.alloc (.cells #[.slice (some ⟨m.b, 0, none⟩) m.l.length m.cap, .bool m.wr] 73)).heap.size = wr.heap.size + 1 := size_alloc _ _
      have hbm := hcm.lt
      have hcl := fun W h => clone_any m.b m.cap m.cap m.l W h hm0 hm1
      have HR := Lib.hid hR
      have HCW := Lib.hid hcW
      have HWS := Lib.hid hWs
      obtain ⟨xs, hxs⟩ : ∃ xs, splice (List.replicate n rowV0).flatten 0 (rowsL ns) = xs := ⟨_, rfl⟩
      rw [hxs] at hNW hsl
      have HXS := Lib.hid hxs
      clear hN hR hcW hWs hcr q0 q1 hBr hb hxs hH hcm
      generalize wr.alloc (.cells #[.slice (some ⟨m.b, 0, none⟩) m.l.length m.cap, .bool m.wr] 73) = W at *
      have SS : ∀ V, Only [w.heap.size] W V → (V.cell? ⟨wr.heap.size, 0, none⟩ = some (.slice (some ⟨m.b, 0, none⟩) m.l.length m.cap) ∧ V.cell? ⟨wr.heap.size, 1, none⟩ = some (.bool m.wr) ∧ CellsAt V m.b m.l m.cap ∧ Only [w.heap.size] W V) := fun V hkk => by
        have h2 := HR.out.only hkk (by simp; omega)
        exact ⟨h2.cell 0, h2.cell 1, HCW.out.only hkk (by simp; omega), hkk⟩
      have hod : Only [w.heap.size] W W.drew := (Only.refl _ _).drew
      have OS : ∀ V x y, Only [w.heap.size] W V → Only [w.heap.size] W ((V.setCell ⟨w.heap.size, ns.length * 2, none⟩ x).setCell ⟨w.heap.size, ns.length * 2 + 1, none⟩ y) := fun V x y h => (h.setCell (p := ⟨w.heap.size, ns.length * 2, none⟩) (.inl (by simp)) x).setCell (p := ⟨w.heap.size, ns.length * 2 + 1, none⟩) (.inl (by simp)) y
      have v0 : xs[ns.length * 2]? = some (xs[ns.length * 2]'(by omega)) := List.getElem?_eq_getElem (by omega)
      have v1 : xs[ns.length * 2 + 1]? = some (xs[ns.length * 2 + 1]'(by omega)) := List.getElem?_eq_getElem (by omega)
      generalize xs[ns.length * 2]'(by omega) = x0 at *
      generalize xs[ns.length * 2 + 1]'(by omega) = x1 at *
      go_region_held3 (fun V => V.cell? ⟨wr.heap.size, 0, none⟩ = some (.slice (some ⟨m.b, 0, none⟩) m.l.length m.cap) ∧ V.cell? ⟨wr.heap.size, 1, none⟩ = some (.bool m.wr) ∧ CellsAt V m.b m.l m.cap ∧ Only [w.heap.size] W V)
        (first
          | (refine SS _ ?_; assumption)
          | (refine SS _ (OS _ _ _ ?_); assumption)
          | fail)
        (first
          | (go_at_call 53; obtain ⟨_, _, kc, k3⟩ := (by assumption : _ ∧ _ ∧ CellsAt _ m.b m.l m.cap ∧ Only [w.heap.size] W _); refine (hcl _ kc).mono ?_; rintro _ w2 ⟨b2, cap2, rfl, hc2, hbb2, hb2⟩; have hox := k3.trans (Only.of_below hb2); have k5 := k3.size; have hN2 := (show BL W.drew w.heap.size 73 xs from hNW).only (F := []) (Only.of_below hb2) (by simp); have z0 : w2.cell? ⟨w.heap.size, ns.length * 2, none⟩ = some x0 := (hN2.cell _).trans v0; have z1 : w2.cell? ⟨w.heap.size, ns.length * 2 + 1, none⟩ = some x1 := (hN2.cell _).trans v1; have y0 := hN2.frozen (ns.length * 2); have y1 := hN2.frozen (ns.length * 2 + 1)))
      all_goals go_wp2_with fail
      have how := OS w2 (.slice (some ⟨b2, 0, none⟩) m.l.length cap2) (.bool m.wr) hox
      have hN3 := (hN2.set_ (ns.length * 2) (.slice (some ⟨b2, 0, none⟩) m.l.length cap2)).set_ (ns.length * 2 + 1) (.bool m.wr)
      have hsp : (xs.set (ns.length * 2) (.slice (some ⟨b2, 0, none⟩) m.l.length cap2)).set (ns.length * 2 + 1) (.bool m.wr) = splice (List.replicate n rowV0).flatten 0 (rowsL (ns ++ [⟨b2, cap2, m.l, m.wr⟩])) := by
        have e1 := splice_cons (xs := xs) (o := ns.length * 2) (.slice (some ⟨b2, 0, none⟩) m.l.length cap2) [.bool m.wr] (by simp; omega)
        have e2 := splice_one (xs := xs.set (ns.length * 2) (.slice (some ⟨b2, 0, none⟩) m.l.length cap2)) (o := ns.length * 2 + 1) (.bool m.wr) (by rw [List.length_set]; omega)
        have e3 := splice_app (xs := (List.replicate n rowV0).flatten) (us := rowsL ns) (vs := mrL ⟨b2, cap2, m.l, m.wr⟩) (o := 0) (by rw [mrL_len]; omega)
        rw [Nat.zero_add, hrl, HXS.out, show 2 * ns.length = ns.length * 2 by omega] at e3
        rw [← e2, e1, rowsL_app, rowsL_one, ← e3]
        rfl
      rw [hsp] at hN3
      have hws3 := HWS.out
      have hbz : w.heap.size + 1 ≤ b2 := by omega
      have ho23 : Only [w.heap.size] w2 ((w2.setCell ⟨w.heap.size, ns.length * 2, none⟩ (.slice (some ⟨b2, 0, none⟩) m.l.length cap2)).setCell ⟨w.heap.size, ns.length * 2 + 1, none⟩ (.bool m.wr)) := ((Only.refl _ _).setCell (p := ⟨w.heap.size, ns.length * 2, none⟩) (.inl (by simp)) _).setCell (p := ⟨w.heap.size, ns.length * 2 + 1, none⟩) (.inl (by simp)) _
      have hH3 := (hHW.only how (fun x hx => by have := hF x hx; simp; omega)).snoc (m := ⟨b2, cap2, m.l, m.wr⟩) (hc2.only ho23 (by simp; omega)) (fun x hx => by have := hHW.lt hx; show x.b ≠ b2; omega)
      have hC3 := hC.snoc hlt2 (m := ⟨b2, cap2, m.l, m.wr⟩) (by rw [HM.out]) (by rw [HM.out])
      have hlen3 : (ns ++ [(⟨b2, cap2, m.l, m.wr⟩ : MR)]).length = ns.length + 1 := by simp
      rw [← hlen3] at hC3
      have hF3 : ∀ x ∈ ns ++ [(⟨b2, cap2, m.l, m.wr⟩ : MR)], w.heap.size + 1 ≤ x.b := fun x hx => by
        rcases List.mem_append.1 hx with hx | hx
        · exact hF x hx
        · rw [List.mem_singleton] at hx; rw [hx]; exact hbz
      have hsz := how.size
      have hb3 := hbW.trans (how.below (by omega) (by simp))
      go_roundw
      case rel => exact ⟨_, by rw [hlen3]; omega, by rw [hlen3]; simp, hN3, hC3, hH3, hF3, hb3, by omega⟩
      case measure => simp [intOf]; omega
    · have hkn : ns.length = n := by omega
      have hfull : splice (List.replicate n rowV0).flatten 0 (rowsL ns) = rowsL ns := by
        unfold splice
        rw [List.take_zero, List.nil_append, List.drop_of_length_le (by omega), List.append_nil]
      rw [hfull] at hN
      rw [hkn, ← HMS.out, List.take_length] at hC
      clear hkn
      go_wp2_with fail
      go_ret
      exact ⟨_, ns, rfl, Nat.le_refl _, hN, hC, hH, (fun m hm => by have := hF m hm; omega), hb⟩
set_option maxRecDepth 100000 in
theorem cloned_nil (w : World) :
    Calls Tryd.prog 50 #[.slice none 0 0] w fun e w' => ∃ b, e = .returned (.slice (some ⟨b, 0, none⟩) 0 0) ∧ w.heap.size ≤ b ∧ BL w' b 73 [] ∧ Below w.heap.size w w' := by
  go_enter Tryd.func50, Tryd.ntmps50
  go_wp2_with (refine wpList_make_rep rfl (.tmp 7) (.tmp 7) 68 73 rfl Tryd.underlying68 _ 2 32 info_row rfl 0 rfl rfl (by omega) (by omega) ?_; intro w1 hm hb1 hs1)
  refine wp_loop_rounds 1 ?_
  rw [rounds_succ]
  go_wp2_with fail
  go_ret
  exact ⟨_, rfl, Nat.le_refl _, hm, hb1⟩
/-- A table's copy, wherever the table lies. -/
theorem cloned_tab {w : World} {pv : Value} {ms : List MR} {fp : List Nat} (h : TabAt w pv ms fp) (hms : ∀ m ∈ ms, CellsAt w m.b m.l m.cap ∧ 0 < m.l.length ∧ m.l.length ≤ 1000000) (hl : ms.length ≤ 100000) :
    Calls Tryd.prog 50 #[pv] w fun e w' => ∃ b ns, e = .returned (.slice (some ⟨b, 0, none⟩) ms.length ms.length) ∧ w.heap.size ≤ b ∧ BL w' b 73 (rowsL ns) ∧ Copies ms ns ∧ Held w' ns ∧ (∀ m ∈ ns, w.heap.size ≤ m.b ∧ m.b ≠ b) ∧ Below w.heap.size w w' := by
  rcases h with ⟨rfl, rfl, _⟩ | ⟨p, off, c, pre, tail, rfl, _, _, hpre, _, hB, _⟩
  · refine (cloned_nil w).mono fun e w' ⟨b, he, hb, hB, hb2⟩ => ⟨b, [], he, hb, hB, rfl, Held.nil _, (fun _ h => by cases h), hb2⟩
  · exact cloned_any hB hpre hms hl
end Go.Proofs.YtgjlohplgpcghaaDoor.Grd
/- A grid, copied. -/
namespace Go.Proofs.YtgjlohplgpcghaaDoor.Grd
open Go.RowKit

theorem Copies.cells {ms ns : List MR} (h : Copies ms ns) {c : Nat} (hc : ∀ m ∈ ms, m.l.length = c) : ∀ m ∈ ns, m.l.length = c := by
  intro m hm
  have h1 : (m.l, m.wr) ∈ ns.map (fun m => (m.l, m.wr)) := List.mem_map_of_mem hm
  unfold Copies at h
  rw [h] at h1
  obtain ⟨x, hx, e⟩ := List.mem_map.1 h1
  have := hc x hx
  rw [← (Prod.mk.inj e).1]
  exact this
set_option maxRecDepth 100000 in
set_option maxHeartbeats 2000000 in
theorem clone_grid {w : World} {g s : Nat} {pv : Value} {fp : List Nat} {G : GS} (h : GridAt w g s pv fp G) :
    Calls Tryd.prog 29 #[.pointer (some ⟨g, 0, none⟩)] w fun e w' => ∃ g2 s2 p2 np ns, e = .returned (.pointer (some ⟨g2, 0, none⟩)) ∧ GridAt w' g2 s2 (slV p2 0 np.length np.length) [p2] ⟨G.cols, G.limit, np, ns⟩ ∧ Copies G.past np ∧ Copies G.scr ns ∧
      (∀ x ∈ foot g2 s2 [p2] ⟨G.cols, G.limit, np, ns⟩, w.heap.size ≤ x) ∧ Below w.heap.size w w' := by
  have hc1 := h.c1
  have hc2 := h.c2
  have hr1 := h.r1
  have hr2 := h.r2
  have hl2 := h.l2
  have hp2 := h.p2
  have hok : ∀ V, GridAt V g s pv fp G → ∀ m ∈ G.past ++ G.scr, CellsAt V m.b m.l m.cap ∧ 0 < m.l.length ∧ m.l.length ≤ 1000000 := fun V hV m hm => ⟨hV.held.at_ m hm, by rw [hV.cells m hm]; omega, by rw [hV.cells m hm]; omega⟩
  have k1 := fun V (hV : GridAt V g s pv fp G) => cloned_tab hV.tab (fun m hm => hok V hV m (List.mem_append_left _ hm)) (by omega)
  have k2 := fun V (hV : GridAt V g s pv fp G) => cloned_any (p := s) (off := 0) (c := G.scr.length) (pre := []) (tail := []) (ms := G.scr) (by rw [List.nil_append, List.append_nil]; exact hV.scr) rfl (fun m hm => hok V hV m (List.mem_append_right _ hm)) (by omega)
  rw [show 2 * 0 = 0 from rfl] at k2
  have HCp := Lib.hid (fun m hm => h.cells m (List.mem_append_left _ hm))
  have HCs := Lib.hid (fun m hm => h.cells m (List.mem_append_right _ hm))
  have SS : ∀ V, Below w.heap.size w V → (V.cell? ⟨g, 0, none⟩ = some (.int .i64 (G.cols : Int)) ∧ V.cell? ⟨g, 1, none⟩ = some (.int .i64 (G.limit : Int)) ∧ V.cell? ⟨g, 2, none⟩ = some pv ∧ V.cell? ⟨g, 3, none⟩ = some (.slice (some ⟨s, 0, none⟩) G.scr.length G.scr.length) ∧ GridAt V g s pv fp G ∧ Below w.heap.size w V) := fun V hkk => by
    have hV := h.below hkk
    exact ⟨hV.f0, hV.f1, hV.f2, hV.f3, hV, hkk⟩
  have hdr : Below w.heap.size w w.drew := (Below.refl _ _).drew
  have BA : ∀ V o, Below w.heap.size w V → Below w.heap.size w (V.alloc o) := fun V o h => h.alloc h.size o
  clear h hok
  go_enter Tryd.func29, Tryd.ntmps29
  go_wp2_with fail
  go_cut [2] (fun s2v wx => ∃ g2 s2 p2 np ns, s2v = .pointer (some ⟨g2, 0, none⟩) ∧ GridAt wx g2 s2 (slV p2 0 np.length np.length) [p2] ⟨G.cols, G.limit, np, ns⟩ ∧ Copies G.past np ∧ Copies G.scr ns ∧ (∀ x ∈ foot g2 s2 [p2] ⟨G.cols, G.limit, np, ns⟩, w.heap.size ≤ x) ∧ Below w.heap.size w wx)
  case first =>
    go_region_held3 (fun V => V.cell? ⟨g, 0, none⟩ = some (.int .i64 (G.cols : Int)) ∧ V.cell? ⟨g, 1, none⟩ = some (.int .i64 (G.limit : Int)) ∧ V.cell? ⟨g, 2, none⟩ = some pv ∧ V.cell? ⟨g, 3, none⟩ = some (.slice (some ⟨s, 0, none⟩) G.scr.length G.scr.length) ∧ GridAt V g s pv fp G ∧ Below w.heap.size w V)
      (first
        | (refine SS _ ?_; assumption)
        | (refine SS _ (BA _ _ ?_); assumption)
        | fail)
      (first
        | (go_at_call 50; obtain ⟨_, _, _, _, kg, kb⟩ := (by assumption : _ ∧ _ ∧ _ ∧ _ ∧ GridAt _ g s pv fp G ∧ Below w.heap.size w _); with_reducible refine (k1 _ kg).mono ?_; rintro _ w2 ⟨b1, np, rfl, hb1w, hB1, hC1, hH1, hF1, hbl1⟩; have hbx := kb.trans (hbl1.mono kb.size); have ks1 := kb.size)
        | (go_at_call 50; obtain ⟨_, _, _, _, kg4, kb4⟩ := (by assumption : _ ∧ _ ∧ _ ∧ _ ∧ GridAt _ g s pv fp G ∧ Below w.heap.size w _); with_reducible refine (k2 _ kg4).mono ?_; rintro _ w3 ⟨b2, ns, rfl, hb2w, hB2, hC2, hH2, hF2, hbl2⟩; have hby := kb4.trans (hbl2.mono kb4.size); have ks2 := kb4.size))
    all_goals go_wp2_with fail
    all_goals go_meet
    have hB1x := hB1.only (F := []) (Only.of_below hbl2) (by simp)
    have hH1x := hH1.only (F := []) (Only.of_below hbl2) (fun _ _ h => by cases h)
    have e1 := hC1.len
    have e2 := hC2.len
    have l1 := hB1.lt
    have l2 := hB2.lt
    have hs3 := hbl2.size
    have hn1 : ∀ m ∈ np, m.b < w2.heap.size := fun m hm => hH1.lt hm
    have hn2 : ∀ m ∈ ns, m.b < w3.heap.size := fun m hm => hH2.lt hm
    have hmx : maxLen = 9223372036854775807 := rfl
    have hap : Held w3 (np ++ ns) := by
      refine ⟨fun m hm => ?_, ?_⟩
      · rcases List.mem_append.1 hm with hm | hm
        · exact hH1x.at_ m hm
        · exact hH2.at_ m hm
      · rw [List.map_append, List.nodup_append]
        refine ⟨hH1.apart, hH2.apart, fun a ha b hb e => ?_⟩
        obtain ⟨x, hx, rfl⟩ := List.mem_map.1 ha
        obtain ⟨y, hy, rfl⟩ := List.mem_map.1 hb
        have := hn1 x hx
        have := (hF2 y hy).1
        omega
    have hblk := BL.new w3 70 [.int .i64 (G.cols : Int), .int .i64 (G.limit : Int), .slice (some ⟨b1, 0, none⟩) G.past.length G.past.length, .slice (some ⟨b2, 0, none⟩) G.scr.length G.scr.length]
    rw [← e1, ← e2] at hblk ⊢
    refine ⟨w3.heap.size, b2, b1, np, ns, rfl, ⟨hblk, .inr ⟨b1, 0, np.length, [], [], rfl, Nat.le_refl _, by omega, rfl, by simp, by rw [List.nil_append, List.append_nil]; exact hB1x.alloc _, rfl⟩, hB2.alloc _, hap.only (F := []) ((Only.refl _ _).alloc _) (fun _ _ h => by cases h), ?_, ?_, ?_, hc1, hc2, by show 1 ≤ ns.length; omega, by show ns.length ≤ 120; omega, hl2, by show np.length ≤ G.limit; omega⟩, hC1, hC2, ?_, BA _ _ hby⟩
    · simp only [List.nodup_cons, List.mem_cons, List.not_mem_nil, or_false, not_or, not_false_eq_true, List.nodup_nil, and_true]
      omega
    · intro m hm
      simp only [List.mem_cons, List.not_mem_nil, or_false, not_or]
      rcases List.mem_append.1 hm with hm | hm
      · have h1 := hn1 m hm
        have h2 := (hF1 m hm).2
        exact ⟨by omega, by omega, h2⟩
      · have h1 := hn2 m hm
        obtain ⟨h2, h3⟩ := hF2 m hm
        exact ⟨by omega, h3, by omega⟩
    · intro m hm
      rcases List.mem_append.1 hm with hm | hm
      · exact hC1.cells HCp.out m hm
      · exact hC2.cells HCs.out m hm
    · intro x hx
      unfold foot at hx
      rcases List.mem_append.1 hx with hx | hx
      · simp only [List.mem_cons, List.not_mem_nil, or_false] at hx
        rcases hx with rfl | rfl | rfl <;> omega
      · obtain ⟨m, hm, rfl⟩ := List.mem_map.1 hx
        rcases List.mem_append.1 hm with hm | hm
        · have := (hF1 m hm).1
          omega
        · have := (hF2 m hm).1
          omega
  case rest =>
    obtain ⟨g2, s2, p2, np, ns, rfl, h1, h2, h3, h4, h5⟩ := hcut
    go_wp2_with fail
    go_ret
    exact ⟨g2, s2, p2, np, ns, rfl, h1, h2, h3, h4, h5⟩
end Go.Proofs.YtgjlohplgpcghaaDoor.Grd
