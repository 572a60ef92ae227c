/- Rows scrolled up, those that go off forgotten. -/
import Derived.Test.YtgjlohplgpcghaaDoorGke
namespace Go.Proofs.YtgjlohplgpcghaaDoor.Grd
open Go.RowKit Cel Sty

theorem upL_sub (past scr : List MR) {top len q : Nat} : ((past ++ (scr.take top ++ (scr.drop (top + q)).take (len - q))) ++ scr.drop (top + len)).Sublist (past ++ scr) := by
  rw [List.append_assoc]
  refine (List.Sublist.refl past).append ?_
  rw [List.append_assoc]
  have e : scr = scr.take top ++ scr.drop top := (List.take_append_drop top scr).symm
  conv => rhs; rw [e]
  refine (List.Sublist.refl _).append ?_
  have e1 : scr.drop (top + q) = (scr.drop top).drop q := by rw [List.drop_drop]
  have e2 : scr.drop (top + len) = (scr.drop top).drop len := by rw [List.drop_drop]
  rw [e1, e2]
  generalize scr.drop top = l
  by_cases h : q ≤ len
  · have e3 : l.drop len = (l.drop q).drop (len - q) := by rw [List.drop_drop, show q + (len - q) = len by omega]
    rw [e3, List.take_append_drop]
    exact List.drop_sublist _ _
  · rw [show len - q = 0 by omega, List.take_zero, List.nil_append]
    exact List.drop_sublist _ _
/-- The cells of a table from one row on. -/
theorem rows_from {w : World} {s : Nat} {scr : List MR} (h : BL w s 73 (rowsL scr)) (k n : Nat) (j : Nat) (u : Value) (hj : (rowsL ((scr.drop k).take n))[j]? = some u) : w.cell? ((⟨s, k * 2, none⟩ : Addr).add j) = some u := by
  rw [Addr.add_mid, h.cell]
  rw [rowsL_take, rowsL_drop, List.getElem?_take] at hj
  split at hj
  · rw [List.getElem?_drop, Nat.mul_comm 2 k] at hj
    exact hj
  · cases hj

set_option maxRecDepth 100000 in
set_option maxHeartbeats 2000000 in
theorem up_plain {w : World} {g s : Nat} {pv : Value} {fp : List Nat} {G : GS} (h : GridAt w g s pv fp G) (top bottom q : Nat) (htb : top ≤ bottom) (hbr : bottom < G.scr.length) (n : Int) (hn : 1 ≤ n) (hq : (q : Int) = min n ((bottom : Int) + 1 - (top : Int)))
    (s1 s2 s3 : Int) (hst : rightS s1 s2 s3 = true) (kp : Bool) (hkp : kp = false ∨ 0 < top) :
    Calls Tryd.prog 15 #[.pointer (some ⟨g, 0, none⟩), .int .i64 (top : Int), .int .i64 (bottom : Int), .int .i64 n, .agg #[.int .i64 s1, .int .i64 s2, .int .i64 s3], .bool kp] w fun e w' => e = .returned (.tuple #[]) ∧
      ∃ ms, ms.length = q ∧ Alike w.heap.size (List.replicate G.cols (32, 1, s1, s2, s3)) ms ∧ GridAt w' g s pv fp ⟨G.cols, G.limit, G.past, upL G.scr top (bottom + 1 - top) q ms⟩ ∧ Only [s] w w' := by
  have hA := BL.new w 33 [.int .i64 s1, .int .i64 s2, .int .i64 s3]
  have hb0 : Below w.heap.size w (w.alloc (.cells #[.int .i64 s1, .int .i64 s2, .int .i64 s3] 33)) := (Below.refl _ _).alloc (Nat.le_refl _) _
  have hs0 := hb0.size
  have h0 := h.below hb0
  have hreg := region_any h0 top bottom q htb hbr n hn hq s1 s2 s3 hst
  have hr2 := h.r2
  have hc2 := h.c2
  have hgl := h.blk.lt
  have hsl := h.scr.lt
  obtain ⟨d, hd⟩ : ∃ d, bottom + 1 - top = d + q := ⟨bottom + 1 - top - q, by omega⟩
  have hq1 : 1 ≤ q := by omega
  obtain ⟨C, hC⟩ : ∃ C, G.scr.length - top = C := ⟨_, rfl⟩
  have hCd : d + q ≤ C := by omega
  have hC2 : C ≤ 120 := by omega
  have htop : top ≤ 120 := by omega
  have htd : top + (d + q) ≤ G.scr.length := by omega
  rw [hd, hC] at hreg
  rw [hd]
  have HG := Lib.hid h
  have hrl := rowsL_len G.scr
  have hns : g ≠ s := by
    have := h.apart
    simp only [List.nodup_cons, List.mem_cons, not_or] at this
    exact this.1.1
  have hnsp : s ∉ fp := by
    have := h.apart
    simp only [List.nodup_cons, List.mem_cons, not_or] at this
    exact this.2.1
  clear hq hbr htb hn hd hC hst h0
  have kp2 : kp = false ∨ (kp = true ∧ ((top : Int) == 0) = false) := by
    rcases hkp with e | e
    · exact .inl e
    · cases kp
      · exact .inl rfl
      · exact .inr ⟨rfl, by simp; omega⟩
  clear hkp
  have i0 : (0 : Int) ≤ (q : Int) := Int.natCast_nonneg _
  have i1 : (q : Int) ≤ (d : Int) + (q : Int) := by omega
  have i2 : (0 : Int) ≤ (d : Int) := Int.natCast_nonneg _
  have i3 : (d : Int) ≤ (d : Int) + (q : Int) := by omega
  have j1 : IntKind.i64.wrap (d : Int) = (d : Int) := IntWalk.i64_in _ ⟨by omega, by omega⟩
  have cd : ¬ C = d := by omega
  have HF : Hid (∀ (w' : World) (ms : List MR), ms.length = q → BL w' s 73 (splice (splice (rowsL G.scr) (2 * top) (rowsL ((G.scr.drop (top + q)).take (d + q - q)))) (2 * (top + (d + q - q))) (rowsL ms)) → Held w' ms → Alike w.heap.size (List.replicate G.cols (32, 1, s1, s2, s3)) ms → Only [s] w w' →
      GridAt w' g s pv fp ⟨G.cols, G.limit, G.past, upL G.scr top (d + q) q ms⟩) := fun w' ms hms hB hH hK ho => by
    have hl := upL_len htd (Nat.le_add_left q d) hms
    rw [upL_rows htd (Nat.le_add_left q d) hms] at hB
    have hb := HG.out.blk.only ho (by simpa using hns)
    rw [← hl] at hb
    refine HG.out.remake (P := G.past ++ (G.scr.take top ++ (G.scr.drop (top + q)).take (d + q - q))) (M := ms) (S := G.scr.drop (top + (d + q))) hb (HG.out.tab.only ho (fun x hx e => hnsp (by simp at e; exact e ▸ hx))) hB hl ho (fun x hx => by simp at hx; simp [hx]) (fun x hx => .inl hx) HG.out.apart HG.out.p2 ?_ (upL_sub _ _) hH (fun m hm => ?_)
    · unfold upL; simp only [List.append_assoc]
    · obtain ⟨k1, _, k3⟩ := hK m hm
      refine ⟨k3, by rw [k1, List.length_replicate], fun e => ?_⟩
      rcases HG.out.tab with ⟨_, _, e2⟩ | ⟨p, _, _, _, _, _, _, _, _, _, hBp, e2⟩
      · rw [e2] at e; cases e
      · rw [e2] at e
        have := hBp.lt
        simp at e
        omega
  have hgc : w.cell? ⟨g, 0, none⟩ = some (.int .i64 (G.cols : Int)) := HG.out.f0
  have hBs := HG.out.scr
  have hcs1 := rows_from hBs (top + q) d
  have hcl : (rowsL ((G.scr.drop (top + q)).take d)).length = d * 2 := by rw [rowsL_len, List.length_take, List.length_drop]; omega
  have hone := one_rows ((G.scr.drop (top + q)).take d)
  rw [show d + q - q = d by omega] at HF
  rw [show 2 * top = top * 2 by omega, show 2 * (top + d) = top * 2 + d * 2 by omega] at HF
  rw [show (top + q) * 2 = top * 2 + q * 2 by omega] at hcs1
  generalize rowsL ((G.scr.drop (top + q)).take d) = cs at *
  generalize rowsL G.scr = xs at *
  obtain ⟨cols, hcols⟩ : ∃ cols, G.cols = cols := ⟨_, rfl⟩
  obtain ⟨GL, hGL⟩ : ∃ GL, G.scr.length = GL := ⟨_, rfl⟩
  rw [hcols] at hgc hc2
  rw [hcols] at HF
  rw [hcols]
  rw [hGL] at hr2 hrl htd
  have hmn : Nat.min d (d + q) * 2 = d * 2 := by rw [show Nat.min d (d + q) = d from Nat.min_eq_left (by omega)]
  rw [← hmn] at hcl
  clear h HG hGL hcols
  have hlay := fun W hx => lay_any s (top + d) q (C - d) cols (splice xs (top * 2) cs) s1 s2 s3 W hx (by rw [splice_len (by rw [hcl, hmn]; omega)]; omega) (by rw [splice_len (by rw [hcl, hmn]; omega)]; omega) (by omega)
  unfold slV at hlay
  rw [show 2 * (top + d) = top * 2 + d * 2 by omega] at hlay
  by_cases hCq : C = q
  · have hqC : q = C := hCq.symm
    subst hqC
    clear hCq
    obtain rfl : d = 0 := by omega
    have hcs0 : cs.length = 0 := by rw [hcl, hmn]
    have j0 : IntKind.i64.wrap (0 : Int) = 0 := IntWalk.i64_in _ ⟨by omega, by omega⟩
    have hq0 : ¬ q = 0 := by omega
    clear j1 i3 i2
    clear hmn hcl
    simp only [Nat.zero_add, Nat.zero_mul, Nat.add_zero, Nat.sub_zero] at hlay hreg HF htd hcs1 ⊢
    rcases kp2 with rfl | ⟨rfl, hz⟩
    all_goals
      go_enter Tryd.func15, Tryd.ntmps15
      go_wp2_with (first
        | (refine wpList_load_row rfl 33 _ rfl w.heap.size rfl _ _ _ _ hA Tryd.underlying33 rfl (by kernel_rfl) ?_)
        | (go_at_call 41; refine hreg.mono ?_; rintro _ w1 ⟨rfl, hb1⟩; have hbw := hb0.trans (hb1.mono hs0); have hB1 := hBs.only (F := []) (Only.of_below hbw) (by simp); have hA1 := hA.only (F := []) (Only.of_below hb1) (by simp); have hw1 := Only.of_below (F := [s]) hbw; have hc1 : w1.cell? ⟨g, 0, none⟩ = some (.int .i64 (cols : Int)) := (hbw.cell (p := ⟨g, 0, none⟩) hgl).trans hgc)
        | (refine wpList_copy_wide rfl (.tmp 32) (.tmp 35) 68 68 rfl 73 2 Tryd.underlying68 (by kernel_rfl) s (top * 2) q q ⟨s, top * 2, none⟩ 0 _ rfl rfl xs 73 hB1 cs (by rw [hcs0, show Nat.min 0 q = 0 from Nat.zero_min q]) (fun j u hj => by have := (List.getElem?_eq_some_iff.1 hj).1; rw [hcs0] at this; omega) (by rw [hcs0]; omega) hone ?_; intro w2 hB2 hw2; have hA2 := hA1.only hw2.only (by simp; omega); have ho2 := hw2.2 _ _ hw1 (.inl (by simp)); have hc2' : w2.cell? ⟨g, 0, none⟩ = some (.int .i64 (cols : Int)) := (World.cell?_of_block (hw2.only.block g (by have := hbw.size; omega) (by simpa using hns))).trans hc1; rw [show Nat.min 0 q = 0 from Nat.zero_min q]))
      go_simp
      have hBd : BL w2.drew s 73 (splice xs (top * 2) cs) := hB2
      have hod : Only [s] w w2.drew := ho2.drew
      have hcd : w2.drew.cell? ⟨g, 0, none⟩ = some (.int .i64 (cols : Int)) := hc2'
      have hAd : BL w2.drew w.heap.size 33 [.int .i64 s1, .int .i64 s2, .int .i64 s3] := hA2
      have a0 : w2.drew.cell? ⟨w.heap.size, 0, none⟩ = some (.int .i64 s1) := hAd.cell 0
      have a1 : w2.drew.cell? ⟨w.heap.size, 1, none⟩ = some (.int .i64 s2) := hAd.cell 1
      have a2 : w2.drew.cell? ⟨w.heap.size, 2, none⟩ = some (.int .i64 s3) := hAd.cell 2
      have hsz := hod.size
      clear hA hA1 hA2 hB1 hB2 hreg hcs1 hBs hAd hc1 hc2' ho2 hw2 hw1 hgc hbw hb1 hb0
      go_region_with (go_at_call 43; refine (hlay _ hBd).mono ?_; rintro _ w3 ⟨rfl, ms, hms, hB3, hH3, hK3, ho3⟩)
      all_goals
        have hK4 : Alike w.heap.size (List.replicate cols (32, 1, s1, s2, s3)) ms := fun m hm => ⟨(hK3 m hm).1, (hK3 m hm).2.1, by have := (hK3 m hm).2.2; omega⟩
        have ho4 := hod.trans ho3
        exact body_end rfl rfl ⟨rfl, ms, hms, hK4, HF.out w3 ms hms hB3 hH3 hK4 ho4, ho4⟩
  · rcases kp2 with rfl | ⟨rfl, hz⟩
    all_goals
      go_enter Tryd.func15, Tryd.ntmps15
      go_wp2_with (first
        | (refine wpList_load_row rfl 33 _ rfl w.heap.size rfl _ _ _ _ hA Tryd.underlying33 rfl (by kernel_rfl) ?_)
        | (go_at_call 41; refine hreg.mono ?_; rintro _ w1 ⟨rfl, hb1⟩; have hbw := hb0.trans (hb1.mono hs0); have hB1 := hBs.only (F := []) (Only.of_below hbw) (by simp); have hA1 := hA.only (F := []) (Only.of_below hb1) (by simp); have hw1 := Only.of_below (F := [s]) hbw; have hc1 : w1.cell? ⟨g, 0, none⟩ = some (.int .i64 (cols : Int)) := (hbw.cell (p := ⟨g, 0, none⟩) hgl).trans hgc)
        | (refine wpList_copy_wide rfl (.tmp 32) (.tmp 35) 68 68 rfl 73 2 Tryd.underlying68 (by kernel_rfl) s (top * 2) (d + q) C ⟨s, top * 2 + q * 2, none⟩ d (C - q) rfl rfl xs 73 hB1 cs hcl (fun j u hj => by rw [Addr.add_mid, hB1.cell]; have := hcs1 j u hj; rw [Addr.add_mid, hBs.cell] at this; exact this) (by rw [hcl, hmn]; omega) hone ?_; intro w2 hB2 hw2; have hA2 := hA1.only hw2.only (by simp; omega); have ho2 := hw2.2 _ _ hw1 (.inl (by simp)); have hc2' : w2.cell? ⟨g, 0, none⟩ = some (.int .i64 (cols : Int)) := (World.cell?_of_block (hw2.only.block g (by have := hbw.size; omega) (by simpa using hns))).trans hc1; rw [show Nat.min d (d + q) = d from Nat.min_eq_left (by omega)]))
      go_simp
      have hBd : BL w2.drew s 73 (splice xs (top * 2) cs) := hB2
      have hod : Only [s] w w2.drew := ho2.drew
      have hcd : w2.drew.cell? ⟨g, 0, none⟩ = some (.int .i64 (cols : Int)) := hc2'
      have hAd : BL w2.drew w.heap.size 33 [.int .i64 s1, .int .i64 s2, .int .i64 s3] := hA2
      have a0 : w2.drew.cell? ⟨w.heap.size, 0, none⟩ = some (.int .i64 s1) := hAd.cell 0
      have a1 : w2.drew.cell? ⟨w.heap.size, 1, none⟩ = some (.int .i64 s2) := hAd.cell 1
      have a2 : w2.drew.cell? ⟨w.heap.size, 2, none⟩ = some (.int .i64 s3) := hAd.cell 2
      have hsz := hod.size
      clear hA hA1 hA2 hB1 hB2 hreg hcs1 hBs hAd hc1 hc2' ho2 hw2 hw1 hgc hbw hb1 hb0
      go_region_with (go_at_call 43; refine (hlay _ hBd).mono ?_; rintro _ w3 ⟨rfl, ms, hms, hB3, hH3, hK3, ho3⟩)
      all_goals
        have hK4 : Alike w.heap.size (List.replicate cols (32, 1, s1, s2, s3)) ms := fun m hm => ⟨(hK3 m hm).1, (hK3 m hm).2.1, by have := (hK3 m hm).2.2; omega⟩
        have ho4 := hod.trans ho3
        exact body_end rfl rfl ⟨rfl, ms, hms, hK4, HF.out w3 ms hms hB3 hH3 hK4 ho4, ho4⟩
end Go.Proofs.YtgjlohplgpcghaaDoor.Grd
/- Rows scrolled up, those that go off kept. -/
namespace Go.Proofs.YtgjlohplgpcghaaDoor.Grd
open Go.RowKit Cel Sty

theorem keep_sub (past scr : List MR) (k : Nat) {len q : Nat} (hq : q ≤ len) : (((past ++ scr.take q).drop k ++ (scr.drop q).take (len - q)) ++ scr.drop len).Sublist (past ++ scr) := by
  have e : past ++ scr = (past ++ scr.take q) ++ scr.drop q := by rw [List.append_assoc, List.take_append_drop]
  rw [e, List.append_assoc]
  refine (List.drop_sublist _ _).append ?_
  have e3 : scr.drop len = (scr.drop q).drop (len - q) := by rw [List.drop_drop, show q + (len - q) = len by omega]
  rw [e3, List.take_append_drop]
  exact List.Sublist.refl _
theorem TabAt.nodup {w : World} {v : Value} {ms : List MR} {F : List Nat} (h : TabAt w v ms F) : F.Nodup := by
  rcases h with ⟨_, _, rfl⟩ | ⟨p, _, _, _, _, _, _, _, _, _, _, rfl⟩
  · exact List.nodup_nil
  · simp
theorem TabAt.lt {w : World} {v : Value} {ms : List MR} {F : List Nat} (h : TabAt w v ms F) : ∀ x ∈ F, x < w.heap.size := by
  rcases h with ⟨_, _, rfl⟩ | ⟨p, _, _, _, _, _, _, _, _, _, hB, rfl⟩
  · intro x hx; cases hx
  · intro x hx
    have := hB.lt
    simp at hx
    omega

set_option maxRecDepth 100000 in
set_option maxHeartbeats 2000000 in
theorem up_keep {w : World} {g s : Nat} {pv : Value} {fp : List Nat} {G : GS} (h : GridAt w g s pv fp G) (bottom q : Nat) (hbr : bottom < G.scr.length) (n : Int) (hn : 1 ≤ n) (hq : (q : Int) = min n ((bottom : Int) + 1))
    (s1 s2 s3 : Int) (hst : rightS s1 s2 s3 = true) :
    Calls Tryd.prog 15 #[.pointer (some ⟨g, 0, none⟩), .int .i64 0, .int .i64 (bottom : Int), .int .i64 n, .agg #[.int .i64 s1, .int .i64 s2, .int .i64 s3], .bool true] w fun e w' => e = .returned (.tuple #[]) ∧
      ∃ pv' fp' ms, ms.length = q ∧ Alike w.heap.size (List.replicate G.cols (32, 1, s1, s2, s3)) ms ∧ GridAt w' g s pv' fp' ⟨G.cols, G.limit, (G.past ++ G.scr.take q).drop (G.past.length + q - G.limit), upL G.scr 0 (bottom + 1) q ms⟩ ∧ (∀ x ∈ fp', x ∈ fp ∨ w.heap.size ≤ x) ∧ Only (g :: s :: fp) w w' := by
  have htb : 0 ≤ bottom := Nat.zero_le _
  have hA := BL.new w 33 [.int .i64 s1, .int .i64 s2, .int .i64 s3]
  have hb0 : Below w.heap.size w (w.alloc (.cells #[.int .i64 s1, .int .i64 s2, .int .i64 s3] 33)) := (Below.refl _ _).alloc (Nat.le_refl _) _
  have hs0 := hb0.size
  have h0 := h.below hb0
  have hreg := region_any h0 0 bottom q htb hbr n hn (by rw [hq]; simp) s1 s2 s3 hst
  have hr2 := h.r2
  have hc2 := h.c2
  have hgl := h.blk.lt
  have hsl := h.scr.lt
  obtain ⟨d, hd⟩ : ∃ d, bottom + 1 = d + q := ⟨bottom + 1 - q, by omega⟩
  have hq1 : 1 ≤ q := by omega
  obtain ⟨C, hC⟩ : ∃ C, G.scr.length = C := ⟨_, rfl⟩
  have hCd : d + q ≤ C := by omega
  have hC2 : C ≤ 120 := by omega
  have htd : 0 + (d + q) ≤ G.scr.length := by omega
  rw [Nat.sub_zero, Nat.sub_zero, hd, hC, Nat.zero_mul] at hreg
  rw [hd]
  have HG := Lib.hid h
  have hrl := rowsL_len G.scr
  have hns : g ≠ s := by
    have := h.apart
    simp only [List.nodup_cons, List.mem_cons, not_or] at this
    exact this.1.1
  have hnsp : s ∉ fp := by
    have := h.apart
    simp only [List.nodup_cons, List.mem_cons, not_or] at this
    exact this.2.1
  clear hq hbr htb hn hd hC hst h0
  have i0 : (0 : Int) ≤ (q : Int) := Int.natCast_nonneg _
  have i1 : (q : Int) ≤ (d : Int) + (q : Int) := by omega
  have i2 : (0 : Int) ≤ (d : Int) := Int.natCast_nonneg _
  have i3 : (d : Int) ≤ (d : Int) + (q : Int) := by omega
  have j1 : IntKind.i64.wrap (d : Int) = (d : Int) := IntWalk.i64_in _ ⟨by omega, by omega⟩
  have cd : ¬ C = d := by omega
  rw [show ((0 : Nat) : Int) = 0 from rfl] at hreg
  have HF : Hid (∀ (w' : World) (pv' : Value) (fp' : List Nat) (ms : List MR), ms.length = q → BL w' g 70 [.int .i64 (G.cols : Int), .int .i64 (G.limit : Int), pv', slV s 0 G.scr.length G.scr.length] → TabAt w' pv' ((G.past ++ G.scr.take q).drop (G.past.length + q - G.limit)) fp' →
      BL w' s 73 (splice (splice (rowsL G.scr) (2 * 0) (rowsL ((G.scr.drop (0 + q)).take (d + q - q)))) (2 * (0 + (d + q - q))) (rowsL ms)) → Held w' ms → Alike w.heap.size (List.replicate G.cols (32, 1, s1, s2, s3)) ms → (∀ x ∈ fp', x ∈ fp ∨ w.heap.size ≤ x) → (∀ m ∈ ms, m.b ∉ fp') → Only (g :: s :: fp) w w' →
      GridAt w' g s pv' fp' ⟨G.cols, G.limit, (G.past ++ G.scr.take q).drop (G.past.length + q - G.limit), upL G.scr 0 (d + q) q ms⟩) := fun w' pv' fp' ms hms hb ht hB hH hK hfp hmf ho => by
    have hl := upL_len htd (Nat.le_add_left q d) hms
    rw [upL_rows htd (Nat.le_add_left q d) hms] at hB
    rw [← hl] at hb
    have hap := HG.out.apart
    simp only [List.nodup_cons, List.mem_cons, not_or] at hap
    refine HG.out.remake (P := (G.past ++ G.scr.take q).drop (G.past.length + q - G.limit) ++ (G.scr.drop q).take (d + q - q)) (M := ms) (S := G.scr.drop (d + q)) hb ht hB hl ho (fun x hx => hx) hfp ?_ ?_ ?_ (keep_sub _ _ _ (Nat.le_add_left q d)) hH (fun m hm => ?_)
    · have hx : ∀ y, y < w.heap.size → y ∉ fp → y ∉ fp' := fun y h1 h2 e => by
        rcases hfp y e with e | e
        · exact h2 e
        · omega
      simp only [List.nodup_cons, List.mem_cons, not_or]
      exact ⟨⟨hns, hx g hgl hap.1.2⟩, hx s hsl hnsp, ht.nodup⟩
    · rw [List.length_drop, List.length_append, List.length_take]
      omega
    · unfold upL
      rw [List.take_zero, List.nil_append, Nat.zero_add, Nat.zero_add]
      simp only [List.append_assoc]
    · obtain ⟨k1, _, k3⟩ := hK m hm
      exact ⟨k3, by rw [k1, List.length_replicate], hmf m hm⟩
  have hgc := HG.out.blk
  have htab := HG.out.tab
  have hfg : g ∉ fp := by
    have hap := HG.out.apart
    simp only [List.nodup_cons, List.mem_cons, not_or] at hap
    exact hap.1.2
  have hpl := HG.out.p2
  have hl2 := HG.out.l2
  have hBs := HG.out.scr
  have hcs1 := rows_from hBs q d
  have hcs0 := rows_from hBs 0 q
  rw [List.drop_zero, Nat.zero_mul] at hcs0
  have hcl : (rowsL ((G.scr.drop q).take d)).length = d * 2 := by rw [rowsL_len, List.length_take, List.length_drop]; omega
  have hone := one_rows ((G.scr.drop q).take d)
  have hnl : (G.scr.take q).length = q := by rw [List.length_take]; omega
  rw [show d + q - q = d by omega, Nat.zero_add, Nat.zero_add, show 2 * 0 = 0 from rfl, show 2 * d = d * 2 by omega] at HF
  have hkeep := fun (W : World) (hg : BL W g 70 [.int .i64 (G.cols : Int), .int .i64 (G.limit : Int), pv, slV s 0 G.scr.length G.scr.length]) (ht : TabAt W pv G.past fp) (hnews : ∀ j u, (rowsL (G.scr.take q))[j]? = some u → W.cell? ((⟨s, 0, none⟩ : Addr).add j) = some u) =>
    keep_any (c := C) hg ht hfg (by rw [hnl]; omega) hnews (by rw [hnl]; omega) hl2
  rw [hnl] at hkeep
  generalize hXS : rowsL G.scr = xs at *
  generalize rowsL ((G.scr.drop q).take d) = cs at *
  generalize G.scr.take q = new at *
  obtain ⟨cols, hcols⟩ : ∃ cols, G.cols = cols := ⟨_, rfl⟩
  obtain ⟨GL, hGL⟩ : ∃ GL, G.scr.length = GL := ⟨_, rfl⟩
  rw [hcols] at hgc hc2 HF hkeep
  rw [hcols]
  rw [hGL] at hr2 hrl htd hgc HF hkeep
  have hmn : Nat.min d (d + q) * 2 = d * 2 := by rw [show Nat.min d (d + q) = d from Nat.min_eq_left (by omega)]
  rw [← hmn] at hcl
  clear h HG hGL hcols hXS
  have hlay := fun W hx => lay_any s d q (C - d) cols (splice xs 0 cs) s1 s2 s3 W hx (by rw [splice_len (by rw [hcl, hmn]; omega)]; omega) (by rw [splice_len (by rw [hcl, hmn]; omega)]; omega) (by omega)
  unfold slV at hlay
  rw [show 2 * d = d * 2 by omega] at hlay
  by_cases hCq : C = q
  · have hqC : q = C := hCq.symm
    subst hqC
    clear hCq
    obtain rfl : d = 0 := by omega
    have hcz : cs.length = 0 := by rw [hcl, hmn]
    have j0 : IntKind.i64.wrap (0 : Int) = 0 := IntWalk.i64_in _ ⟨by omega, by omega⟩
    have hq0 : ¬ q = 0 := by omega
    clear j1 i3 i2 hmn hcl
    simp only [Nat.zero_add, Nat.zero_mul, Nat.sub_zero] at hlay hreg HF htd ⊢
    go_enter Tryd.func15, Tryd.ntmps15
    go_wp2_with (first
      | (refine wpList_load_row rfl 33 _ rfl w.heap.size rfl _ _ _ _ hA Tryd.underlying33 rfl (by kernel_rfl) ?_)
      | (go_at_call 41; refine hreg.mono ?_; rintro _ w1 ⟨rfl, hb1⟩; have hbw := hb0.trans (hb1.mono hs0); have hB1 := hBs.only (F := []) (Only.of_below hbw) (by simp); have hA1 := hA.only (F := []) (Only.of_below hb1) (by simp); have hw1 := Only.of_below (F := g :: s :: fp) hbw; have hg1 := hgc.only (F := []) (Only.of_below hbw) (by simp); have ht1 := htab.only (G := []) (Only.of_below hbw) (by simp))
      | (go_at_call 42; refine (hkeep _ hg1 ht1 (fun j u hj => by have := hcs0 j u hj; rw [Addr.add_mid, Nat.zero_add, hBs.cell] at this; rw [Addr.add_mid, Nat.zero_add, hB1.cell]; exact this)).mono ?_; rintro _ w2 ⟨rfl, pv2, fp2, hg2, ht2, hf2, ho2⟩; have hsf : s ∉ g :: fp := (by simp only [List.mem_cons, not_or]; exact ⟨fun e => hns e.symm, hnsp⟩); have hB2 := hB1.only ho2 hsf; have hA2 := hA1.only ho2 (by simp only [List.mem_cons, not_or]; exact ⟨by omega, fun e => by have := htab.lt _ e; omega⟩); have how2 := hw1.trans (ho2.mono (G := g :: s :: fp) (fun x hx => by simp only [List.mem_cons] at hx ⊢; rcases hx with hx | hx; exact .inl hx; exact .inr (.inr hx))))
      | (refine wpList_copy_wide rfl (.tmp 32) (.tmp 35) 68 68 rfl 73 2 Tryd.underlying68 (by kernel_rfl) s 0 q q ⟨s, 0, none⟩ 0 _ rfl rfl xs 73 hB2 cs (by rw [hcz, show Nat.min 0 q = 0 from Nat.zero_min q]) (fun j u hj => by have := (List.getElem?_eq_some_iff.1 hj).1; rw [hcz] at this; omega) (by rw [hcz]; omega) hone ?_; intro w3 hB3 hw3; rw [show Nat.min 0 q = 0 from Nat.zero_min q]))
    go_simp
    have hws := hbw.size
    have hsz2 := how2.size
    have hfp2 : ∀ x ∈ fp2, x ≠ s := fun x hx e => by
      rcases hf2 x hx with h1 | h1
      · exact hnsp (e ▸ h1)
      · omega
    have hA3 := hA2.only hw3.only (by simp; omega)
    have hg3 := hg2.only hw3.only (by simpa using hns)
    have ht3 := ht2.only hw3.only (fun x hx => by simpa using hfp2 x hx)
    have how3 := hw3.2 _ _ how2 (.inl (by simp))
    have hf3 : ∀ x ∈ fp2, x ∈ fp ∨ w.heap.size ≤ x := fun x hx => by
      rcases hf2 x hx with h1 | h1
      · exact .inl h1
      · exact .inr (by omega)
    have hBd : BL w3.drew s 73 (splice xs 0 cs) := hB3
    have hod : Only (g :: s :: fp) w w3.drew := how3.drew
    have hcd : w3.drew.cell? ⟨g, 0, none⟩ = some (.int .i64 (cols : Int)) := hg3.cell 0
    have hAd : BL w3.drew w.heap.size 33 [.int .i64 s1, .int .i64 s2, .int .i64 s3] := hA3
    have a0 : w3.drew.cell? ⟨w.heap.size, 0, none⟩ = some (.int .i64 s1) := hAd.cell 0
    have a1 : w3.drew.cell? ⟨w.heap.size, 1, none⟩ = some (.int .i64 s2) := hAd.cell 1
    have a2 : w3.drew.cell? ⟨w.heap.size, 2, none⟩ = some (.int .i64 s3) := hAd.cell 2
    have htd3 : TabAt w3.drew pv2 _ fp2 := ht3.only (G := []) ((Only.refl _ _).drew) (fun _ _ h => by cases h)
    have hgd3 : BL w3.drew g 70 _ := hg3
    have hltd := htd3.lt
    have hsz3 := hod.size
    clear hA hA1 hA2 hA3 hB1 hB2 hB3 hreg hcs1 hcs0 hBs hAd how2 how3 hw3 hw1 hbw hb1 hb0 hg1 hg2 hg3 ht1 ht2 ht3 hkeep hgc ho2
    go_region_with (go_at_call 43; refine (hlay _ hBd).mono ?_; rintro _ w4 ⟨rfl, ms, hms, hB4, hH4, hK4, ho4⟩)
    all_goals
      have hK5 : Alike w.heap.size (List.replicate cols (32, 1, s1, s2, s3)) ms := fun m hm => ⟨(hK4 m hm).1, (hK4 m hm).2.1, by have := (hK4 m hm).2.2; omega⟩
      have ho5 := hod.trans (ho4.mono (G := g :: s :: fp) (fun x hx => by simp at hx; simp [hx]))
      have hmf : ∀ m ∈ ms, m.b ∉ fp2 := fun m hm e => by
        have h1 := (hK4 m hm).2.2
        have h2 := hltd _ e
        omega
      exact body_end rfl rfl ⟨rfl, pv2, fp2, ms, hms, hK5, HF.out w4 pv2 fp2 ms hms (hgd3.only ho4 (by simpa using hns)) (htd3.only ho4 (fun x hx => by simpa using hfp2 x hx)) hB4 hH4 hK5 hf3 hmf ho5, hf3, ho5⟩
  · go_enter Tryd.func15, Tryd.ntmps15
    go_wp2_with (first
      | (refine wpList_load_row rfl 33 _ rfl w.heap.size rfl _ _ _ _ hA Tryd.underlying33 rfl (by kernel_rfl) ?_)
      | (go_at_call 41; refine hreg.mono ?_; rintro _ w1 ⟨rfl, hb1⟩; have hbw := hb0.trans (hb1.mono hs0); have hB1 := hBs.only (F := []) (Only.of_below hbw) (by simp); have hA1 := hA.only (F := []) (Only.of_below hb1) (by simp); have hw1 := Only.of_below (F := g :: s :: fp) hbw; have hg1 := hgc.only (F := []) (Only.of_below hbw) (by simp); have ht1 := htab.only (G := []) (Only.of_below hbw) (by simp))
      | (go_at_call 42; refine (hkeep _ hg1 ht1 (fun j u hj => by have := hcs0 j u hj; rw [Addr.add_mid, Nat.zero_add, hBs.cell] at this; rw [Addr.add_mid, Nat.zero_add, hB1.cell]; exact this)).mono ?_; rintro _ w2 ⟨rfl, pv2, fp2, hg2, ht2, hf2, ho2⟩; have hsf : s ∉ g :: fp := (by simp only [List.mem_cons, not_or]; exact ⟨fun e => hns e.symm, hnsp⟩); have hB2 := hB1.only ho2 hsf; have hA2 := hA1.only ho2 (by simp only [List.mem_cons, not_or]; exact ⟨by omega, fun e => by have := htab.lt _ e; omega⟩); have how2 := hw1.trans (ho2.mono (G := g :: s :: fp) (fun x hx => by simp only [List.mem_cons] at hx ⊢; rcases hx with hx | hx; exact .inl hx; exact .inr (.inr hx))))
      | (refine wpList_copy_wide rfl (.tmp 32) (.tmp 35) 68 68 rfl 73 2 Tryd.underlying68 (by kernel_rfl) s 0 (d + q) C ⟨s, q * 2, none⟩ d (C - q) rfl rfl xs 73 hB2 cs hcl (fun j u hj => by rw [Addr.add_mid, hB2.cell]; have := hcs1 j u hj; rw [Addr.add_mid, hBs.cell] at this; exact this) (by rw [hcl, hmn]; omega) hone ?_; intro w3 hB3 hw3; rw [show Nat.min d (d + q) = d from Nat.min_eq_left (by omega)]))
    go_simp
    have hws := hbw.size
    have hsz2 := how2.size
    have hfp2 : ∀ x ∈ fp2, x ≠ s := fun x hx e => by
      rcases hf2 x hx with h1 | h1
      · exact hnsp (e ▸ h1)
      · omega
    have hA3 := hA2.only hw3.only (by simp; omega)
    have hg3 := hg2.only hw3.only (by simpa using hns)
    have ht3 := ht2.only hw3.only (fun x hx => by simpa using hfp2 x hx)
    have how3 := hw3.2 _ _ how2 (.inl (by simp))
    have hf3 : ∀ x ∈ fp2, x ∈ fp ∨ w.heap.size ≤ x := fun x hx => by
      rcases hf2 x hx with h1 | h1
      · exact .inl h1
      · exact .inr (by omega)
    have hBd : BL w3.drew s 73 (splice xs 0 cs) := hB3
    have hod : Only (g :: s :: fp) w w3.drew := how3.drew
    have hcd : w3.drew.cell? ⟨g, 0, none⟩ = some (.int .i64 (cols : Int)) := hg3.cell 0
    have hAd : BL w3.drew w.heap.size 33 [.int .i64 s1, .int .i64 s2, .int .i64 s3] := hA3
    have a0 : w3.drew.cell? ⟨w.heap.size, 0, none⟩ = some (.int .i64 s1) := hAd.cell 0
    have a1 : w3.drew.cell? ⟨w.heap.size, 1, none⟩ = some (.int .i64 s2) := hAd.cell 1
    have a2 : w3.drew.cell? ⟨w.heap.size, 2, none⟩ = some (.int .i64 s3) := hAd.cell 2
    have htd3 : TabAt w3.drew pv2 _ fp2 := ht3.only (G := []) ((Only.refl _ _).drew) (fun _ _ h => by cases h)
    have hgd3 : BL w3.drew g 70 _ := hg3
    have hltd := htd3.lt
    have hsz3 := hod.size
    clear hA hA1 hA2 hA3 hB1 hB2 hB3 hreg hcs1 hcs0 hBs hAd how2 how3 hw3 hw1 hbw hb1 hb0 hg1 hg2 hg3 ht1 ht2 ht3 hkeep hgc ho2
    go_region_with (go_at_call 43; refine (hlay _ hBd).mono ?_; rintro _ w4 ⟨rfl, ms, hms, hB4, hH4, hK4, ho4⟩)
    all_goals
      have hK5 : Alike w.heap.size (List.replicate cols (32, 1, s1, s2, s3)) ms := fun m hm => ⟨(hK4 m hm).1, (hK4 m hm).2.1, by have := (hK4 m hm).2.2; omega⟩
      have ho5 := hod.trans (ho4.mono (G := g :: s :: fp) (fun x hx => by simp at hx; simp [hx]))
      have hmf : ∀ m ∈ ms, m.b ∉ fp2 := fun m hm e => by
        have h1 := (hK4 m hm).2.2
        have h2 := hltd _ e
        omega
      exact body_end rfl rfl ⟨rfl, pv2, fp2, ms, hms, hK5, HF.out w4 pv2 fp2 ms hms (hgd3.only ho4 (by simpa using hns)) (htd3.only ho4 (fun x hx => by simpa using hfp2 x hx)) hB4 hH4 hK5 hf3 hmf ho5, hf3, ho5⟩
end Go.Proofs.YtgjlohplgpcghaaDoor.Grd
