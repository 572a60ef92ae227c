/- Rows laid anew: the walk. -/
import Derived.Test.YtgjlohplgpcghaaDoorGlo
namespace Go.Proofs.YtgjlohplgpcghaaDoor.Grd
open Go.RowKit

def Reflowed (w : World) (g : Nat) (G : GS) (rp : List Ro) (x y : Nat) (cols rows : Nat) (e : Ending) (w' : World) : Prop :=
  ∃ P s' pv' fp' past' scr', P = flowOf rp ((G.past.length : Int) + (y : Int)) (x : Int) cols ∧ e = .returned (.agg #[.int .i64 P.px, .int .i64 (P.py - (firstOf P rows : Int))]) ∧ GridAt w' g s' pv' fp' ⟨cols, G.limit, past', scr'⟩ ∧ past'.map MR.pl = (P.rows.take (firstOf P rows)).drop (firstOf P rows - G.limit) ∧ scr'.map MR.pl = filledR (P.rows.drop (firstOf P rows)) cols rows ∧ (∀ z ∈ foot g s' fp' ⟨cols, G.limit, past', scr'⟩, z = g ∨ w.heap.size ≤ z) ∧ Only [g] w w'
theorem lines_at {w : World} {base gt c : Nat} {ms : List ML} (h : w.ownsRow base 109 3 (slV gt 0 ms.length c) ms.length (linesV ms)) {k : Nat} (hk : k < ms.length) :
    w.cell? ⟨gt, k * 3, none⟩ = some ms[k].v ∧ w.cell? ⟨gt, k * 3 + 1, none⟩ = some (.bool ms[k].wr) ∧ w.cell? ⟨gt, k * 3 + 2, none⟩ = some (.int .i64 ms[k].place) := by
  obtain ⟨tail, h1, _⟩ := own_bl h
  have e : linesV ms = linesV (ms.take k) ++ (mlL ms[k] ++ linesV (ms.drop (k + 1))) := by
    have h1 : mlL ms[k] ++ linesV (ms.drop (k + 1)) = linesV (ms[k] :: ms.drop (k + 1)) := rfl
    rw [h1, ← linesV_app, ← List.drop_eq_getElem_cons hk, List.take_append_drop]
  have hl : (linesV (ms.take k)).length = k * 3 := by rw [linesV_len, List.length_take]; omega
  rw [e, List.append_assoc] at h1
  refine ⟨?_, ?_, ?_⟩
  · rw [h1.cell, List.getElem?_append_right (by omega), hl, Nat.sub_self]; rfl
  · rw [h1.cell, List.getElem?_append_right (by omega), hl, show k * 3 + 1 - k * 3 = 1 by omega]; rfl
  · rw [h1.cell, List.getElem?_append_right (by omega), hl, show k * 3 + 2 - k * 3 = 2 by omega]; rfl
theorem sum_take : ∀ (ls : List Nat) (k : Nat) (hk : k < ls.length), (ls.take k).sum + ls[k] ≤ ls.sum
  | [], k, hk => by cases hk
  | a :: ls, 0, _ => by simp
  | a :: ls, k + 1, hk => by
    have := sum_take ls k (by simpa using hk)
    simp only [List.take_succ_cons, List.sum_cons, List.getElem_cons_succ]
    omega
/-- A flow without rows. -/
theorem FlowIn.new {w : World} {f cols : Nat} (h : BL w f 105 [.int .i64 (cols : Int), .slice none 0 0, .int .i64 0, .int .i64 0, .int .i64 0]) (h1 : 1 ≤ cols) (h2 : cols ≤ 250) : FlowIn w f [f] ⟨cols, [], 0, 0, 0⟩ :=
  ⟨.slice none 0 0, [], ⟨cols, [], 0, 0, 0⟩, ⟨h, .inl ⟨rfl, rfl, rfl⟩, Held.nil _, by simp, (fun _ h => by cases h), (fun _ h => by cases h), h1, h2, Nat.zero_le _, Nat.zero_le _⟩, rfl, rfl⟩

set_option maxRecDepth 100000 in
set_option maxHeartbeats 2000000 in
theorem reflow_any {w : World} {g s : Nat} {pv : Value} {fp : List Nat} {G : GS} (h : GridAt w g s pv fp G) (cols rows x y : Nat) (hc1 : 1 ≤ cols) (hc2 : cols ≤ 250) (hr1 : 1 ≤ rows) (hr2 : rows ≤ 120) (hx : x ≤ 250) (hy : y ≤ 120) (hsz : (G.past.length + G.scr.length) * G.cols ≤ 400000) :
    Calls Tryd.prog 46 #[.pointer (some ⟨g, 0, none⟩), .int .i64 (cols : Int), .int .i64 (rows : Int), .agg #[.int .i64 (x : Int), .int .i64 (y : Int)]] w fun e w' => Reflowed w g G ((G.past ++ G.scr).map MR.pl) x y cols rows e w' := by
  have hA := ((BL.new w 44 [.int .i64 (x : Int), .int .i64 (y : Int)]).alloc (.cells #[.int .i64 0, .int .i64 0] 44)).alloc (.cells #[.int .i64 (cols : Int), .slice none 0 0, .int .i64 0, .int .i64 0, .int .i64 0] 105)
  have hR := (BL.new (w.alloc (.cells #[.int .i64 (x : Int), .int .i64 (y : Int)] 44)) 44 [.int .i64 0, .int .i64 0]).alloc (.cells #[.int .i64 (cols : Int), .slice none 0 0, .int .i64 0, .int .i64 0, .int .i64 0] 105)
  have hF := BL.new ((w.alloc (.cells #[.int .i64 (x : Int), .int .i64 (y : Int)] 44)).alloc (.cells #[.int .i64 0, .int .i64 0] 44)) 105 [.int .i64 (cols : Int), .slice none 0 0, .int .i64 0, .int .i64 0, .int .i64 0]
  have hb0 : Below w.heap.size w (((w.alloc (.cells #[.int .i64 (x : Int), .int .i64 (y : Int)] 44)).alloc (.cells #[.int .i64 0, .int .i64 0] 44)).alloc (.cells #[.int .i64 (cols : Int), .slice none 0 0, .int .i64 0, .int .i64 0, .int .i64 0] 105)) := (((Below.refl _ _).alloc (Nat.le_refl _) _).alloc (by simp) _).alloc (by rw [size_alloc, size_alloc]; omega) _
  rw [size_alloc] at hR
  rw [size_alloc, size_alloc] at hF
  have hz0 : (((w.alloc (.cells #[.int .i64 (x : Int), .int .i64 (y : Int)] 44)).alloc (.cells #[.int .i64 0, .int .i64 0] 44)).alloc (.cells #[.int .i64 (cols : Int), .slice none 0 0, .int .i64 0, .int .i64 0, .int .i64 0] 105)).heap.size = w.heap.size + 1 + 1 + 1 := by rw [size_alloc, size_alloc, size_alloc]
  have HZ0 := Lib.hid hz0
  have HF := Lib.hid hF
  have HR := Lib.hid hR
  have HH := Lib.hid h
  have HB0 := Lib.hid hb0
  have hgl := h.blk.lt
  have hln := fun W (hW : Below w.heap.size w W) => lines_any (h.below hW) x y hx hy hsz
  have HSZ := Lib.hid hsz
  obtain ⟨rp, hrp⟩ : ∃ rp, (G.past ++ G.scr).map MR.pl = rp := ⟨_, rfl⟩
  have HRP := Lib.hid hrp
  rw [hrp]
  clear h hz0 hF hR hsz hb0 hrp
  go_enter Tryd.func46, Tryd.ntmps46
  go_wp2_with (first
    | (refine wpList_load_row rfl 44 _ rfl w.heap.size rfl _ _ _ _ hA Tryd.underlying44 rfl (by kernel_rfl) ?_)
    | (go_at_call 62; refine (hln _ HB0.out).mono ?_; rintro _ w3 ⟨base, tv, ms, rfl, hL, hbase, hfull, hpl, hb3⟩; obtain ⟨bt, ct, rfl⟩ := own_shape hL.tab))
  obtain ⟨f, hf⟩ : ∃ f, w.heap.size + 1 + 1 = f := ⟨_, rfl⟩
  have HFF := Lib.hid hf
  have hF := HF.out
  have hR := HR.out
  have hz := HZ0.out
  have hbB := HB0.out
  rw [hf] at hF hz ⊢
  clear hf HF HR HB0 hln
  generalize (((w.alloc (.cells #[.int .i64 (x : Int), .int .i64 (y : Int)] 44)).alloc (.cells #[.int .i64 0, .int .i64 0] 44)).alloc (.cells #[.int .i64 (cols : Int), .slice none 0 0, .int .i64 0, .int .i64 0, .int .i64 0] 105)) = W2 at *
  have hfA : w.heap.size < f := by have := HFF.out; omega
  have hfR : w.heap.size + 1 < f := by have := HFF.out; omega
  have hfb : f < base := by omega
  have HA3 := Lib.hid (hA.only (F := []) (Only.of_below hb3) (by simp))
  have HR3 := Lib.hid (hR.only (F := []) (Only.of_below hb3) (by simp))
  have hF0 := (FlowIn.new hF hc1 hc2).below hb3
  have hb3w : Below w.heap.size w w3 := hbB.trans (hb3.mono hbB.size)
  have HG3 := Lib.hid (HH.out.below hb3w)
  have HB3 := Lib.hid hb3w
  have hw3s := hb3.size
  obtain ⟨N, hN⟩ : ∃ N, ms.length = N := ⟨_, rfl⟩
  have HN := Lib.hid hN
  have HL := Lib.hid hL
  have HPL := Lib.hid hpl
  have hrp : (G.past ++ G.scr).map MR.pl = rp := HRP.out
  rw [hrp] at hpl HPL
  rw [hN]
  have hrl : rp.length = G.past.length + G.scr.length := by rw [← hrp, List.length_map, List.length_append]
  have hrc : ∀ r ∈ rp, r.1.length = G.cols := fun r hr => by
    rw [← hrp] at hr
    obtain ⟨q, hq, rfl⟩ := List.mem_map.1 hr
    exact HH.out.cells q hq
  have hN2 : N ≤ 2120 := by
    have h1 := linesN_len rp ((G.past.length : Int) + (y : Int)) (x : Int) (G.past.length + G.scr.length)
    rw [← hpl, List.length_map, hN] at h1
    have := HH.out.p2
    have := HH.out.l2
    have := HH.out.r2
    omega
  have hsum : (ms.map fun m => m.l.length).sum ≤ 400000 := by
    have h1 := linesN_sum rp ((G.past.length : Int) + (y : Int)) (x : Int) G.cols hrc (G.past.length + G.scr.length) (by omega)
    rw [← hpl, List.map_map] at h1
    have h2 : (ms.map ((fun m : PL => m.l.length) ∘ ML.pl)) = ms.map fun m => m.l.length := rfl
    rw [h2] at h1
    have := HSZ.out
    omega
  have hplc : ∀ m ∈ ms, -1 ≤ m.place ∧ m.place ≤ (m.l.length : Int) + (x : Int) := fun m hm => by
    have h1 := linesN_place rp ((G.past.length : Int) + (y : Int)) (x : Int) (by omega) (G.past.length + G.scr.length) m.pl (by rw [← hpl]; exact List.mem_map_of_mem hm)
    exact h1
  have hnn : ms ≠ [] := fun e => by
    have h1 := flowOf_placed rp ((G.past.length : Int) + (y : Int)) (x : Int) cols (by
      intro e2; rw [e2] at hrl; have := HH.out.r1; simp at hrl; omega)
    unfold flowOf at h1
    rw [hrl, ← hpl, e] at h1
    have h2 := h1.2
    simp [laysF, trimF] at h2
  have HS := Lib.hid hsum
  have HP := Lib.hid hplc
  have HNN := Lib.hid hnn
  have HFU := Lib.hid hfull
  have HRL := Lib.hid hrl
  clear hL hpl hN hrp hsum hplc hnn hfull hrc hF hR hb3 hbB hA hb3w hrl
  obtain ⟨P0, hP0⟩ : ∃ P0 : PF, P0 = ⟨cols, [], 0, 0, 0⟩ := ⟨_, rfl⟩
  rw [← hP0] at hF0
  have HP0 := Lib.hid hP0
  clear hP0
  go_loopg [20] N (fun gk v20 wr => ∃ (k : Nat) (F : List Nat), k + gk = N ∧ v20 = .int .i64 (k : Int) ∧ FlowIn wr f F (laysF P0 ((ms.map ML.pl).take k)) ∧ Went [f] F w3 wr)
  case atStart => exact ⟨0, [f], by omega, rfl, by rw [List.take_zero]; exact hF0, Went.refl _ _⟩
  case round =>
    obtain ⟨k, F, hkg, rfl, hFk, hwk⟩ := hrel
    clear hF0
    by_cases hlt : k < N
    · have hkm : k < ms.length := by have := HN.out; omega
      obtain ⟨m, hm⟩ : ∃ m, ms[k] = m := ⟨_, rfl⟩
      have hmm : m ∈ ms := by rw [← hm]; exact List.getElem_mem _
      have hgt : ∃ gt, bt = some ⟨gt, 0, none⟩ := by
        rcases HL.out.tab.2 with ⟨e, _⟩ | ⟨gt, _, _, e, _⟩
        · simp at e; have := HN.out; omega
        · simp at e; exact ⟨gt, e.1⟩
      obtain ⟨gt, rfl⟩ := hgt
      obtain ⟨q0, q1, q2⟩ := lines_at HL.out.tab hkm
      obtain ⟨bs, cm, hmv⟩ := own_shape (HL.out.own m hmm)
      have hbs : ∃ b, bs = some ⟨b, 0, none⟩ := by
        rcases (HL.out.own m hmm).2 with ⟨e, e2⟩ | ⟨b, _, _, e, _⟩
        · exact absurd (List.eq_nil_of_length_eq_zero e2) (HFU.out m hmm)
        · rw [hmv] at e; simp at e; exact ⟨b, e.1⟩
      obtain ⟨b, rfl⟩ := hbs
      have hown := HL.out.own m hmm
      rw [hmv] at hown
      have hcb := own_cells hown
      have hbg := (own_ge hown b rfl)
      have hgg := (own_ge HL.out.tab gt rfl)
      rw [hm, hmv] at q0
      rw [hm] at q1 q2
      have r0 : wr.cell? ⟨gt, k * 3, none⟩ = some (.slice (some ⟨b, 0, none⟩) m.l.length cm) := (World.cell?_of_block (hwk.only.block gt hgg.2 (by simp; omega))).trans q0
      have r1 : wr.cell? ⟨gt, k * 3 + 1, none⟩ = some (.bool m.wr) := (World.cell?_of_block (hwk.only.block gt hgg.2 (by simp; omega))).trans q1
      have r2 : wr.cell? ⟨gt, k * 3 + 2, none⟩ = some (.int .i64 m.place) := (World.cell?_of_block (hwk.only.block gt hgg.2 (by simp; omega))).trans q2
      have hcr := hcb.only hwk.only (by simp; omega)
      have hbF : b ∉ F := fun e => by
        rcases hwk.foot b e with h1 | h1
        · simp at h1; omega
        · omega
      have i0 : (0 : Int) ≤ (k : Int) := Int.natCast_nonneg _
      have i1 : (k : Int) < (N : Int) := by omega
      have hbA : Below wr.heap.size wr (wr.alloc (.cells #[.slice (some ⟨b, 0, none⟩) m.l.length cm, .bool m.wr, .int .i64 m.place] 109)) := (Below.refl _ _).alloc (Nat.le_refl _) _
      have hF2 := hFk.below hbA
      have hc2' := hcr.only (F := []) (Only.of_below hbA) (by simp)
      have hLB := BL.new wr 109 [.slice (some ⟨b, 0, none⟩) m.l.length cm, .bool m.wr, .int .i64 m.place]
      have hsk := sum_take (ms.map fun m => m.l.length) k (by rw [List.length_map]; exact hkm)
      rw [List.getElem_map, hm] at hsk
      have hS := HS.out
      have hP1 := (laysF_placed ((ms.map ML.pl).take k) P0 (by rw [HP0.out]; exact ⟨Int.le_refl _, .inl rfl⟩)).2.2
      have hP2 : (((ms.map ML.pl).take k).map fun m => m.l.length).sum = ((ms.map fun m => m.l.length).take k).sum := by
        rw [← List.map_take, ← List.map_take, List.map_map]
        rfl
      have hP3 : P0.rows.length = 0 := by rw [HP0.out]; rfl
      have hP4 : ((ms.map ML.pl).take k).length ≤ k := by rw [List.length_take]; omega
      have hm3 := HP.out m hmm
      have hly := lay_in hF2 hc2' hbF cm hcr.1 (by omega) (by omega) m.wr m.place hm3.1 (by omega)
      have HW := Lib.hid (Went.trans hwk ⟨fun x hx => .inl hx, Only.of_below hbA⟩ : Went [f] F w3 _)
      have HSN : Hid (laysF P0 ((ms.map ML.pl).take (k + 1)) = layF (laysF P0 ((ms.map ML.pl).take k)) m.l m.wr m.place) := by
        show _ = _
        rw [List.take_succ_eq_append_getElem (by rw [List.length_map]; exact hkm), laysF_snoc, List.getElem_map, hm]
        rfl
      clear hFk hcr hF2 hc2' hsk hP1 hP2 hP4 hm3 hwk hown hcb q0 q1 q2 hmv hm
      generalize laysF P0 ((ms.map ML.pl).take k) = P at *
      go_wp2_with (first
        | (refine wpList_load_row rfl 109 _ rfl wr.heap.size rfl _ _ _ _ hLB Tryd.underlying109 rfl (by kernel_rfl) ?_)
        | (go_at_call 63; refine hly.mono ?_; rintro _ w4 ⟨rfl, F', hF4, hw4⟩))
      go_roundg (gk - 1)
      case measure => omega
      case rel => exact ⟨k + 1, F', by omega, by go_num, by rw [HSN.out]; exact hF4, HW.out.trans hw4⟩
    · obtain rfl : k = N := by omega
      have htk : (ms.map ML.pl).take k = ms.map ML.pl := List.take_of_length_le (by rw [List.length_map]; have := HN.out; omega)
      rw [htk] at hFk
      have hpla := laysF_placed (ms.map ML.pl) P0 (by rw [HP0.out]; exact ⟨Int.le_refl _, .inl rfl⟩)
      have hne := hpla.2.1 (.inr (by intro e; exact HNN.out (List.map_eq_nil_iff.1 e)))
      have hne2 := List.length_pos_iff.2 hne
      have hp0 := hpla.1.p0
      have hp1 : (laysF P0 (ms.map ML.pl)).py < ((laysF P0 (ms.map ML.pl)).rows.length : Int) := by have := hpla.1.p1; omega
      have hpos := flowOf_placed rp ((G.past.length : Int) + (y : Int)) (x : Int) cols (by
        intro e2; have h1 := HRL.out; rw [e2] at h1; have := HH.out.r1; simp at h1; omega)
      have hfo : flowOf rp ((G.past.length : Int) + (y : Int)) (x : Int) cols = trimF (laysF P0 (ms.map ML.pl)) := by
        unfold flowOf
        rw [HRL.out, HP0.out]
        rw [HPL.out]
      rw [hfo] at hpos
      have HFO := Lib.hid hfo
      have hcF : (trimF (laysF P0 (ms.map ML.pl))).cols = cols := by rw [← hfo]; exact flowOf_cols _ _ _ _
      have htr := trim_in hFk hp0 hp1
      have HWK := Lib.hid hwk
      clear hFk hpla hne hne2 hp0 hp1 hfo htk hwk
      generalize trimF (laysF P0 (ms.map ML.pl)) = P at *
      go_upto_region 8 with (go_at_call 64; refine htr.mono ?_; rintro _ w4 ⟨rfl, F', hF4, hw4⟩)
      obtain ⟨tvf, ft, ⟨cf, M, nx, px, py⟩, hFA, hpl4, rfl⟩ := hF4
      obtain rfl : cf = cols := by rw [← hcF, ← hpl4]; rfl
      have hMl : P.rows = M.map MR.pl := by rw [← hpl4]; rfl
      have hPx : P.px = px := by rw [← hpl4]; rfl
      have hPy : P.py = py := by rw [← hpl4]; rfl
      obtain ⟨n, hn⟩ : ∃ n, M.length = n := ⟨_, rfl⟩
      have hMn : P.rows.length = n := by rw [hMl, List.length_map, hn]
      rw [hPy, hMn] at hpos
      obtain ⟨F1, hF1⟩ : ∃ F1, firstOf P rows = F1 := ⟨_, rfl⟩
      have hF1e : F1 = min (n - rows) py.toNat := by rw [← hF1]; unfold firstOf; rw [hMn, hPy]
      have hn9 : n ≤ 900000 := by rw [← hn]; exact hFA.r2
      rcases hFA.tab with ⟨_, e, _⟩ | ⟨p, off, c, pre, tail, e1, h2, h3, h4, h5, h6, e2⟩
      · have e' : M = [] := e
        rw [e'] at hn
        simp at hn
        omega
      · have e1' : tvf = slV p (2 * off) n c := by rw [← hn]; exact e1
        clear e1
        subst e1' e2
        have h2' : n ≤ c := by rw [← hn]; exact h2
        have hw34 := HWK.out.trans hw4
        have ho34 := hw34.only
        have hgf : g ≠ f := by omega
        have hGg := HG3.out.blk.only ho34 (by simpa using hgf)
        have f1 : w4.cell? ⟨f, 1, none⟩ = some (.slice (some ⟨p, 2 * off, none⟩) n c) := hFA.blk.cell 1
        have f3 : w4.cell? ⟨f, 3, none⟩ = some (.int .i64 px) := hFA.blk.cell 3
        have f4 : w4.cell? ⟨f, 4, none⟩ = some (.int .i64 py) := hFA.blk.cell 4
        have g0 : w4.cell? ⟨g, 0, none⟩ = some (.int .i64 (G.cols : Int)) := hGg.cell 0
        have g0f := hGg.frozen 0
        have g1 : w4.cell? ⟨g, 1, none⟩ = some (.int .i64 (G.limit : Int)) := hGg.cell 1
        have hlim := HH.out.l2
        have HFA := Lib.hid hFA
        have HF1 := Lib.hid hF1e
        have HF1d := Lib.hid hF1
        have HML := Lib.hid hMl
        have HPX := Lib.hid hPx
        have HPY := Lib.hid hPy
        have HPOS := Lib.hid hpos
        have HMn := Lib.hid hn
        have HGg := Lib.hid hGg
        have H6 := Lib.hid h6
        have HW := Lib.hid hw34
        clear hMl hPx hPy hpl4 hFA hF1e hF1 hpos hn hGg h6 hw34 ho34 hcF htr hw4 hMn
        have j1 : IntKind.i64.wrap ((n : Int) - (rows : Int)) = (n : Int) - (rows : Int) := IntWalk.i64_in _ ⟨by omega, by omega⟩
        go_cut [12] (fun s12 wx => s12 = .int .i64 (F1 : Int) ∧ wx = w4)
        case first =>
          go_wp2_with fail
          all_goals go_meet
          all_goals exact ⟨congrArg (Value.int .i64) (by have := HF1.out; have := HPOS.out; omega), rfl⟩
        case rest =>
          obtain ⟨rfl, rfl⟩ := hcut
          obtain ⟨O1, hO1⟩ : ∃ O1, F1 - G.limit = O1 := ⟨_, rfl⟩
          have HO1 := Lib.hid hO1
          have hF1n : F1 < n := by have := HF1.out; have := HPOS.out; omega
          have hO1F : O1 ≤ F1 := by omega
          clear hO1
          have j2 : IntKind.i64.wrap ((F1 : Int) - (G.limit : Int)) = (F1 : Int) - (G.limit : Int) := IntWalk.i64_in _ ⟨by omega, by omega⟩
          go_upto_region 9 with fail
          go_cut [13] (fun s13 wx => s13 = .int .i64 (O1 : Int) ∧ wx = wc)
          case first =>
            go_wp2_with fail
            all_goals go_meet
            all_goals exact ⟨congrArg (Value.int .i64) (by have := HO1.out; omega), rfl⟩
          case rest =>
            obtain ⟨rfl, rfl⟩ := hcut
            have hwc : w.heap.size ≤ wc.heap.size := by have := (HB3.out).size; have := HW.out.only.size; omega
            have hft : f ≠ p := fun e => HFA.out.apart (by simp [e])
            have hgp : g ≠ p := fun e => by
              have := HW.out.foot p (by simp [footF])
              simp only [List.mem_singleton] at this
              omega
            have hpw : p < wc.heap.size := H6.out.lt
            have HG5 := Lib.hid (HGg.out.set_ 0 (.int .i64 (cf : Int)))
            have H65 := Lib.hid (H6.out.only (F := [g]) ((Only.refl [g] wc).setCell (p := ⟨g, 0, none⟩) (.inl (by simp)) (.int .i64 (cf : Int))) (by simp; exact fun e => hgp e.symm))
            have y1 : (wc.setCell ⟨g, 0, none⟩ (.int .i64 (cf : Int))).cell? ⟨f, 1, none⟩ = some (.slice (some ⟨p, 2 * off, none⟩) n c) := (World.cell?_of_block (Below.heap_setCell wc ⟨g, 0, none⟩ _ f (fun e => hgf e.symm))).trans f1
            have y3 : (wc.setCell ⟨g, 0, none⟩ (.int .i64 (cf : Int))).cell? ⟨f, 3, none⟩ = some (.int .i64 px) := (World.cell?_of_block (Below.heap_setCell wc ⟨g, 0, none⟩ _ f (fun e => hgf e.symm))).trans f3
            have y4 : (wc.setCell ⟨g, 0, none⟩ (.int .i64 (cf : Int))).cell? ⟨f, 4, none⟩ = some (.int .i64 py) := (World.cell?_of_block (Below.heap_setCell wc ⟨g, 0, none⟩ _ f (fun e => hgf e.symm))).trans f4
            have HW5 := Lib.hid ((Only.refl [g] wc).setCell (p := ⟨g, 0, none⟩) (.inl (by simp)) (.int .i64 (cf : Int)))
            have HZ5 : Hid ((wc.setCell ⟨g, 0, none⟩ (.int .i64 (cf : Int))).heap.size = wc.heap.size) := by show _ = _; simp [World.setCell]
            go_upto_region 11 with fail
            clear f1 f3 f4 g1
            generalize wc.setCell ⟨g, 0, none⟩ (.int .i64 (cf : Int)) = V5 at *
            have i2 : (0 : Int) ≤ (O1 : Int) := Int.natCast_nonneg _
            have i3 : (O1 : Int) ≤ (F1 : Int) := by omega
            have i4 : (F1 : Int) ≤ (c : Int) := by omega
            have i5 : (0 : Int) ≤ (F1 : Int) := Int.natCast_nonneg _
            have c1' : ¬ c = O1 := by omega
            have c2' : ¬ c = F1 := by omega
            have i6 : (F1 : Int) ≤ (n : Int) := by omega
            have hcl := cloneRows_any (c := c - O1) H65.out h4 O1 (F1 - O1) (by rw [HMn.out]; omega) (by rw [HMn.out]; omega)
            have z2f := HG5.out.frozen 2
            have z2 : V5.cell? ⟨g, 2, none⟩ = some pv := HG5.out.cell 2
            have hgV := HG5.out.lt
            obtain ⟨k6, hk6⟩ : ∃ k6, ((M.drop O1).take (F1 - O1)).length = k6 := ⟨_, rfl⟩
            have HK6 := Lib.hid hk6
            clear hk6
            go_upto_region 12 with (go_at_call 65; refine hcl.mono ?_; rintro _ w6 ⟨v6, fp6, rfl, ht6, hf6, hb6⟩; obtain ⟨bs6, c6, hv6⟩ := ht6.shape; rw [HK6.out] at hv6; subst hv6; have x2 : w6.cell? ⟨g, 2, none⟩ = some pv := (hb6.cell (p := ⟨g, 2, none⟩) hgV).trans z2; have x2f : w6.frozen? ⟨g, 2, none⟩ = false := (hb6.frozen (p := ⟨g, 2, none⟩) hgV).trans z2f)
            have hz5 : V5.heap.size = wc.heap.size := HZ5.out
            have hb6s := hb6.size
            have HT6 := Lib.hid ht6
            have ho6 : Only [g] w6 (w6.setCell ⟨g, 2, none⟩ (.slice bs6 k6 c6)) := (Only.refl [g] w6).setCell (p := ⟨g, 2, none⟩) (.inl (by simp)) _
            have HO6 := Lib.hid ho6
            have HG6 := Lib.hid ((HG5.out.only (F := []) (Only.of_below hb6) (by simp)).set_ 2 (.slice bs6 k6 c6))
            have h66 := (H65.out.only (F := []) (Only.of_below hb6) (by simp)).only ho6 (by simp; exact fun e => hgp e.symm)
            have hpe : pre ++ rowsL M ++ tail = (pre ++ rowsL (M.take F1)) ++ rowsL (M.drop F1) ++ tail := by
              conv => lhs; rw [← List.take_append_drop F1 M, rowsL_app]
              simp only [List.append_assoc]
            rw [hpe] at h66
            have hfi := filled_rows (c := c - F1) (off := off + F1) h66 (by rw [List.length_append, rowsL_len, List.length_take, h4]; have := HMn.out; omega) cf rows hr1 (by omega) (by omega)
            have hdl : (M.drop F1).length = n - F1 := by rw [List.length_drop, HMn.out]
            rw [hdl, show 2 * (off + F1) = 2 * off + F1 * 2 by omega] at hfi
            have hff : f < V5.heap.size := by rw [hz5]; have := HFA.out.blk.lt; exact this
            have x1 : (w6.setCell ⟨g, 2, none⟩ (.slice bs6 k6 c6)).cell? ⟨f, 1, none⟩ = some (.slice (some ⟨p, 2 * off, none⟩) n c) := (World.cell?_of_block (Below.heap_setCell w6 ⟨g, 2, none⟩ _ f (fun e => hgf e.symm))).trans ((hb6.cell (p := ⟨f, 1, none⟩) hff).trans y1)
            have x3 : (w6.setCell ⟨g, 2, none⟩ (.slice bs6 k6 c6)).cell? ⟨f, 3, none⟩ = some (.int .i64 px) := (World.cell?_of_block (Below.heap_setCell w6 ⟨g, 2, none⟩ _ f (fun e => hgf e.symm))).trans ((hb6.cell (p := ⟨f, 3, none⟩) hff).trans y3)
            have x4 : (w6.setCell ⟨g, 2, none⟩ (.slice bs6 k6 c6)).cell? ⟨f, 4, none⟩ = some (.int .i64 py) := (World.cell?_of_block (Below.heap_setCell w6 ⟨g, 2, none⟩ _ f (fun e => hgf e.symm))).trans ((hb6.cell (p := ⟨f, 4, none⟩) hff).trans y4)
            have hz6 : w6.heap.size ≤ (w6.setCell ⟨g, 2, none⟩ (.slice bs6 k6 c6)).heap.size := ho6.size
            clear x2 x2f y1 y3 y4 ht6 h66 hpe hdl ho6 z2 z2f hcl
            generalize w6.setCell ⟨g, 2, none⟩ (.slice bs6 k6 c6) = V6 at *
            have hgV6 : g < V6.heap.size := by omega
            have a3 : V6.cell? ⟨g, 3, none⟩ = some (.slice (some ⟨s, 0, none⟩) G.scr.length G.scr.length) := HG6.out.cell 3
            have a3f := HG6.out.frozen 3
            have hf6' : f < V6.heap.size := by omega
            go_upto_region 13 with (go_at_call 48; refine hfi.mono ?_; rintro _ w7 ⟨s7, new, rfl, hs7, hnl, hB7, hH7, hK7, hb7⟩; have b3 : w7.cell? ⟨g, 3, none⟩ = some (.slice (some ⟨s, 0, none⟩) G.scr.length G.scr.length) := (hb7.cell (p := ⟨g, 3, none⟩) hgV6).trans a3; have b3f : w7.frozen? ⟨g, 3, none⟩ = false := (hb7.frozen (p := ⟨g, 3, none⟩) hgV6).trans a3f)
            have ho7 : Only [g] w7 (w7.setCell ⟨g, 3, none⟩ (.slice (some ⟨s7, 0, none⟩) rows rows)) := (Only.refl [g] w7).setCell (p := ⟨g, 3, none⟩) (.inl (by simp)) _
            have hb7s := hb7.size
            have HG7 := Lib.hid ((HG6.out.only (F := []) (Only.of_below hb7) (by simp)).set_ 3 (.slice (some ⟨s7, 0, none⟩) rows rows))
            have t3 : (w7.setCell ⟨g, 3, none⟩ (.slice (some ⟨s7, 0, none⟩) rows rows)).cell? ⟨f, 3, none⟩ = some (.int .i64 px) := (World.cell?_of_block (Below.heap_setCell w7 ⟨g, 3, none⟩ _ f (fun e => hgf e.symm))).trans ((hb7.cell (p := ⟨f, 3, none⟩) hf6').trans x3)
            have t4 : (w7.setCell ⟨g, 3, none⟩ (.slice (some ⟨s7, 0, none⟩) rows rows)).cell? ⟨f, 4, none⟩ = some (.int .i64 py) := (World.cell?_of_block (Below.heap_setCell w7 ⟨g, 3, none⟩ _ f (fun e => hgf e.symm))).trans ((hb7.cell (p := ⟨f, 4, none⟩) hf6').trans x4)
            have hs7l := hB7.lt
            have hgs7 : g ≠ s7 := by omega
            have HB7 := Lib.hid (hB7.only ho7 (by simp; exact fun e => hgs7 e.symm))
            have HH7 := Lib.hid (hH7.only ho7 (fun m hm => by have := (hK7 m hm).2.2; simp; omega))
            have HK7 := Lib.hid hK7
            have hz7 : (w7.setCell ⟨g, 3, none⟩ (.slice (some ⟨s7, 0, none⟩) rows rows)).heap.size = w7.heap.size := by simp [World.setCell]
            have HZ7 := Lib.hid hz7
            have HO7 := Lib.hid ho7
            have HNL := Lib.hid hnl
            -- all that was turned since the lines were made
            have hoA : Only [g, f] w3 V5 := (HW.out.only.mono (G := [g, f]) (by simp)).trans (HW5.out.mono (by simp))
            have hoB : Only [g, f] w3 V6 := (hoA.trans (Only.of_below hb6)).trans (HO6.out.mono (by simp))
            have hoC := Lib.hid ((hoB.trans (Only.of_below hb7)).trans (ho7.mono (G := [g, f]) (by simp)))
            have HRw := Lib.hid (HR3.out.only hoC.out (by simp; omega))
            clear hz7 hnl hK7 hH7 hB7 x1 x3 x4 b3 b3f a3 a3f ho7 hoA hoB hfi
            generalize w7.setCell ⟨g, 3, none⟩ (.slice (some ⟨s7, 0, none⟩) rows rows) = V7 at *
            have q8 : V7.cell? ⟨w.heap.size + 1, 0, none⟩ = some (.int .i64 0) := HRw.out.cell 0
            have q9 : V7.cell? ⟨w.heap.size + 1, 1, none⟩ = some (.int .i64 0) := HRw.out.cell 1
            have q8f := HRw.out.frozen 0
            have q9f := HRw.out.frozen 1
            have j9 : IntKind.i64.wrap (py - (F1 : Int)) = py - (F1 : Int) := IntWalk.i64_in _ (by have := HPOS.out; exact ⟨by omega, by omega⟩)
            have hR8 := (HRw.out.set_ 0 (.int .i64 px)).set_ 1 (.int .i64 (py - (F1 : Int)))
            have ho8 : Only [w.heap.size + 1] V7 ((V7.setCell ⟨w.heap.size + 1, 0, none⟩ (.int .i64 px)).setCell ⟨w.heap.size + 1, 1, none⟩ (.int .i64 (py - (F1 : Int)))) := ((Only.refl [w.heap.size + 1] V7).setCell (p := ⟨w.heap.size + 1, 0, none⟩) (.inl (by simp)) _).setCell (p := ⟨w.heap.size + 1, 1, none⟩) (.inl (by simp)) _
            have HR8 := Lib.hid hR8
            have FIN : Hid (Reflowed w g G rp x y cf rows (.returned (.agg #[.int .i64 px, .int .i64 (py - (F1 : Int))])) ((V7.setCell ⟨w.heap.size + 1, 0, none⟩ (.int .i64 px)).setCell ⟨w.heap.size + 1, 1, none⟩ (.int .i64 (py - (F1 : Int))))) := by
              have hz7 := HZ7.out
              have hwss := HB3.out.size
              have hw3c := HW.out.only.size
              have hMlen := HMn.out
              have hold : ∀ m ∈ M, m.b < wc.heap.size ∧ (m.b = f ∨ w3.heap.size ≤ m.b) := fun m hm => by
                refine ⟨HFA.out.held.lt hm, ?_⟩
                have h9 := HW.out.foot m.b (by unfold footF; exact List.mem_cons_of_mem _ (List.mem_append_right _ (List.mem_map_of_mem hm)))
                simpa using h9
              have hnewb : ∀ m ∈ new, s7 < m.b := fun m hm => by have := (HK7.out m hm).2.2; omega
              have hsub : ((M.drop O1).take (F1 - O1) ++ (M.drop F1).take rows).Sublist M := by
                have h9 : M.drop F1 = (M.drop O1).drop (F1 - O1) := by rw [List.drop_drop, show O1 + (F1 - O1) = F1 by omega]
                have h10 : ((M.drop O1).take (F1 - O1) ++ M.drop F1).Sublist M := by
                  rw [h9, List.take_append_drop]; exact List.drop_sublist _ _
                exact ((List.Sublist.refl _).append (List.take_sublist _ _)).trans h10
              have hcase : ∀ m ∈ (M.drop O1).take (F1 - O1) ++ ((M.drop F1).take rows ++ new), m ∈ M ∨ m ∈ new := fun m hm => by
                rw [← List.append_assoc] at hm
                rcases List.mem_append.1 hm with hm | hm
                · exact .inl (hsub.subset hm)
                · exact .inr hm
              have hCf := hoC.out
              have hfp6 : ∀ z ∈ fp6, wc.heap.size ≤ z ∧ z < s7 := fun z hz => by
                have h9 := hf6 z hz
                have h10 := HT6.out.lt z hz
                omega
              have hlenS : ((M.drop F1).take rows ++ new).length = rows := by
                rw [List.length_append, List.length_take, HNL.out, List.length_drop]; omega
              have hd6 : ∀ m ∈ M, m.b ≠ g ∧ m.b ≠ w.heap.size + 1 := fun m hm => by
                have h9 := (hold m hm).2; omega
              have hR7 : w.heap.size + 1 < w3.heap.size := by omega
              have hMat : ∀ m ∈ M, CellsAt ((V7.setCell ⟨w.heap.size + 1, 0, none⟩ (.int .i64 px)).setCell ⟨w.heap.size + 1, 1, none⟩ (.int .i64 (py - (F1 : Int)))) m.b m.l m.cap := fun m hm => by
                have h9 := (HFA.out.held.at_ m hm).only HW5.out (by simpa using (hd6 m hm).1)
                have h10 := ((h9.only (F := []) (Only.of_below hb6) (by simp)).only HO6.out (by simpa using (hd6 m hm).1)).only (F := []) (Only.of_below hb7) (by simp)
                exact (h10.only HO7.out (by simpa using (hd6 m hm).1)).only ho8 (by simpa using (hd6 m hm).2)
              have hg6 : g ∉ fp6 := fun e => by have := (hfp6 g e).1; omega
              have hR6 : w.heap.size + 1 ∉ fp6 := fun e => by have := (hfp6 _ e).1; omega
              have hs6 : s7 ∉ fp6 := fun e => by have := (hfp6 _ e).2; omega
              have hn6 : fp6.Nodup := by
                rcases HT6.out with ⟨_, _, e⟩ | ⟨_, _, _, _, _, _, _, _, _, _, _, e⟩
                · rw [e]; exact List.nodup_nil
                · rw [e]; simp
              have hT8 : TabAt ((V7.setCell ⟨w.heap.size + 1, 0, none⟩ (.int .i64 px)).setCell ⟨w.heap.size + 1, 1, none⟩ (.int .i64 (py - (F1 : Int)))) (.slice bs6 k6 c6) ((M.drop O1).take (F1 - O1)) fp6 :=
                (((HT6.out.only HO6.out (fun z hz => by simp; rintro rfl; exact hg6 hz)).fresh (Only.of_below hb7)).only HO7.out (fun z hz => by simp; rintro rfl; exact hg6 hz)).only ho8 (fun z hz => by simp; rintro rfl; exact hR6 hz)
              have hfarM : ∀ m ∈ (M.drop O1).take (F1 - O1) ++ ((M.drop F1).take rows ++ new), m.b ≠ g ∧ m.b ≠ s7 ∧ m.b ∉ fp6 ∧ w.heap.size ≤ m.b := fun m hm => by
                rcases hcase m hm with hm | hm
                · have h9 := hold m hm
                  exact ⟨(hd6 m hm).1, by omega, fun e => by have := (hfp6 _ e).1; omega, by omega⟩
                · have h9 := hnewb m hm
                  exact ⟨by omega, by omega, fun e => by have := (hfp6 _ e).2; omega, by omega⟩
              refine ⟨P, s7, .slice bs6 k6 c6, fp6, (M.drop O1).take (F1 - O1), (M.drop F1).take rows ++ new, HFO.out.symm, ?_, ⟨?_, ?_, ?_, ⟨?_, ?_⟩, ?_, ?_, ?_, hc1, hc2, ?_, ?_, HH.out.l2, ?_⟩, ?_, ?_, ?_, ?_⟩
              · rw [HPX.out, HPY.out, HF1d.out]
              · show BL _ g _ [_, _, _, slV s7 0 ((M.drop F1).take rows ++ new).length ((M.drop F1).take rows ++ new).length]
                rw [hlenS]
                exact HG7.out.only ho8 (by simp; omega)
              · exact hT8
              · exact HB7.out.only ho8 (by simp; omega)
              · intro m hm
                rcases hcase m hm with hm | hm
                · exact hMat m hm
                · exact (HH7.out.at_ m hm).only ho8 (by have := hnewb m hm; simp; omega)
              · show (((M.drop O1).take (F1 - O1) ++ ((M.drop F1).take rows ++ new)).map MR.b).Nodup
                rw [← List.append_assoc, List.map_append, List.nodup_append]
                refine ⟨HFA.out.held.apart.sublist (hsub.map _), HH7.out.apart, fun a ha b hb e => ?_⟩
                obtain ⟨m, hm, rfl⟩ := List.mem_map.1 ha
                obtain ⟨m', hm', rfl⟩ := List.mem_map.1 hb
                have h9 := (hold m (hsub.subset hm)).1
                have h10 := hnewb m' hm'
                omega
              · simp only [List.nodup_cons, List.mem_cons, not_or]
                exact ⟨⟨hgs7, hg6⟩, hs6, hn6⟩
              · intro m hm
                have h9 := hfarM m hm
                simp only [List.mem_cons, not_or]
                exact ⟨h9.1, h9.2.1, h9.2.2.1⟩
              · intro m hm
                rcases hcase m hm with hm | hm
                · exact HFA.out.cells m hm
                · rw [(HK7.out m hm).1]; exact List.length_replicate
              · show 1 ≤ ((M.drop F1).take rows ++ new).length
                rw [hlenS]; exact hr1
              · show ((M.drop F1).take rows ++ new).length ≤ 120
                rw [hlenS]; exact hr2
              · show ((M.drop O1).take (F1 - O1)).length ≤ G.limit
                have h9 := HO1.out
                rw [List.length_take, List.length_drop]; omega
              · rw [HF1d.out, HO1.out, HML.out, List.drop_take, List.map_take, List.map_drop]
              · rw [HF1d.out, HML.out]
                unfold filledR
                rw [List.map_append, List.map_take, List.map_drop, List.append_cancel_left_eq]
                refine List.eq_replicate_iff.2 ⟨?_, fun r hr => ?_⟩
                · rw [List.length_map, HNL.out, List.length_drop, List.length_map, HMn.out]
                · obtain ⟨m, hm, rfl⟩ := List.mem_map.1 hr
                  have h9 := HK7.out m hm
                  show (m.l, m.wr) = _
                  rw [h9.1, h9.2.1]
              · intro z hz
                unfold foot at hz
                simp only [List.mem_append, List.mem_cons, List.mem_map] at hz
                rcases hz with (rfl | rfl | hz) | ⟨m, hm, rfl⟩
                · exact .inl rfl
                · exact .inr (by omega)
                · exact .inr (by have := (hfp6 z hz).1; omega)
                · exact .inr (hfarM m (by simpa using hm)).2.2.2
              · refine ((Only.of_below (F := [g]) HB3.out).trans2 hCf (fun z hz => ?_)).trans2 ho8 (fun z hz => ?_)
                · simp only [List.mem_cons, List.not_mem_nil, or_false] at hz
                  rcases hz with rfl | rfl
                  · exact .inl (by simp)
                  · exact .inr (by omega)
                · rw [List.mem_singleton] at hz
                  exact .inr (by omega)
            clear hR8 ho8
            go_wp2_with fail
            exact bodyPost_ret (v := .agg #[.int .i64 px, .int .i64 (py - (F1 : Int))]) (results_cell (p := 8) (by kernel_rfl) _ _ (w.heap.size + 1) _ _ _ _ rfl HR8.out Tryd.underlying44 rfl (by kernel_rfl)) rfl FIN.out
end Go.Proofs.YtgjlohplgpcghaaDoor.Grd
/- Another size, rows laid anew. -/
namespace Go.Proofs.YtgjlohplgpcghaaDoor.Grd
open Go.RowKit

/-- A result that lies in memory, and one that doesn't. -/
theorem results_cell_tmp {P : Program} {fn : Func} {p q : Tmp} {ty : TypeId} (h : fn.results = #[.cell p ty, .tmp q]) (tmps : Array Value) (w : World) (g : Nat) (t : TypeId) (cs : Array Value) (fr : Nat × Nat) (d : TypeDesc)
    (hp : tmps.getD p undef = .pointer (some ⟨g, 0, none⟩)) (hg : w.heap[g]? = some (.cells cs t fr))
    (hu : P.underlying ty = some d) (hd : (match d with | .struct _ | .array _ _ => true | _ => false) = true) (hi : (P.info? ty).map (·.size) = some cs.size) :
    (results fn tmps).run P w = .ok (.tuple #[.agg cs, tmps.getD q undef]) w := by
  have hp' : tmps[p]?.getD undef = .pointer (some ⟨g, 0, none⟩) := by simpa using hp
  simp [results, h, hp', asAddr, run_loadVar_row w g t ty cs fr d hg hu hd hi]
/-- The number from 0 on, below a size, that is nearest. -/
def clampZ (n : Int) (size : Nat) : Nat := (max (min n ((size : Int) - 1)) 0).toNat
theorem clampZ_lt (n : Int) {size : Nat} (h : 1 ≤ size) : clampZ n size < size := by unfold clampZ; omega
set_option maxRecDepth 100000 in
theorem within_gen (n : Int) (size : Nat) (h1 : 1 ≤ size) (hs : size ≤ 1000000) (w : World) :
    Calls Tryd.prog 45 #[.int .i64 n, .int .i64 (size : Int)] w fun e w' => e = .returned (.int .i64 (clampZ n size : Int)) ∧ w = w' := by
  obtain ⟨k, hk⟩ : ∃ k, clampZ n size = k := ⟨_, rfl⟩
  have HK : Hid ((k : Int) = max (min n ((size : Int) - 1)) 0) := by show _ = _; rw [← hk]; unfold clampZ; omega
  rw [hk]
  clear hk
  have j1 : IntKind.i64.wrap ((size : Int) - 1) = (size : Int) - 1 := IntWalk.i64_in _ ⟨by omega, by omega⟩
  go_enter Tryd.func45, Tryd.ntmps45
  go_wp2
  all_goals
    go_ret
    exact ⟨congrArg Ending.returned (congrArg (Value.int .i64) (by have := HK.out; omega)), rfl⟩

def Resized (w : World) (g : Nat) (G : GS) (rp : List Ro) (x y : Nat) (cols rows : Nat) (e : Ending) (w' : World) : Prop :=
  ∃ v, e = .returned (.tuple #[v, .int .i64 0]) ∧ Reflowed w g G rp x y cols rows (.returned v) w'
theorem Resized.intro {w w' : World} {g : Nat} {G : GS} {rp : List Ro} {x y : Nat} {cols rows : Nat} {v : Value} (h : Reflowed w g G rp x y cols rows (.returned v) w') : Resized w g G rp x y cols rows (.returned (.tuple #[v, .int .i64 0])) w' := ⟨v, rfl, h⟩
theorem Reflowed.val {w w' : World} {g : Nat} {G : GS} {rp : List Ro} {x y cols rows : Nat} {e : Ending} (h : Reflowed w g G rp x y cols rows e w') : ∃ a b : Int, e = .returned (.agg #[.int .i64 a, .int .i64 b]) := by
  obtain ⟨P, s', pv', fp', past', scr', h1, h2, _⟩ := h
  exact ⟨_, _, h2⟩
theorem Reflowed.frame {w w' : World} {g : Nat} {G : GS} {rp : List Ro} {x y cols rows : Nat} {e : Ending} (h : Reflowed w g G rp x y cols rows e w') : Only [g] w w' := by
  obtain ⟨P, s', pv', fp', past', scr', h1, h2, h3, h4, h5, h6, h7⟩ := h
  exact h7
/-- Seen from a world ahead, in a world behind that lets the grid be. -/
theorem Reflowed.far {w W V V' : World} {g : Nat} {G : GS} {rp : List Ro} {x y cols rows : Nat} {e : Ending} {F : List Nat} (h : Reflowed W g G rp x y cols rows e V) (hw : Only [] w W) (ho : Only F V V') (hF : ∀ z ∈ F, w.heap.size ≤ z ∧ z < W.heap.size ∧ z ≠ g) : Reflowed w g G rp x y cols rows e V' := by
  obtain ⟨P, s', pv', fp', past', scr', h1, h2, h3, h4, h5, h6, h7⟩ := h
  refine ⟨P, s', pv', fp', past', scr', h1, h2, h3.only ho (fun z hz e => ?_), h4, h5, fun z hz => ?_, ?_⟩
  · have h8 := hF z e
    rcases h6 z hz with h9 | h9
    · exact h8.2.2 h9
    · omega
  · rcases h6 z hz with h9 | h9
    · exact .inl h9
    · have := hw.size; exact .inr (by omega)
  · exact ((hw.mono (G := [g]) (by simp)).trans h7).trans2 ho (fun z hz => .inr (hF z hz).1)

set_option maxRecDepth 100000 in
set_option maxHeartbeats 2000000 in
theorem resize_flow {w : World} {g s : Nat} {pv : Value} {fp : List Nat} {G : GS} (h : GridAt w g s pv fp G) (cols rows : Nat) (X Y : Int) (hc1 : 1 ≤ cols) (hc2 : cols ≤ 250) (hr1 : 1 ≤ rows) (hr2 : rows ≤ 120) (hsz : (G.past.length + G.scr.length) * G.cols ≤ 400000) :
    Calls Tryd.prog 18 #[.pointer (some ⟨g, 0, none⟩), .int .i64 (cols : Int), .int .i64 (rows : Int), .agg #[.int .i64 X, .int .i64 Y], .bool true] w fun e w' => Resized w g G ((G.past ++ G.scr).map MR.pl) (clampZ X G.cols) (clampZ Y G.scr.length) cols rows e w' := by
  have hA := (BL.new w 44 [.int .i64 X, .int .i64 Y]).alloc (.cells #[.int .i64 0, .int .i64 0] 44)
  have hR := BL.new (w.alloc (.cells #[.int .i64 X, .int .i64 Y] 44)) 44 [.int .i64 0, .int .i64 0]
  have hb0 : Below w.heap.size w ((w.alloc (.cells #[.int .i64 X, .int .i64 Y] 44)).alloc (.cells #[.int .i64 0, .int .i64 0] 44)) := ((Below.refl _ _).alloc (Nat.le_refl _) _).alloc (by simp) _
  rw [size_alloc] at hR
  have hz0 : ((w.alloc (.cells #[.int .i64 X, .int .i64 Y] 44)).alloc (.cells #[.int .i64 0, .int .i64 0] 44)).heap.size = w.heap.size + 1 + 1 := by rw [size_alloc, size_alloc]
  have HZ0 := Lib.hid hz0
  have HA := Lib.hid hA
  have HR := Lib.hid hR
  have HB := Lib.hid hb0
  have HH := Lib.hid h
  have hgl := h.blk.lt
  have hsi := fun W => isSize_any (cols : Int) (rows : Int) true (by simp; omega) W
  have hw1 := fun W => within_gen X G.cols h.c1 (by have := h.c2; omega) W
  have hw2 := fun W => within_gen Y G.scr.length h.r1 (by have := h.r2; omega) W
  have hx1 : clampZ X G.cols ≤ 250 := by have := clampZ_lt X h.c1; have := h.c2; omega
  have hy1 : clampZ Y G.scr.length ≤ 120 := by have := clampZ_lt Y h.r1; have := h.r2; omega
  have g0 : w.cell? ⟨g, 0, none⟩ = some (.int .i64 (G.cols : Int)) := h.f0
  have g3 : w.cell? ⟨g, 3, none⟩ = some (.slice (some ⟨s, 0, none⟩) G.scr.length G.scr.length) := h.f3
  obtain ⟨rp, hrp⟩ : ∃ rp, (G.past ++ G.scr).map MR.pl = rp := ⟨_, rfl⟩
  have HRP := Lib.hid hrp
  rw [hrp]
  generalize clampZ X G.cols = x at *
  generalize clampZ Y G.scr.length = y at *
  have hfl := fun W (hW : Only [] w W) => reflow_any (w := W) (HH.out.only hW (by simp)) cols rows x y hc1 hc2 hr1 hr2 hx1 hy1 hsz
  rw [hrp] at hfl
  clear h hA hR hb0 hz0 hrp hsz
  go_enter Tryd.func18, Tryd.ntmps18
  go_upto_region 3 with (go_at_call 44; refine (hsi _).mono ?_; rintro _ w1 ⟨rfl, rfl⟩)
  have hz := HZ0.out
  have hA := HA.out
  have hR := HR.out
  have hB := HB.out
  clear HA HR HB HZ0
  generalize (w.alloc (.cells #[.int .i64 X, .int .i64 Y] 44)).alloc (.cells #[.int .i64 0, .int .i64 0] 44) = W at *
  have HZ := Lib.hid hz
  have HA := Lib.hid hA
  have HR := Lib.hid hR
  have HB := Lib.hid hB
  have k0 : W.cell? ⟨g, 0, none⟩ = some (.int .i64 (G.cols : Int)) := (hB.cell (p := ⟨g, 0, none⟩) hgl).trans g0
  have k3 : W.cell? ⟨g, 3, none⟩ = some (.slice (some ⟨s, 0, none⟩) G.scr.length G.scr.length) := (hB.cell (p := ⟨g, 3, none⟩) hgl).trans g3
  clear hz hA hR hB g0 g3
  have hgA : g ≠ w.heap.size := by omega
  go_cut [] (fun wx => BL wx w.heap.size 44 [.int .i64 (x : Int), .int .i64 Y] ∧ Only [w.heap.size] W wx)
  case first =>
    have a0 : W.drew.cell? ⟨w.heap.size, 0, none⟩ = some (.int .i64 X) := HA.out.cell 0
    have a0f : W.drew.frozen? ⟨w.heap.size, 0, none⟩ = false := HA.out.frozen 0
    have k0' : W.drew.cell? ⟨g, 0, none⟩ = some (.int .i64 (G.cols : Int)) := k0
    have HS := Lib.hid (HA.out.set_ 0 (.int .i64 (x : Int)))
    have HO := Lib.hid ((Only.refl [w.heap.size] W).setCell (p := ⟨w.heap.size, 0, none⟩) (.inl (by simp)) (.int .i64 (x : Int)))
    go_region_with (go_at_call 45; refine (hw1 _).mono ?_; rintro _ w1 ⟨rfl, rfl⟩)
    all_goals go_wp2_with fail
    all_goals go_meet
    all_goals exact ⟨HS.out, HO.out.drew⟩
  case rest =>
    obtain ⟨hA1, ho1⟩ := hcut
    have l3 : wc.drew.cell? ⟨g, 3, none⟩ = some (.slice (some ⟨s, 0, none⟩) G.scr.length G.scr.length) := (World.cell?_of_block (ho1.block g (by have := HZ.out; omega) (by simpa using hgA))).trans k3
    go_upto_region 4 with fail
    go_cut [] (fun wx => BL wx w.heap.size 44 [.int .i64 (x : Int), .int .i64 (y : Int)] ∧ Only [w.heap.size] W wx)
    case first =>
      have a1 : wc.drew.cell? ⟨w.heap.size, 1, none⟩ = some (.int .i64 Y) := hA1.cell 1
      have a1f : wc.drew.frozen? ⟨w.heap.size, 1, none⟩ = false := hA1.frozen 1
      have HS := Lib.hid (hA1.set_ 1 (.int .i64 (y : Int)))
      have HO := Lib.hid (ho1.setCell (p := ⟨w.heap.size, 1, none⟩) (.inl (by simp)) (.int .i64 (y : Int)))
      clear hA1 ho1
      go_region_with (go_at_call 45; refine (hw2 _).mono ?_; rintro _ w1 ⟨rfl, rfl⟩)
      all_goals go_wp2_with fail
      all_goals go_meet
      all_goals exact ⟨HS.out, HO.out.drew⟩
    case rest =>
      obtain ⟨hA2, ho2⟩ := hcut
      have hAR : w.heap.size ≠ w.heap.size + 1 := by omega
      have HR2 := Lib.hid (HR.out.only ho2 (by simp))
      have hbw := Only.of_below (F := []) HB.out
      have hww : Only [] w wc := hbw.trans2 ho2 (fun z hz => by rw [List.mem_singleton] at hz; exact .inr (by omega))
      have hf2 := hfl _ hww
      have hz2 := ho2.size
      go_wp2_with (first
        | (refine wpList_load_row rfl 44 _ rfl w.heap.size rfl _ _ _ _ hA2 Tryd.underlying44 rfl (by kernel_rfl) ?_)
        | (go_at_call 46; refine hf2.mono ?_; rintro e5 w5 hr5; obtain ⟨va, vb, rfl⟩ := hr5.val; have HR5 := Lib.hid (HR2.out.only hr5.frame (by simp; omega)); have r0 : w5.cell? ⟨w.heap.size + 1, 0, none⟩ = some (.int .i64 0) := HR5.out.cell 0; have r1 : w5.cell? ⟨w.heap.size + 1, 1, none⟩ = some (.int .i64 0) := HR5.out.cell 1; have r0f := HR5.out.frozen 0; have r1f := HR5.out.frozen 1))
      have hR6 := (HR5.out.set_ 0 (.int .i64 va)).set_ 1 (.int .i64 vb)
      have ho6 : Only [w.heap.size + 1] w5 ((w5.setCell ⟨w.heap.size + 1, 0, none⟩ (.int .i64 va)).setCell ⟨w.heap.size + 1, 1, none⟩ (.int .i64 vb)) := ((Only.refl [w.heap.size + 1] w5).setCell (p := ⟨w.heap.size + 1, 0, none⟩) (.inl (by simp)) _).setCell (p := ⟨w.heap.size + 1, 1, none⟩) (.inl (by simp)) _
      have hfin := hr5.far hww ho6 (fun z hz => by rw [List.mem_singleton] at hz; have := HZ.out; omega)
      have HR6 := Lib.hid hR6
      exact bodyPost_ret (v := .tuple #[.agg #[.int .i64 va, .int .i64 vb], .int .i64 0]) (results_cell_tmp (p := 10) (q := 11) (by kernel_rfl) _ _ (w.heap.size + 1) _ _ _ _ rfl HR6.out Tryd.underlying44 rfl (by kernel_rfl)) rfl (Resized.intro hfin)
end Go.Proofs.YtgjlohplgpcghaaDoor.Grd
