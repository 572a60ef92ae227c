/- A grid's rows as lines: the walk. -/
import Derived.Test.YtgjlohplgpcghaaDoorGlm
namespace Go.Proofs.YtgjlohplgpcghaaDoor.Grd
open Go.RowKit

/-- What lines leaves. -/
def Lined (w : World) (G : GS) (x y : Nat) (e : Ending) (w' : World) : Prop :=
  ∃ base tv ms, e = .returned tv ∧ LinesAt w' base tv ms ∧ w.heap.size ≤ base ∧ (∀ m ∈ ms, m.l ≠ []) ∧ ms.map ML.pl = (linesN ((G.past ++ G.scr).map MR.pl) ((G.past.length : Int) + (y : Int)) (x : Int) (G.past.length + G.scr.length)).1 ∧ Below w.heap.size w w'
theorem Lined.intro {w : World} {G : GS} {x y : Nat} {w' : World} {tv : Value} (base : Nat) (ms : List ML) (h1 : LinesAt w' base tv ms) (h2 : w.heap.size ≤ base) (h3 : ∀ m ∈ ms, m.l ≠ []) (h4 : ms.map ML.pl = (linesN ((G.past ++ G.scr).map MR.pl) ((G.past.length : Int) + (y : Int)) (x : Int) (G.past.length + G.scr.length)).1) (h5 : Below w.heap.size w w') : Lined w G x y (.returned tv) w' :=
  ⟨base, tv, ms, rfl, h1, h2, h3, h4, h5⟩
theorem flat_ne {l : List Ce} (h : l ≠ []) : 0 < l.length := List.length_pos_iff.2 h
/-- A line with cells has a block of them. -/
theorem own_some {w : World} {base n : Nat} {v : Value} {l : List Ce} (h : w.ownsRow base 35 5 v n (flat l)) (hl : l ≠ []) : v.ownBlock ≠ none := by
  obtain ⟨h1, ⟨rfl, rfl⟩ | ⟨g, cap, cur, rfl, _⟩⟩ := h
  · rw [flat_len] at h1
    have := flat_ne hl
    omega
  · intro e; cases e
theorem own_shape {w : World} {base k n : Nat} {t : TypeId} {v : Value} {xs : List Value} (h : w.ownsRow base t k v n xs) : ∃ bs c, v = .slice bs n c := by
  obtain ⟨h1, ⟨rfl, rfl⟩ | ⟨g, cap, cur, rfl, _⟩⟩ := h
  · exact ⟨none, 0, rfl⟩
  · exact ⟨_, cap, rfl⟩

theorem own_ne {w : World} {base k n r : Nat} {t t' : TypeId} {v : Value} {xs ys : List Value} (h : w.ownsRow base t k v n xs) (hr : BL w r t' ys) (hne : t ≠ t') : v.ownBlock ≠ some r := by
  obtain ⟨h1, ⟨rfl, _⟩ | ⟨g, cap, cur, rfl, h3, h4, _⟩⟩ := h
  · intro e; cases e
  · intro e
    simp only [Value.ownBlock, Option.some.injEq] at e
    subst e
    unfold BL at hr
    rw [h4] at hr
    simp only [Option.some.injEq, Obj.cells.injEq] at hr
    exact hne hr.2.1
theorem getD_pl {l : List MR} {k : Nat} (h : k < l.length) : (l.map MR.pl).getD k default = (l[k].l, l[k].wr) := by simp [h, MR.pl]
theorem le_sum_mem : ∀ (l : List Nat) (x : Nat), x ∈ l → x ≤ l.sum
  | [], x, h => by cases h
  | a :: l, x, h => by
    rw [List.sum_cons]
    rcases List.mem_cons.1 h with rfl | h
    · omega
    · have := le_sum_mem l x h; omega
theorem ml_some {w : World} {base : Nat} {tv : Value} {ms : List ML} (h : LinesAt w base tv ms) (h0 : ms ≠ []) : ∃ R m gt ct, ms = R ++ [m] ∧ tv = slV gt 0 (R.length + 1) ct := by
  refine ⟨ms.dropLast, ms.getLast h0, ?_⟩
  have e := (List.dropLast_concat_getLast h0).symm
  have hl := congrArg List.length e
  rw [List.length_append, List.length_singleton] at hl
  obtain ⟨h1, ⟨rfl, h2⟩ | ⟨g, cap, cur, rfl, _⟩⟩ := h.tab
  · omega
  · exact ⟨g, cap, e, by rw [hl]⟩

set_option maxRecDepth 100000 in
set_option maxHeartbeats 2000000 in
theorem lines_any {w : World} {g s : Nat} {pv : Value} {fp : List Nat} {G : GS} (h : GridAt w g s pv fp G) (x y : Nat) (hx : x ≤ 250) (hy : y ≤ 120) (hsz : (G.past.length + G.scr.length) * G.cols ≤ 400000) :
    Calls Tryd.prog 62 #[.pointer (some ⟨g, 0, none⟩), .agg #[.int .i64 (x : Int), .int .i64 (y : Int)]] w fun e w' => Lined w G x y e w' := by
  obtain ⟨bs, cp, rfl⟩ := h.tab.shape
  have hA := BL.new w 44 [.int .i64 (x : Int), .int .i64 (y : Int)]
  have hb0 : Below w.heap.size w (w.alloc (.cells #[.int .i64 (x : Int), .int .i64 (y : Int)] 44)) := (Below.refl _ _).alloc (Nat.le_refl _) _
  have hz0 : (w.alloc (.cells #[.int .i64 (x : Int), .int .i64 (y : Int)] 44)).heap.size = w.heap.size + 1 := size_alloc _ _
  have HZ0 := Lib.hid hz0
  clear hz0
  have h0 := h.below hb0
  have g2 := h0.f2
  have g3 := h0.f3
  have hr1 := h.r1
  have hr2 := h.r2
  have hp2 : G.past.length ≤ 2000 := Nat.le_trans h.p2 h.l2
  have hgl := h.blk.lt
  have HG := Lib.hid h0
  have HH := Lib.hid h
  obtain ⟨pl, hpl⟩ : ∃ pl, G.past.length = pl := ⟨_, rfl⟩
  obtain ⟨sl, hsl⟩ : ∃ sl, G.scr.length = sl := ⟨_, rfl⟩
  have HPL := Lib.hid hpl
  have HSL := Lib.hid hsl
  rw [hpl] at g2 hsz hp2
  rw [hsl] at g3 hsz hr1 hr2
  have HSZ := Lib.hid hsz
  clear h h0 hpl hsl hsz
  go_enter Tryd.func62, Tryd.ntmps62
  go_wp2_with fail
  go_cut [19, 20, 21] (fun s19 s20 s21 wx => ∃ p c tail, s19 = .slice (some ⟨p, 0, none⟩) (pl + sl) c ∧ s20 = .int .i64 ((pl : Int) + (sl : Int)) ∧ s21 = .int .i64 0 ∧ BL wx p 73 (rowsL (G.past ++ G.scr) ++ tail) ∧ w.heap.size < p ∧ Below (w.heap.size + 1) (w.alloc (.cells #[.int .i64 (x : Int), .int .i64 (y : Int)] 44)) wx)
  case first =>
    generalize w.alloc (.cells #[.int .i64 (x : Int), .int .i64 (y : Int)] 44) = W at *
    have x2 : W.drew.cell? ⟨g, 2, none⟩ = some (.slice bs pl cp) := g2
    have x3 : W.drew.cell? ⟨g, 3, none⟩ = some (.slice (some ⟨s, 0, none⟩) sl sl) := g3
    have hcc : ∀ V, Only [] W V → ∀ q, BL V q 68 [.slice bs pl cp, .slice (some ⟨s, 0, none⟩) sl sl] → Calls Tryd.prog 76 #[.slice (some ⟨q, 0, none⟩) 2 2] V fun e w' => ∃ p c tail, e = .returned (.slice (some ⟨p, 0, none⟩) (pl + sl) c) ∧ BL w' p 73 (rowsL (G.past ++ G.scr) ++ tail) ∧ V.heap.size ≤ p ∧ Below V.heap.size V w' := fun V hV q hq => by
      have ht := HG.out.tab.fresh hV
      have hs := HG.out.scr.only hV (by simp)
      have := concat_any (w := V) (q := q) (s := s) (pv := .slice bs G.past.length cp) (past := G.past) (scr := G.scr) (fp := fp) (by rw [HPL.out, HSL.out]; exact hq) ht hs (by rw [HSL.out]; exact hr1) (by rw [HPL.out, HSL.out]; omega)
      rw [HPL.out, HSL.out] at this
      exact this
    clear g2 g3
    go_region_with (go_at_call 76; refine (hcc _ (by with_reducible first | exact (Only.refl _ _).drew.alloc _ | exact ((Only.refl _ _).alloc _).drew) _ (by with_reducible first | exact BL.new _ _ [.slice bs pl cp, .slice (some ⟨s, 0, none⟩) sl sl] | exact (BL.new _ _ [.slice bs pl cp, .slice (some ⟨s, 0, none⟩) sl sl]).drew)).mono ?_; rintro _ w1 ⟨p, c, tail, rfl, hB1, hp1, hb1⟩)
    all_goals go_wp2_with fail
    all_goals go_meet
    all_goals
      have hbV := ((Below.refl W.heap.size W).alloc (Nat.le_refl _) (.cells #[.slice bs pl cp, .slice (some ⟨s, 0, none⟩) sl sl] 68)).drew
      have hbW := hbV.trans (hb1.mono hbV.size)
      have hpV := Nat.le_trans hbV.size hp1
      have hz := HZ0.out
      rw [hz] at hbW hpV
      exact ⟨p, c, tail, rfl, rfl, rfl, hB1, by omega, hbW⟩
  case rest =>
    obtain ⟨p, c, tail, rfl, rfl, rfl, hB, hpw, hb1⟩ := hcut
    have hA1 : BL wc w.heap.size 44 [.int .i64 (x : Int), .int .i64 (y : Int)] := hA.keep (hb1.block _ (Nat.lt_succ_self _))
    have hbw : Below w.heap.size w wc := hb0.trans (hb1.mono (Nat.le_succ _))
    have hGw := HH.out.below hbw
    have hAl := hA1.lt
    have hpl := hB.lt
    have hgl2 := hGw.blk.lt
    have HA := Lib.hid hA1
    have HB := Lib.hid hB
    have HGW := Lib.hid hGw
    have HBW := Lib.hid hbw
    have hws := hbw.size
    clear hA1 hB hGw hbw hb1 HG HZ0 g2 g3 hA hb0
    generalize wc = W at *
    obtain ⟨rp, hrp⟩ : ∃ rp, (G.past ++ G.scr).map MR.pl = rp := ⟨_, rfl⟩
    have HRP := Lib.hid hrp
    clear hrp
    go_wp2_with fail
    go_loopg [5, 6, 21] (pl + sl) (fun gk v5 v6 v21 wr => ∃ (k : Nat) (on : Bool) (ms : List ML), k + gk = pl + sl ∧ v21 = .int .i64 (k : Int) ∧ v6 = .bool on ∧ LinesAt wr W.heap.size v5 ms ∧ (∀ m ∈ ms, m.l ≠ []) ∧ Hid (ms.map ML.pl = (linesN rp ((pl : Int) + (y : Int)) (x : Int) k).1 ∧ on = (linesN rp ((pl : Int) + (y : Int)) (x : Int) k).2) ∧ Below W.heap.size W wr)
    case atStart => exact ⟨0, false, [], by omega, rfl, rfl, LinesAt.nil _ _, (fun _ h => by cases h), ⟨rfl, rfl⟩, Below.refl _ _⟩
    case round =>
      obtain ⟨k, on, ms, hkg, rfl, rfl, hL, hfull, hP, hb⟩ := hrel
      by_cases hlt : k < pl + sl
      · have hkr : k < (G.past ++ G.scr).length := by rw [List.length_append, HPL.out, HSL.out]; exact hlt
        obtain ⟨q0, q1⟩ := tab_row (pre := []) (off := 0) (tail := tail) (show BL W p 73 ([] ++ rowsL (G.past ++ G.scr) ++ tail) from HB.out) rfl hkr
        rw [Nat.mul_zero, Nat.zero_add] at q0 q1
        have hcm := HGW.out.held.at_ _ (List.getElem_mem hkr)
        have hml := HGW.out.cells _ (List.getElem_mem hkr)
        have hms : rp.getD k default = ((G.past ++ G.scr)[k].l, (G.past ++ G.scr)[k].wr) := by rw [← HRP.out]; exact getD_pl hkr
        have HBL : Hid (∀ m ∈ ms, m.l.length ≤ 400000) := fun m hm => by
          have h1 := linesN_sum rp ((pl : Int) + (y : Int)) (x : Int) G.cols (fun r hr => by
            rw [← HRP.out] at hr
            obtain ⟨q, hq, rfl⟩ := List.mem_map.1 hr
            exact HGW.out.cells q hq) k (by rw [← HRP.out, List.length_map]; exact Nat.le_of_lt hkr)
          rw [← hP.out.1, List.map_map] at h1
          have h2 := le_sum_mem _ m.l.length (List.mem_map.2 ⟨m, hm, rfl⟩ : m.l.length ∈ ms.map ((fun m => m.l.length) ∘ ML.pl))
          have h3 : k * G.cols ≤ (pl + sl) * G.cols := Nat.mul_le_mul_right _ (Nat.le_of_lt hlt)
          have h4 := HSZ.out
          omega
        have HOB : Hid (∀ q ∈ openL (linesN rp ((pl : Int) + (y : Int)) (x : Int) k), q.l.length ≤ 400000) := fun q hq => by
          unfold openL at hq
          rw [← hP.out.2, ← hP.out.1] at hq
          have hmp : ∀ q ∈ ms.map ML.pl, q.l.length ≤ 400000 := fun q hq => by
            obtain ⟨m, hm, rfl⟩ := List.mem_map.1 hq
            exact HBL.out m hm
          split at hq
          · exact hmp q hq
          · rcases List.mem_append.1 hq with hq | hq
            · exact hmp q hq
            · rw [List.mem_singleton] at hq; rw [hq]; exact Nat.zero_le _
        obtain ⟨m, hm⟩ : ∃ m, (G.past ++ G.scr)[k] = m := ⟨_, rfl⟩
        rw [hm] at q0 q1 hcm hml hms
        have HMS := Lib.hid hms
        have hm0 : 0 < m.l.length := by rw [hml]; exact HGW.out.c1
        have hm1 : m.l.length ≤ 250 := by rw [hml]; exact HGW.out.c2
        have HML := Lib.hid hml
        have r0 : wr.cell? ⟨p, k * 2, none⟩ = some (.slice (some ⟨m.b, 0, none⟩) m.l.length m.cap) := (hb.cell (p := ⟨p, k * 2, none⟩) hpl).trans q0
        have r1 : wr.cell? ⟨p, k * 2 + 1, none⟩ = some (.bool m.wr) := (hb.cell (p := ⟨p, k * 2 + 1, none⟩) hpl).trans q1
        have hbs := hb.size
        have HLen : ms.length ≤ k := by
          have h1 := congrArg List.length hP.out.1
          rw [List.length_map] at h1
          rw [h1]
          exact linesN_len _ _ _ _
        have hfb : ∀ q ∈ ms, q.v.ownBlock ≠ none := fun q hq => own_some (hL.own q hq) (hfull q hq)
        have HL := Lib.hid hL
        have HC := Lib.hid hcm
        have i0 : (0 : Int) ≤ (k : Int) := Int.natCast_nonneg _
        have i1 : (k : Int) < (pl : Int) + (sl : Int) := by omega
        clear hm hms hml hcm q0 q1 hL
        go_upto_if 27 with fail
        go_cut [5] (fun s5 wx => ∃ R m0 gt ct, s5 = .slice (some ⟨gt, 0, none⟩) (R.length + 1) ct ∧ LinesAt wx W.heap.size (slV gt 0 (R.length + 1) ct) (R ++ [m0]) ∧ (∀ q ∈ R, q.l ≠ []) ∧ Hid ((R ++ [m0]).map ML.pl = openL (linesN rp ((pl : Int) + (y : Int)) (x : Int) k)) ∧ Below wr.heap.size wr wr ∧ Below W.heap.size W wx ∧ BL wx wr.heap.size 73 [.slice (some ⟨m.b, 0, none⟩) m.l.length m.cap, .bool m.wr] ∧ R.length ≤ k)
        case first =>
          have hbx : Below W.heap.size W (wr.alloc (.cells #[.slice (some ⟨m.b, 0, none⟩) m.l.length m.cap, .bool m.wr] 73)) := hb.alloc hbs _
          have hL2 := HL.out.below (w' := wr.alloc (.cells #[.slice (some ⟨m.b, 0, none⟩) m.l.length m.cap, .bool m.wr] 73)) ((Below.refl _ _).alloc (Nat.le_refl _) _)
          have hR := BL.new wr 73 [.slice (some ⟨m.b, 0, none⟩) m.l.length m.cap, .bool m.wr]
          have hz2 : wr.heap.size < (wr.alloc (.cells #[.slice (some ⟨m.b, 0, none⟩) m.l.length m.cap, .bool m.wr] 73)).heap.size := by rw [size_alloc]; exact Nat.lt_succ_self _
          generalize wr.alloc (.cells #[.slice (some ⟨m.b, 0, none⟩) m.l.length m.cap, .bool m.wr] 73) = V at *
          cases on with
          | true =>
            have hop : openL (linesN rp ((pl : Int) + (y : Int)) (x : Int) k) = ms.map ML.pl := by
              unfold openL
              rw [← hP.out.2, if_pos rfl]
              exact hP.out.1.symm
            have hne : ms ≠ [] := fun e => by
              have h1 := linesN_on rp ((pl : Int) + (y : Int)) (x : Int) k hP.out.2.symm
              rw [← hP.out.1, e] at h1
              exact h1 rfl
            obtain ⟨R, m0, gt, ct, rfl, rfl⟩ := ml_some hL2 hne
            have HLx := Lib.hid hL2
            have HR := Lib.hid hR
            clear hL2 hR
            go_wp2_with fail
            go_meet
            exact ⟨R, m0, gt, ct, rfl, HLx.out, fun q hq => hfull q (by simp [hq]), hop.symm, Below.refl _ _, hbx, HR.out, by rw [List.length_append] at HLen; simp at HLen; omega⟩
          | false =>
            have hop : openL (linesN rp ((pl : Int) + (y : Int)) (x : Int) k) = ms.map ML.pl ++ [⟨[], false, -1⟩] := by
              unfold openL
              rw [← hP.out.2, if_neg (by simp), hP.out.1]
            have HOP := Lib.hid hop
            have HR := Lib.hid hR
            have hVs := hbx.size
            have HLx := Lib.hid (hL2.below (w' := V.alloc (.cells #[.slice none 0 0, .bool false, .int .i64 (-1)] 109)) ((Below.refl _ _).alloc (Nat.le_refl _) _))
            clear hop hR hL2
            go_wp2_with (at_builtin; refine wpList_append_line rfl (.tmp 28) (.tmp 30) rfl W.heap.size _ ms rfl HLx.out hfb V.heap.size _ rfl (BL.new V _ [.slice none 0 0, .bool false, .int .i64 (-1)]) (by omega) (by rw [size_alloc]; omega) ?_; intro gt ct w3 hL3 hg3)
            go_meet
            have hgo : ∀ q, u5.ownBlock = some q → W.heap.size ≤ q ∧ q < wr.heap.size := fun q hq => own_ge HL.out.tab q hq
            have hb3 := (hbx.alloc hVs (.cells #[.slice none 0 0, .bool false, .int .i64 (-1)] 109)).grown hg3 (by rw [size_alloc]; omega) (fun q hq => (hgo q hq).1)
            have hR3 : BL w3 wr.heap.size 73 [.slice (some ⟨m.b, 0, none⟩) m.l.length m.cap, .bool m.wr] := (HR.out.alloc _).keep (hg3.block _ (by rw [size_alloc]; omega) (fun e => by have := (hgo _ e.symm).2; omega))
            exact ⟨ms, _, gt, ct, rfl, hL3, hfull, by show _ = _; rw [List.map_append]; exact HOP.out.symm, Below.refl _ _, hb3, hR3, HLen⟩
        case rest =>
          obtain ⟨R, m0, gt, ct, rfl, hL3, hRf, hP3, _, hbx, hR, hRk⟩ := hcut
          obtain ⟨l0, l1, l2, lf, lgt, lgs⟩ := hL3.last
          obtain ⟨bs0, c0, hv0⟩ := own_shape (hL3.own m0 (by simp))
          rw [hv0] at l0
          have HV0 := Lib.hid hv0
          have HL3 := Lib.hid hL3
          have HR := Lib.hid hR
          have hbxs := hbx.size
          have a0 : wc.cell? ⟨w.heap.size, 0, none⟩ = some (.int .i64 (x : Int)) := (hbx.cell (p := ⟨w.heap.size, 0, none⟩) hAl).trans (HA.out.cell 0)
          have a1 : wc.drew.cell? ⟨w.heap.size, 1, none⟩ = some (.int .i64 (y : Int)) := (hbx.cell (p := ⟨w.heap.size, 1, none⟩) hAl).trans (HA.out.cell 1)
          have x2 : wc.drew.cell? ⟨g, 2, none⟩ = some (.slice bs pl cp) := (hbx.cell (p := ⟨g, 2, none⟩) hgl2).trans (by have := HGW.out.f2; rw [HPL.out] at this; exact this)
          have i2 : IntKind.i64.wrap (R.length : Int) = (R.length : Int) := IntWalk.i64_in _ ⟨by omega, by omega⟩
          have i3 : IntKind.i64.wrap ((R.length : Int) + 1 - 1) = (R.length : Int) := by rw [show (R.length : Int) + 1 - 1 = (R.length : Int) by omega]; exact i2
          have i4 : (0 : Int) ≤ (R.length : Int) := Int.natCast_nonneg _
          have i5 : (R.length : Int) < (R.length : Int) + 1 := by omega
          have i6 : IntKind.i64.wrap ((pl : Int) + (y : Int)) = (pl : Int) + (y : Int) := IntWalk.i64_in _ ⟨by omega, by omega⟩
          clear hv0 hL3 hR r0 r1 HL
          go_wp2_with fail
          go_region
          go_upto_if 46 with fail
          go_cut [] (fun wx => ∃ pc, LinesAt wx W.heap.size (slV gt 0 (R.length + 1) ct) (R ++ [{ m0 with place := pc }]) ∧ Hid (pc = if (k : Int) = (pl : Int) + (y : Int) then (m0.l.length : Int) + (x : Int) else m0.place) ∧ Below W.heap.size W wx ∧ BL wx wr.heap.size 73 [.slice (some ⟨m.b, 0, none⟩) m.l.length m.cap, .bool m.wr])
          case first =>
            have hlen0 : m0.l.length ≤ 400000 := HOB.out m0.pl (by rw [← hP3.out]; simp)
            have hgtr : gt ≠ wr.heap.size := fun e => own_ne HL3.out.tab HR.out (by decide) (by rw [e]; rfl)
            by_cases hky : k = pl + y
            · subst hky
              have y0 : wc.drew.drew.cell? ⟨gt, R.length * 3, none⟩ = some (.slice bs0 m0.l.length c0) := l0
              have y2 : wc.drew.drew.cell? ⟨gt, R.length * 3 + 2, none⟩ = some (.int .i64 m0.place) := l2
              have y3 : wc.drew.drew.frozen? ⟨gt, R.length * 3 + 2, none⟩ = false := lf _
              have ya : wc.drew.drew.cell? ⟨w.heap.size, 0, none⟩ = some (.int .i64 (x : Int)) := a0
              have i7 : IntKind.i64.wrap ((m0.l.length : Int) + (x : Int)) = (m0.l.length : Int) + (x : Int) := IntWalk.i64_in _ ⟨by omega, by omega⟩
              go_wp2_with fail
              go_region
              all_goals go_wp2_with fail
              all_goals go_meet
              have hLt := HL3.out.turn (m' := { m0 with place := (m0.l.length : Int) + (x : Int) }) 2 (.int .i64 ((m0.l.length : Int) + (x : Int))) (by omega) rfl rfl rfl
              refine ⟨_, hLt.below ((Below.refl _ _).drew.drew), ?_, (hbx.setCell (p := ⟨gt, R.length * 3 + 2, none⟩) lgt _).drew.drew, HR.out.keep (Below.heap_setCell wc ⟨gt, R.length * 3 + 2, none⟩ _ wr.heap.size (fun e => hgtr e.symm))⟩
              show _ = _
              rw [if_pos (by omega)]
            · have hkn : ((k : Int) == (pl : Int) + (y : Int)) = false := by simp; omega
              have hkn2 : ¬ (k : Int) = (pl : Int) + (y : Int) := by omega
              clear hky
              go_wp2_with fail
              go_meet
              refine ⟨m0.place, HL3.out.below ((Below.refl _ _).drew), ?_, hbx.drew, HR.out⟩
              show _ = _
              rw [if_neg hkn2]
          case rest =>
            obtain ⟨pc, hL4, hpc, hb4, hR4⟩ := hcut
            have hm1 : ({ m0 with place := pc } : ML) = ⟨.slice bs0 m0.l.length c0, m0.l, m0.wr, pc⟩ := by rw [← HV0.out]
            have hlen0 : m0.l.length ≤ 400000 := HOB.out m0.pl (by rw [← hP3.out]; simp)
            rw [hm1] at hL4
            have hL4d : LinesAt wc.drew W.heap.size (slV gt 0 (R.length + 1) ct) (R ++ [⟨.slice bs0 m0.l.length c0, m0.l, m0.wr, pc⟩]) := hL4.below ((Below.refl _ _).drew)
            have hown4 : wc.drew.ownsRow W.heap.size 35 5 (.slice bs0 m0.l.length c0) m0.l.length (flat m0.l) := hL4d.own ⟨.slice bs0 m0.l.length c0, m0.l, m0.wr, pc⟩ (by simp)
            have hcm4 : CellsAt wc.drew m.b m.l m.cap := HC.out.only (F := []) (Only.of_below hb4.drew) (by simp)
            obtain ⟨k0, _, _, _, kgt, _⟩ := hL4d.last
            have r0 : wc.drew.cell? ⟨wr.heap.size, 0, none⟩ = some (.slice (some ⟨m.b, 0, none⟩) m.l.length m.cap) := hR4.cell 0
            have hR4d : BL wc.drew wr.heap.size 73 [.slice (some ⟨m.b, 0, none⟩) m.l.length m.cap, .bool m.wr] := hR4
            have hrl := hR4d.lt
            have hgtr : gt ≠ wr.heap.size := fun e => own_ne hL4d.tab hR4d (by decide) (by rw [e]; rfl)
            have hbr : (Value.slice bs0 m0.l.length c0).ownBlock ≠ some wr.heap.size := own_ne hown4 hR4d (by decide)
            have hb4s := hb4.size
            have HO := Lib.hid hown4
            have HCM := Lib.hid hcm4
            have HL4 := Lib.hid hL4d
            have HR4 := Lib.hid hR4d
            have hge4 : W.heap.size ≤ wc.drew.heap.size := hb4.drew.size
            have hcap1 : m0.l.length + m.l.length ≤ 1000000 := by omega
            clear hL4 hL4d hown4 hcm4 hR4 hR4d hm1 l0 l1 l2 lf a0 a1 x2 hbx lgt lgs
            obtain ⟨L, hLd⟩ : ∃ L, m0.l ++ m.l = L := ⟨_, rfl⟩
            have HLD := Lib.hid hLd
            clear hLd
            go_wp2_with fail
            go_region_law (refine step_append_cells rfl (.tmp 62) (.tmp 64) rfl W.heap.size (.slice bs0 m0.l.length c0) m0.l rfl HO.out m.b m.cap m.cap m.l rfl HCM.out hm0 hcap1 hge4 ?_; intro gb cb w5 hown5 hgb5 hg5; rw [HLD.out] at hown5 ⊢; obtain ⟨hL5, lf5, ls5⟩ := HL4.out.longer (m := ⟨.slice bs0 m0.l.length c0, m0.l, m0.wr, pc⟩) hg5 hown5 hgb5; obtain ⟨vv, hvv⟩ := Option.isSome_iff_exists.1 ls5; have z1 := lf5 (R.length * 3))
            all_goals
              have hHo := own_ge HO.out
              have hb5 := (hb4.drew.grown hg5 hge4 (fun q hq => (hHo q hq).1)).setCell (p := ⟨gt, R.length * 3, none⟩) kgt (slV gb 0 L.length cb)
              have hR5 : BL (w5.setCell ⟨gt, R.length * 3, none⟩ (slV gb 0 L.length cb)) wr.heap.size 73 [.slice (some ⟨m.b, 0, none⟩) m.l.length m.cap, .bool m.wr] :=
                (HR4.out.keep (hg5.block _ hrl (fun e => hbr e.symm))).keep (Below.heap_setCell w5 ⟨gt, R.length * 3, none⟩ _ wr.heap.size (fun e => hgtr e.symm))
              have HL5 := Lib.hid hL5
              obtain ⟨_, t1, _, tf, _, _⟩ := hL5.last
              have tf1 := tf (R.length * 3 + 1)
              have v1 : (w5.setCell ⟨gt, R.length * 3, none⟩ (slV gb 0 L.length cb)).cell? ⟨wr.heap.size, 1, none⟩ = some (.bool m.wr) := hR5.cell 1
              have HB5 := Lib.hid hb5
              have HR5 := Lib.hid hR5
              clear hL5 hR5 hb5 hown5 hg5 lf5 hvv z1 r0 k0 kgt HL4 HO HCM HR4
              generalize w5.setCell ⟨gt, R.length * 3, none⟩ (slV gb 0 L.length cb) = V at *
              have hL6 := HL5.out.turn (m' := ⟨slV gb 0 L.length cb, L, m.wr, pc⟩) 1 (.bool m.wr) (by omega) rfl rfl rfl
              have HL6 := Lib.hid hL6
              have hgV := HL5.out.last.2.2.2.2.1
              have HB6 := Lib.hid (HB5.out.setCell (p := ⟨gt, R.length * 3 + 1, none⟩) hgV (.bool m.wr))
              have v2 : (V.setCell ⟨gt, R.length * 3 + 1, none⟩ (.bool m.wr)).cell? ⟨wr.heap.size, 1, none⟩ = some (.bool m.wr) := (World.cell?_of_block (Below.heap_setCell V ⟨gt, R.length * 3 + 1, none⟩ _ wr.heap.size (fun e => hgtr e.symm))).trans v1
              clear hL6
              go_wp2_with fail
              have HPF : Hid ((R ++ [(⟨slV gb 0 L.length cb, L, m.wr, pc⟩ : ML)]).map ML.pl = (linesN rp ((pl : Int) + (y : Int)) (x : Int) (k + 1)).1 ∧ m.wr = (linesN rp ((pl : Int) + (y : Int)) (x : Int) (k + 1)).2) := by
                refine ⟨?_, ?_⟩
                · show _ = setLastL (openL _) _
                  rw [← hP3.out, List.map_append, List.map_append]
                  show R.map ML.pl ++ [⟨L, m.wr, pc⟩] = setLastL (R.map ML.pl ++ [m0.pl]) _
                  rw [setLastL_snoc, HMS.out, hpc.out, ← HLD.out]
                  rfl
                · show _ = (rp.getD k default).2
                  rw [HMS.out]
              go_roundg (gk - 1)
              case measure => omega
              case rel =>
                refine ⟨k + 1, m.wr, _, by omega, by go_num, rfl, HL6.out, ?_, HPF.out, HB6.out⟩
                intro q hq
                rcases List.mem_append.1 hq with hq | hq
                · exact hRf q hq
                · rw [List.mem_singleton] at hq
                  rw [hq]
                  intro e
                  have := congrArg List.length e
                  rw [show (⟨slV gb 0 L.length cb, L, m.wr, pc⟩ : ML).l = L from rfl, ← HLD.out] at this
                  simp only [List.length_append, List.length_nil] at this
                  omega
      · have hk : k = pl + sl := by omega
        have HP : Hid (ms.map ML.pl = (linesN ((G.past ++ G.scr).map MR.pl) ((G.past.length : Int) + (y : Int)) (x : Int) (G.past.length + G.scr.length)).1) := by
          show _ = _
          rw [HRP.out, HPL.out, HSL.out, ← hk]
          exact hP.out.1
        have HL := Lib.hid hL
        have hge : ¬ ((k : Int) < (pl : Int) + (sl : Int)) := by omega
        clear hk hL
        go_wp2_with fail
        go_ret
        exact Lined.intro W.heap.size ms HL.out hws hfull HP.out (HBW.out.trans (hb.mono hws))
end Go.Proofs.YtgjlohplgpcghaaDoor.Grd
/- Part of a table, copied; lines laid one behind the other. -/
namespace Go.Proofs.YtgjlohplgpcghaaDoor.Grd
open Go.RowKit

/-- Rows of a table, read where they lie. -/
theorem tab_part {w : World} {p off : Nat} {pre tail : List Value} {ms : List MR} (hB : BL w p 73 (pre ++ rowsL ms ++ tail)) (hpre : pre.length = 2 * off) (a k : Nat) (j : Nat) (u : Value) (hj : (rowsL ((ms.drop a).take k))[j]? = some u) : w.cell? ((⟨p, 2 * off + a * 2, none⟩ : Addr).add j) = some u := by
  rw [rowsL_take, rowsL_drop, List.getElem?_take] at hj
  split at hj
  · rw [List.getElem?_drop] at hj
    rw [Addr.add_mid, hB.cell, List.append_assoc, List.getElem?_append_right (by omega), hpre, show 2 * off + a * 2 + j - 2 * off = 2 * a + j by omega, List.getElem?_append_left (List.getElem?_eq_some_iff.1 hj).1]
    exact hj
  · cases hj

def ClonedRows (w : World) (ms : List MR) (e : Ending) (w' : World) : Prop := ∃ v fp, e = .returned v ∧ TabAt w' v ms fp ∧ (∀ x ∈ fp, w.heap.size ≤ x) ∧ Below w.heap.size w w'
theorem ClonedRows.intro {w w' : World} {ms : List MR} {v : Value} (fp : List Nat) (h1 : TabAt w' v ms fp) (h2 : ∀ x ∈ fp, w.heap.size ≤ x) (h3 : Below w.heap.size w w') : ClonedRows w ms (.returned v) w' := ⟨v, fp, rfl, h1, h2, h3⟩
set_option maxRecDepth 100000 in
set_option maxHeartbeats 1000000 in
theorem cloneRows_any {w : World} {p off c : Nat} {pre tail : List Value} {ms : List MR} (hB : BL w p 73 (pre ++ rowsL ms ++ tail)) (hpre : pre.length = 2 * off) (a k : Nat) (hak : a + k ≤ ms.length) (hl : ms.length ≤ 1000000) :
    Calls Tryd.prog 65 #[.slice (some ⟨p, 2 * off + a * 2, none⟩) k c] w fun e w' => ClonedRows w ((ms.drop a).take k) e w' := by
  have he : ∀ w : World, (binOp .eql 68 (.slice (some ⟨p, 2 * off + a * 2, none⟩) k c) (.slice none 0 0)).run Tryd.prog w = .ok (.bool false) w := fun _ => rfl
  have hpl := hB.lt
  have hE := BL.new w 73 []
  have hb : Below w.heap.size w (w.alloc (.cells #[] 73)) := (Below.refl _ _).alloc (Nat.le_refl _) _
  have hB2 := hB.alloc (.cells #[] 73)
  have hT : TabAt (w.alloc (.cells #[] 73)) (.slice (some ⟨w.heap.size, 0, none⟩) 0 0) [] [w.heap.size] := .inr ⟨w.heap.size, 0, 0, [], [], rfl, Nat.le_refl _, Nat.zero_le _, rfl, by simp, hE, rfl⟩
  have hkl : ((ms.drop a).take k).length = k := by rw [List.length_take, List.length_drop]; omega
  by_cases hk : k = 0
  · subst hk
    have hi := info_row
    cases hq : Tryd.prog.info? 73 with
    | none => rw [hq] at hi; cases hi
    | some i =>
      rw [hq] at hi
      simp only [Option.map_some, Option.some.injEq, Prod.mk.injEq] at hi
      obtain ⟨hz, hsz, hby⟩ := hi
      have hs : Src Tryd.prog i.size 68 (.slice (some ⟨p, 2 * off + a * 2, none⟩) 0 c) 0 [] (w.alloc (.cells #[] 73)) := Src.ofSlice _ Tryd.underlying68 _ 0 c [] (by simp) (fun j u hj => by cases hj) (fun u hu => by cases hu)
      have hr := run_append_room_src (P := Tryd.prog) (w.alloc (.cells #[] 73)) 68 68 68 73 i Tryd.underlying68 hq w.heap.size 0 0 0 _ 0 [] hs (Nat.le_refl _) (fun j hj => by cases hj) (fun j hj => by cases hj)
      have hr2 : (Builtin.append_ #[68, 68] 68 #[.slice (some ⟨w.heap.size, 0, none⟩) 0 0, .slice (some ⟨p, 2 * off + a * 2, none⟩) 0 c]).run Tryd.prog (w.alloc (.cells #[] 73)) = .ok (.slice (some ⟨w.heap.size, 0, none⟩) 0 0) (w.alloc (.cells #[] 73)) := by
        have h9 := hr
        simp only [World.setCells, Nat.add_zero] at h9
        exact h9
      have HT := Lib.hid hT
      have HR := Lib.hid hr2
      clear hT hE hB2 hs hr hr2 hz hsz hby
      go_enter Tryd.func65, Tryd.ntmps65
      go_wp2_with (at_builtin; refine Lib.wpList_append_run _ rfl (.tmp 5) (.tmp 6) 68 68 rfl (.slice (some ⟨w.heap.size, 0, none⟩) 0 0) (.slice (some ⟨p, 2 * off + a * 2, none⟩) 0 c) rfl rfl _ _ HR.out ?_)
      go_ret
      rw [List.take_zero]
      exact ClonedRows.intro [w.heap.size] HT.out (fun x hx => by rw [List.mem_singleton] at hx; omega) hb
  · have hnews : ∀ j u, (rowsL ((ms.drop a).take k))[j]? = some u → (w.alloc (.cells #[] 73)).cell? ((⟨p, 2 * off + a * 2, none⟩ : Addr).add j) = some u := fun j u hj => tab_part hB2 hpre a k j u hj
    obtain ⟨new, hnew⟩ : ∃ new, (ms.drop a).take k = new := ⟨_, rfl⟩
    rw [hnew] at hkl hnews ⊢
    have hk0 : 0 < new.length := by omega
    have HKL := Lib.hid hkl
    have HT := Lib.hid hT
    clear hnew hE hB2 hT
    subst hkl
    clear hk
    go_enter Tryd.func65, Tryd.ntmps65
    go_wp2_with (at_builtin; refine wpList_append_rows rfl (.tmp 5) (.tmp 6) rfl _ [] [w.heap.size] rfl HT.out ⟨p, 2 * off + a * 2, none⟩ c new rfl hk0 hnews (by simp; omega) ?_; intro v1 w1 fp1 ht1 hf1 ho1; rw [List.nil_append] at ht1)
    go_ret
    exact ClonedRows.intro fp1 ht1 (fun x hx => by rcases hf1 x hx with h | h; rw [List.mem_singleton] at h; omega; rw [size_alloc] at h; omega) (hb.trans (ho1.below (by rw [size_alloc]; omega) (by simp)))

theorem laysF_snoc (P : PF) (ls : List PL) (m : PL) : laysF P (ls ++ [m]) = layF (laysF P ls) m.l m.wr m.place := by
  unfold laysF
  rw [List.foldl_append]
  rfl
/-- Where the place of a line is. -/
theorem linesN_place (rows : List Ro) (tgt x : Int) (hx : 0 ≤ x) : ∀ n, ∀ m ∈ (linesN rows tgt x n).1, -1 ≤ m.place ∧ m.place ≤ (m.l.length : Int) + x
  | 0 => fun _ h => by cases h
  | n + 1 => by
    have ih := linesN_place rows tgt x hx n
    have h1 : ∀ m ∈ openL (linesN rows tgt x n), -1 ≤ m.place ∧ m.place ≤ (m.l.length : Int) + x := by
      unfold openL
      split
      · exact ih
      · intro m hm
        rcases List.mem_append.1 hm with hm | hm
        · exact ih m hm
        · rw [List.mem_singleton] at hm; rw [hm]; simp; omega
    show ∀ m ∈ setLastL _ _, _
    generalize openL (linesN rows tgt x n) = rs at *
    rcases List.eq_nil_or_concat rs with rfl | ⟨rs, r, rfl⟩
    · intro m hm; cases hm
    · rw [List.concat_eq_append] at h1 ⊢
      rw [setLastL_snoc]
      intro m hm
      rcases List.mem_append.1 hm with hm | hm
      · exact h1 m (by simp [hm])
      · rw [List.mem_singleton] at hm
        rw [hm]
        have h2 := h1 r (by simp)
        simp only [List.length_append]
        split <;> omega
end Go.Proofs.YtgjlohplgpcghaaDoor.Grd
