/- The chapter's put walked. -/
import Derived.Test.YthmadnadaakjaaaGreatDoorPOru
namespace Go.Proofs.YthmadnadaakjaaaGreatDoor.Opt.Ev
open Go.RowKit Go.Maps Go.Proofs.YthmadnadaakjaaaGreatDoor.Opt

theorem step_app_var {ops : Array Oper} {o : Oper} {a : Act} {w : World} {K : Act → World → Prop} {Q : Exit → Act → World → Prop} {E : Prop} (hgd : o.guard = none) (s x : Operand) (ho : o.op = .call { callee := .builtin .append, args := #[s, x], argTypes := #[118, 118] })
    (v : Value) (es : List En) (y : En) (hs : a.eval s = v) (hown : w.ownsRow 0 126 3 v es.length (varC es)) (g c : Nat) (hx : a.eval x = .slice (some ⟨g, 0, none⟩) 1 c) (hg : BL w g 126 (varL y)) (hn : es.length ≤ 1000)
    (h : ∀ A c' w', w'.ownsRow 0 126 3 (.slice A (es.length + 1) c') (es ++ [y]).length (varC (es ++ [y])) → w.grownBy w' v.ownBlock → ((Value.slice A (es.length + 1) c').ownBlock = v.ownBlock ∨ (Value.slice A (es.length + 1) c').ownBlock = some w.heap.size) → K (a.put o.dst (.slice A (es.length + 1) c')) w') :
    if Region.wanted o (yielded ops a.tmps) = true then Oper.wp Tryz.prog o a w K Q else E := by
  have hw : Region.wanted o (yielded ops a.tmps) = true := by simp [Region.wanted, hgd]
  rw [if_pos hw]
  obtain ⟨i0, hi0, hz0, hz1, hz2⟩ := info_parts info_var
  obtain ⟨v', w', hr, h2, h3, h4, h5⟩ := run_append_own_at (P := Tryz.prog) w 0 118 o.type 126 i0 _ 3 40 Tryz.underlying118 hi0 hz0 hz1 hz2 rfl (by decide) v es.length (varC es) hown ⟨g, 0, none⟩ 1 c (varL y) (by rw [varL_len])
    (fun j u hj => by rw [Addr.add_mid, Nat.zero_add, hg.cell j]; exact hj) (varL_one y) (by unfold maxLen; omega) (by omega) (Nat.zero_le _)
  obtain ⟨A, c', rfl⟩ := own_slice h2
  unfold Oper.wp execOp
  simp only [ho, resolve, invoke, builtin, Sem.run_bind, Sem.run_pure, Result.andThen_ok, List.map_toArray, List.map_cons, List.map_nil, hs, hx, hr]
  refine h A c' w' ?_ h3 h5
  rw [varC_app, List.length_append]
  exact h2
theorem app_done {w wr w3 : World} {b : Nat} {q A A' : Option Addr} {c c' : Nat} {es : List En} {x : En} (hb : b < w.heap.size) (hE : BL wr b 120 [.pointer q, .slice A es.length c]) (hO : Only (rfoot b (.slice A es.length c)) w wr) (o : Obj) (hne : (Value.slice A es.length c).ownBlock ≠ some b)
    (h1 : w3.ownsRow 0 126 3 (.slice A' (es.length + 1) c') (es ++ [x]).length (varC (es ++ [x]))) (h2 : (wr.alloc o).drew.grownBy w3 (Value.slice A es.length c).ownBlock) (h3 : (Value.slice A' (es.length + 1) c').ownBlock = (Value.slice A es.length c).ownBlock ∨ (Value.slice A' (es.length + 1) c').ownBlock = some (wr.alloc o).drew.heap.size) :
    RLeft w (w3.setCell ⟨b, 1, none⟩ (.slice A' (es.length + 1) c')) b q (.slice A es.length c) (es ++ [x]) := by
  have hbr := BL.lt hE
  have hE3 : BL w3 b 120 [.pointer q, .slice A es.length c] := (hE.alloc o).keep (h2.block b (BL.lt (hE.alloc o)) (fun e => hne e.symm))
  have hsz : (wr.alloc o).drew.heap.size = wr.heap.size + 1 := size_alloc _ _
  have hO3 : Only (rfoot b (.slice A es.length c)) w w3 := by
    refine (hO.alloc o).drew.trans ⟨h2.os, h2.tape, h2.output, h2.size, fun k hk hn => h2.block k hk (fun e => hn (mem_rfoot.2 (.inr e.symm)))⟩
  have hne3 : (Value.slice A' (es.length + 1) c').ownBlock ≠ some b := by
    rcases h3 with h3 | h3
    · rw [h3]; exact hne
    · rw [h3, hsz]; intro e; have := Option.some.inj e; omega
  refine ⟨_, ⟨hE3.set_ 1 _, ?_⟩, hO3.setCell (.inl (mem_rfoot.2 (.inl rfl))) _, ?_⟩
  · refine own_only h1 (G := [b]) ((Only.refl [b] w3).setCell (.inl (by simp)) _) (fun k hk => ?_)
    simp only [List.mem_singleton]
    intro e
    subst e
    exact hne3 hk
  · intro y hy
    rcases mem_rfoot.1 hy with rfl | hy
    · exact .inl (mem_rfoot.2 (.inl rfl))
    · rcases h3 with h3 | h3
      · rw [h3] at hy; exact .inl (mem_rfoot.2 (.inr hy))
      · rw [h3, hsz] at hy
        have := Option.some.inj hy
        have := hO.size
        exact .inr (by omega)
theorem put_done {w wr : World} {b g c k : Nat} {q : Option Addr} {es : List En} {x : En} {tail : List Value} (hlt : k < es.length) (hE : BL wr b 120 [.pointer q, .slice (some ⟨g, 0, none⟩) es.length c]) (hbl : BL wr g 126 (varC es ++ tail)) (htl : (varC es ++ tail).length = c * 3) (hnc : es.length ≤ c) (hcm : c ≤ maxLen) (hgb : g ≠ b)
    (hO : Only (rfoot b (.slice (some ⟨g, 0, none⟩) es.length c)) w wr) : RLeft w (((wr.setCell ⟨g, k * 3, none⟩ (.string (bs x.1))).setCell ⟨g, k * 3 + 1, none⟩ (.string (bs x.2.1))).setCell ⟨g, k * 3 + 2, none⟩ (.bool x.2.2)).drew.drew b q (.slice (some ⟨g, 0, none⟩) es.length c) (es.set k x) := by
  have e3 : wr.setCells g (k * 3) (varL x) = ((wr.setCell ⟨g, k * 3, none⟩ (.string (bs x.1))).setCell ⟨g, k * 3 + 1, none⟩ (.string (bs x.2.1))).setCell ⟨g, k * 3 + 2, none⟩ (.bool x.2.2) := rfl
  rw [← e3]
  have hb2 := hbl.setCells (varL x) (k * 3) (by rw [List.length_append, varC_len, varL_len]; omega)
  rw [varC_set es k x tail hlt] at hb2
  have ho2 := ((Only.refl [g] wr).setCells g (k * 3) (varL x) (.inl (by simp)))
  have hE2 := BL.only hE ho2 (by simp; exact fun e => hgb e.symm)
  refine ⟨_, ⟨hE2, ?_⟩, ?_, fun y hy => .inl hy⟩
  · have := own_of_bl (n := es.length) hb2 (by rw [← htl, List.length_append, List.length_append, varC_len, varC_len, List.length_set]) hnc hcm (by rw [varC_len, List.length_set])
    rw [List.length_set]
    exact this
  · exact (hO.trans2 ho2 (fun y hy => .inl (by simp at hy; subst hy; exact mem_rfoot.2 (.inr rfl)))).drew.drew
set_option maxRecDepth 100000 in
set_option maxHeartbeats 4000000 in
theorem rput_any (b : Nat) (q : Option Addr) (v : Value) (es : List En) (x : En) (w : World) (hs : REnv w b q v es) (hn : es.length ≤ 1000) :
    Calls Tryz.prog 63 #[.pointer (some ⟨b, 0, none⟩), .agg (varL x).toArray] w fun e w' => e = .returned (.bool (putA es x).2) ∧ RLeft w w' b q v (putA es x).1 := by
  obtain ⟨R, hR⟩ : ∃ R, R = putA es x := ⟨_, rfl⟩
  rw [← hR]
  have HY := Lib.hid (show ∀ k, k < es.length → (∀ j (h : j < es.length), j < k → (es[j].1 == x.1) = false) → ∀ (hk : k < es.length), (es[k].1 == x.1) = true → R = (es.set k x, true) from fun k hk h1 hk2 h2 => by rw [hR]; exact putA_at hk h1 h2)
  have HN := Lib.hid (show (∀ j (h : j < es.length), (es[j].1 == x.1) = false) → R = if 500 ≤ es.length then (es, false) else (es ++ [x], true) from fun h1 => by rw [hR]; exact putA_none h1)
  clear hR
  have hbw : b < w.heap.size := BL.lt hs.1
  obtain ⟨A, c, rfl⟩ := own_slice hs.2
  have h0 : Below w.heap.size w (w.alloc (.cells (varL x).toArray 126)) := (Below.refl w.heap.size w).alloc (Nat.le_refl _) _
  have H0 := Lib.hid (show REnv (w.alloc (.cells (varL x).toArray 126)) b q (.slice A es.length c) es from hs.below h0)
  have X0 := Lib.hid (BL.new w 126 (varL x))
  have O0 := Lib.hid (show Only (rfoot b (.slice A es.length c)) w (w.alloc (.cells (varL x).toArray 126)) from Only.of_below h0)
  have HS := Lib.hid hs
  clear hs h0
  obtain ⟨nm, vl, hd⟩ := x
  dsimp only [varL] at *
  go_enter Tryz.func63, Tryz.ntmps63
  go_wp2_with fail
  go_loopw [5] (fun i wr => ∃ k : Nat, k ≤ es.length ∧ i = .int .i64 (k : Int) ∧ Hid (∀ j (h : j < es.length), j < k → (es[j].1 == nm) = false) ∧ REnv wr b q (.slice A es.length c) es ∧ BL wr w.heap.size 126 [.string (bs nm), .string (bs vl), .bool hd] ∧ Only (rfoot b (.slice A es.length c)) w wr ∧ w.heap.size + 1 ≤ wr.heap.size) (fun i _ => es.length - (intOf i).toNat)
  case atStart => exact ⟨0, by omega, rfl, (fun j h h2 => by omega), H0.out, X0.out, O0.out, by simp⟩
  case round =>
    obtain ⟨k, hk, rfl, hno, hE, hX, hO, hsz⟩ := hrel
    have c1 : wr.cell? ⟨b, 1, none⟩ = some (.slice A es.length c) := hE.1.cell 1
    have x0 : wr.cell? ⟨w.heap.size, 0, none⟩ = some (.string (bs nm)) := hX.cell 0
    have HE := Lib.hid hE
    have HX := Lib.hid hX
    have HO := Lib.hid hO
    by_cases hlt : k < es.length
    · obtain ⟨g, c', tail, hv, hbl, htl, hnc, hcm⟩ := own_some hE.2 (by omega)
      simp only [Value.slice.injEq] at hv
      obtain ⟨rfl, -, rfl⟩ := hv
      have hgx : g ≠ w.heap.size := fun e => by
        have h1 := own_type HS.out.2 (k := g) (t := 120) (cs := [])
        have hlt2 : g < w.heap.size := by
          rcases HS.out.2.2 with ⟨h2, _⟩ | ⟨g2, cap, cur, h2, _, h3, _⟩
          · cases h2
          · simp only [Value.slice.injEq, Option.some.injEq, Addr.mk.injEq] at h2
            obtain ⟨⟨rfl, -, -⟩, -⟩ := h2
            exact (Array.getElem?_eq_some_iff.1 h3).1
        omega
      obtain ⟨⟨n2, v2, b2⟩, ho⟩ : ∃ o, es[k]? = some o := ⟨_, List.getElem?_eq_getElem hlt⟩
      have hn2 : es[k].1 = n2 := by
        have := List.getElem?_eq_getElem hlt
        rw [ho] at this
        rw [← Option.some.inj this]
      have e0 : wr.cell? ⟨g, k * 3, none⟩ = some (.string (bs n2)) := by
        have h1 := varC_at ho 0 _ rfl
        have h2 : k * 3 + 0 < (varC es).length := by rw [varC_len]; omega
        have h3 := hbl.cell (k * 3 + 0)
        rw [List.getElem?_append_left h2, h1] at h3
        exact h3
      have e1 : ((bs n2).toList == (bs nm).toList) = (n2 == nm) := by rw [bs_tl, bs_tl]
      have hki : (k : Int) < (es.length : Int) := by omega
      have hlen : es.length ≤ 1000 := hn
      cases hq : (n2 == nm) with
      | false =>
        have HN2 := Lib.hid (show ∀ j (h : j < es.length), j < k + 1 → (es[j].1 == nm) = false from fun j h h2 => by
          by_cases hj : j < k
          · exact hno.out j h hj
          · obtain rfl : j = k := by omega
            rw [hn2]; exact hq)
        rw [hq] at e1
        clear hq hno hE hX hO ho hn2 HY HN hbl
        go_wp2_with fail
        go_region
        go_wp2_with fail
        go_roundw
        case rel => exact ⟨k + 1, by omega, by go_num, HN2.out, HE.out, HX.out, HO.out.drew, hsz⟩
        case measure => simp [intOf]; omega
      | true =>
        have HV := Lib.hid (HY.out k hlt hno.out hlt (by rw [hn2]; exact hq))
        rw [hq] at e1
        have x1 : wr.cell? ⟨w.heap.size, 1, none⟩ = some (.string (bs vl)) := hX.cell 1
        have x2 : wr.cell? ⟨w.heap.size, 2, none⟩ = some (.bool hd) := hX.cell 2
        have g1 : wr.cell? ⟨g, k * 3 + 1, none⟩ = some (.string (bs v2)) := by
          have h1 := varC_at ho 1 _ rfl
          have h2 : k * 3 + 1 < (varC es).length := by rw [varC_len]; omega
          have h3 := hbl.cell (k * 3 + 1)
          rw [List.getElem?_append_left h2, h1] at h3
          exact h3
        have g2 : wr.cell? ⟨g, k * 3 + 2, none⟩ = some (.bool b2) := by
          have h1 := varC_at ho 2 _ rfl
          have h2 : k * 3 + 2 < (varC es).length := by rw [varC_len]; omega
          have h3 := hbl.cell (k * 3 + 2)
          rw [List.getElem?_append_left h2, h1] at h3
          exact h3
        have f0 := hbl.frozen (k * 3)
        have f1 := hbl.frozen (k * 3 + 1)
        have f2 := hbl.frozen (k * 3 + 2)
        have hxg : ¬ w.heap.size = g := fun e => hgx e.symm
        have HBL := Lib.hid hbl
        have hgb : g ≠ b := fun e => own_type HE.out.2 HE.out.1 (by decide) (by rw [← e]; rfl)
        clear hq hno hE hX hO ho hn2 HY HN hbl
        go_wp2_with fail
        go_region
        go_wp2_with fail
        go_region
        go_wp2_with fail
        go_ret
        have hd3 := put_done (x := (nm, vl, hd)) hlt HE.out.1 HBL.out htl hnc hcm hgb HO.out
        dsimp only at hd3
        refine ⟨by rw [HV.out]; rfl, ?_⟩
        rw [HV.out]
        exact hd3
    · have hki : ¬ (k : Int) < (es.length : Int) := by omega
      have hv := HN.out (fun j h => hno.out j h (by omega))
      have HEo := Lib.hid hE.2
      have x1 : wr.cell? ⟨w.heap.size, 1, none⟩ = some (.string (bs vl)) := hX.cell 1
      have x2 : wr.cell? ⟨w.heap.size, 2, none⟩ = some (.bool hd) := hX.cell 2
      have f1 := hE.1.frozen 1
      clear hno hE hX hO HY HN
      by_cases h5 : 500 ≤ es.length
      · have h5i : (500 : Int) ≤ (es.length : Int) := by omega
        have HV := Lib.hid (show R = (es, false) by rw [hv, if_pos h5])
        clear hv x1 x2
        go_wp2_with fail
        go_ret
        exact ⟨by rw [HV.out]; rfl, by rw [HV.out]; exact ⟨_, HE.out, HO.out, fun y hy => .inl hy⟩⟩
      · have h5i : ¬ (500 : Int) ≤ (es.length : Int) := by omega
        have HV := Lib.hid (show R = (es ++ [(nm, vl, hd)], true) by rw [hv, if_neg h5])
        clear hv
        go_wp2_with fail
        have hne : (Value.slice A es.length c).ownBlock ≠ some b := own_type HE.out.2 HE.out.1 (by decide)
        have HNE := Lib.hid hne
        have c1' : (wr.alloc (.cells #[.string (bs nm), .string (bs vl), .bool hd] 126)).cell? ⟨b, 1, none⟩ = some (.slice A es.length c) := (BL.alloc HE.out.1 _).cell 1
        have f1' : (wr.alloc (.cells #[.string (bs nm), .string (bs vl), .bool hd] 126)).frozen? ⟨b, 1, none⟩ = false := (BL.alloc HE.out.1 _).frozen 1
        have HOW := Lib.hid (show ((wr.alloc (.cells #[.string (bs nm), .string (bs vl), .bool hd] 126)).drew).ownsRow 0 126 3 (.slice A es.length c) es.length (varC es) from (HEo.out.alloc _).drew)
        have HNB := Lib.hid (show BL ((wr.alloc (.cells #[.string (bs nm), .string (bs vl), .bool hd] 126)).drew) wr.heap.size 126 (varL (nm, vl, hd)) from BL.new wr 126 (varL (nm, vl, hd)))
        clear hne HEo
        go_region_law (refine step_app_var rfl (.tmp 43) (.tmp 45) rfl (.slice A es.length c) es (nm, vl, hd) rfl HOW.out wr.heap.size 1 rfl HNB.out hn ?_; intro A' c' w3 ho3 hg3 hl3; have HL3 := Lib.hid (app_done (x := (nm, vl, hd)) hbw HE.out.1 HO.out _ HNE.out ho3 hg3 hl3); have hb3 := (BL.alloc HE.out.1 (.cells #[.string (bs nm), .string (bs vl), .bool hd] 126)).keep (hg3.block b (BL.lt (BL.alloc HE.out.1 _)) (fun e => HNE.out e.symm)); have d1 := hb3.cell 1; have d2 := hb3.frozen 1; clear ho3 hg3 hl3 hb3)
        all_goals
          go_wp2_with fail
          go_ret
          refine ⟨by rw [HV.out]; rfl, ?_⟩
          rw [HV.out]
          exact HL3.out
end Go.Proofs.YthmadnadaakjaaaGreatDoor.Opt.Ev
/- The chapter's Set, Unset, NewEnv. -/
namespace Go.Proofs.YthmadnadaakjaaaGreatDoor.Opt.Ev
open Go.RowKit Go.Maps Go.Proofs.YthmadnadaakjaaaGreatDoor.Opt

def manyI (k : Bool) : Int := if k = true then 0 else 3
theorem many_any (k : Bool) (w : World) : Calls Tryz.prog 40 #[.bool k] w fun e w' => e = .returned (.int .i64 (manyI k)) ∧ w' = w := by
  cases k with
  | true =>
    go_enter Tryz.func40, Tryz.ntmps40
    go_wp2_with fail
    go_ret
    exact ⟨rfl, rfl⟩
  | false =>
    go_enter Tryz.func40, Tryz.ntmps40
    go_wp2_with fail
    go_ret
    exact ⟨rfl, rfl⟩
def rsetA (es : List En) (nm v : Tx) : List En × Int :=
  if varP nm = false then (es, 6) else if 1024 < v.length then (es, 2) else ((putA es (nm, v, false)).1, manyI (putA es (nm, v, false)).2)
def runsetA (es : List En) (nm : Tx) : List En := if varP nm = true then (putA es (nm, [], true)).1 else es
theorem rnew_any (p : Option Addr) (w : World) :
    Calls Tryz.prog 22 #[.pointer p] w fun e w' => e = .returned (.pointer (some ⟨w.heap.size, 0, none⟩)) ∧ REnv w' w.heap.size p (.slice none 0 0) [] ∧ Below w.heap.size w w' := by
  have HN := Lib.hid (BL.new w 120 [.pointer p, .slice none 0 0])
  have HB := Lib.hid ((Below.refl w.heap.size w).alloc (Nat.le_refl _) (.cells #[.pointer p, .slice none 0 0] 120))
  go_enter Tryz.func22, Tryz.ntmps22
  go_wp2_with fail
  go_ret
  exact ⟨rfl, ⟨HN.out, ⟨rfl, .inl ⟨rfl, rfl⟩⟩⟩, HB.out⟩
set_option maxRecDepth 100000 in
set_option maxHeartbeats 4000000 in
theorem rset_any (b : Nat) (q : Option Addr) (v : Value) (es : List En) (nm vl : Tx) (hl : nm.length ≤ 140737488355328) (hv : vl.length ≤ 140737488355328) (w : World) (hs : REnv w b q v es) (hn : es.length ≤ 1000) :
    Calls Tryz.prog 26 #[.pointer (some ⟨b, 0, none⟩), .string (bs nm), .string (bs vl)] w fun e w' => e = .returned (.int .i64 (rsetA es nm vl).2) ∧ RLeft w w' b q v (rsetA es nm vl).1 := by
  obtain ⟨R, hR⟩ : ∃ R, R = rsetA es nm vl := ⟨_, rfl⟩
  rw [← hR]
  have HR := Lib.hid hR
  clear hR
  have HS := Lib.hid hs
  have hsz : (bs vl).size = vl.length := bs_size vl
  have H1 := Lib.hid (fun w' => envName_any nm hl w')
  clear hs
  cases hvp : varP nm with
  | false =>
    have HV := Lib.hid (show R = (es, 6) by rw [HR.out, rsetA, if_pos hvp])
    rw [hvp] at H1
    clear HR hvp
    go_enter Tryz.func26, Tryz.ntmps26
    go_wp2_with fail
    refine (H1.out _).mono ?_
    rintro e w1 ⟨rfl, rfl⟩
    clear H1
    go_wp2_with fail
    go_ret
    exact ⟨by rw [HV.out]; rfl, by rw [HV.out]; exact RLeft.same HS.out (Below.refl _ _)⟩
  | true =>
    rw [hvp] at H1
    by_cases h2 : 1024 < vl.length
    · have HV := Lib.hid (show R = (es, 2) by rw [HR.out, rsetA, if_neg (by rw [hvp]; simp), if_pos h2])
      have h2i : (1024 : Int) < (vl.length : Int) := by omega
      clear HR hvp h2
      go_enter Tryz.func26, Tryz.ntmps26
      go_wp2_with fail
      refine (H1.out _).mono ?_
      rintro e w1 ⟨rfl, rfl⟩
      clear H1
      go_wp2_with fail
      go_ret
      exact ⟨by rw [HV.out]; rfl, by rw [HV.out]; exact RLeft.same HS.out (Below.refl _ _)⟩
    · have h2i : ¬ (1024 : Int) < (vl.length : Int) := by omega
      have HV := Lib.hid (show R = ((putA es (nm, vl, false)).1, manyI (putA es (nm, vl, false)).2) by rw [HR.out, rsetA, if_neg (by rw [hvp]; simp), if_neg h2])
      have HP := Lib.hid (fun w' (h : REnv w' b q v es) => rput_any b q v es (nm, vl, false) w' h hn)
      dsimp only [varL] at HP
      clear HR hvp h2
      generalize putA es (nm, vl, false) = r at HV HP
      go_enter Tryz.func26, Tryz.ntmps26
      go_wp2_with fail
      refine (H1.out _).mono ?_
      rintro e w1 ⟨rfl, rfl⟩
      clear H1
      go_wp2_with fail
      refine (HP.out _ HS.out).mono ?_
      rintro e w2 ⟨rfl, hL⟩
      have HL := Lib.hid hL
      clear hL HP
      go_wp2_with fail
      refine (many_any _ _).mono ?_
      rintro e w3 ⟨rfl, rfl⟩
      go_wp2_with fail
      go_ret
      exact ⟨by rw [HV.out]; rfl, by rw [HV.out]; exact HL.out⟩
set_option maxRecDepth 100000 in
set_option maxHeartbeats 4000000 in
theorem runset_any (b : Nat) (q : Option Addr) (v : Value) (es : List En) (nm : Tx) (hl : nm.length ≤ 140737488355328) (w : World) (hs : REnv w b q v es) (hn : es.length ≤ 1000) :
    Calls Tryz.prog 24 #[.pointer (some ⟨b, 0, none⟩), .string (bs nm)] w fun e w' => e = .returned (.tuple #[]) ∧ RLeft w w' b q v (runsetA es nm) := by
  obtain ⟨R, hR⟩ : ∃ R, R = runsetA es nm := ⟨_, rfl⟩
  rw [← hR]
  have HR := Lib.hid hR
  clear hR
  have HS := Lib.hid hs
  have H1 := Lib.hid (fun w' => envName_any nm hl w')
  clear hs
  cases hvp : varP nm with
  | false =>
    have HV := Lib.hid (show R = es by rw [HR.out, runsetA, if_neg (by rw [hvp]; simp)])
    rw [hvp] at H1
    clear HR hvp
    go_enter Tryz.func24, Tryz.ntmps24
    go_wp2_with fail
    refine (H1.out _).mono ?_
    rintro e w1 ⟨rfl, rfl⟩
    clear H1
    go_wp2_with fail
    exact body_end rfl rfl ⟨rfl, by rw [HV.out]; exact RLeft.same HS.out (Below.refl _ _)⟩
  | true =>
    have HV := Lib.hid (show R = (putA es (nm, [], true)).1 by rw [HR.out, runsetA, if_pos hvp])
    have HP := Lib.hid (fun w' (h : REnv w' b q v es) => rput_any b q v es (nm, [], true) w' h hn)
    dsimp only [varL] at HP
    rw [hvp] at H1
    clear HR hvp
    generalize putA es (nm, [], true) = r at HV HP
    go_enter Tryz.func24, Tryz.ntmps24
    go_wp2_with fail
    refine (H1.out _).mono ?_
    rintro e w1 ⟨rfl, rfl⟩
    clear H1
    go_wp2_with fail
    refine (HP.out _ HS.out).mono ?_
    rintro e w2 ⟨rfl, hL⟩
    have HL := Lib.hid hL
    clear hL HP
    go_wp2_with fail
    exact body_end rfl rfl ⟨rfl, by rw [HV.out]; exact HL.out⟩
end Go.Proofs.YthmadnadaakjaaaGreatDoor.Opt.Ev
/- A map of variables and the chapter's list of them. -/
namespace Go.Proofs.YthmadnadaakjaaaGreatDoor.Opt.Ev
open Go.RowKit Go.Maps Go.Proofs.YthmadnadaakjaaaGreatDoor.Opt

def varV (x : Tx × Bool) : Value := .agg #[.string (bs x.1), .bool x.2]
/-- What a list says of a name. -/
def look1 (es : List En) (nm : Tx) : Option (Tx × Bool) := (es.find? (fun y => y.1 == nm)).map (·.2)
def putR : List En → En → List En
  | [], y => [y]
  | a :: r, y => if a.1 == y.1 then y :: r else a :: putR r y
theorem look1_cons (a : En) (r : List En) (nm : Tx) : look1 (a :: r) nm = if a.1 == nm then some a.2 else look1 r nm := by
  unfold look1
  rw [List.find?_cons]
  cases h : (a.1 == nm) <;> simp
theorem look1_nil (nm : Tx) : look1 [] nm = none := rfl
theorem idx_R (y : En) : ∀ es : List En, (∀ k, es.findIdx? (fun z => z.1 == y.1) = some k → es.set k y = putR es y ∧ (look1 es y.1).isSome = true) ∧ (es.findIdx? (fun z => z.1 == y.1) = none → putR es y = es ++ [y] ∧ look1 es y.1 = none)
  | [] => ⟨fun k h => by simp at h, fun _ => ⟨rfl, rfl⟩⟩
  | a :: r => by
    obtain ⟨ih1, ih2⟩ := idx_R y r
    rw [List.findIdx?_cons, look1_cons, putR]
    cases h : (a.1 == y.1) with
    | true => exact ⟨fun k hk => by
        simp only [if_true, Option.some.injEq] at hk
        subst hk
        exact ⟨by simp, rfl⟩, fun hk => by simp at hk⟩
    | false =>
      simp only [Bool.false_eq_true, if_false]
      constructor
      · intro k hk
        rw [Option.map_eq_some_iff] at hk
        obtain ⟨j, hj, rfl⟩ := hk
        obtain ⟨g1, g2⟩ := ih1 j hj
        exact ⟨by rw [List.set_cons_succ, g1], g2⟩
      · intro hk
        rw [Option.map_eq_none_iff] at hk
        obtain ⟨g1, g2⟩ := ih2 hk
        exact ⟨by rw [g1]; rfl, g2⟩
theorem putA_R (es : List En) (y : En) : putA es y = if (look1 es y.1).isSome = true then (putR es y, true) else if 500 ≤ es.length then (es, false) else (putR es y, true) := by
  unfold putA
  obtain ⟨h1, h2⟩ := idx_R y es
  cases h : es.findIdx? (fun z => z.1 == y.1) with
  | some k =>
    obtain ⟨g1, g2⟩ := h1 k h
    dsimp only
    rw [g1, if_pos g2]
  | none =>
    obtain ⟨g1, g2⟩ := h2 h
    dsimp only
    rw [g2, g1]
    rfl
theorem look_R (y : En) (nm : Tx) : ∀ es : List En, look1 (putR es y) nm = if y.1 == nm then some y.2 else look1 es nm
  | [] => by rw [putR, look1_cons]
  | a :: r => by
    rw [putR, look1_cons]
    cases h : (a.1 == y.1) with
    | true =>
      rw [if_pos rfl, look1_cons]
      rw [beq_iff_eq.1 h]
      cases (y.1 == nm) <;> rfl
    | false =>
      rw [if_neg (by simp), look1_cons, look_R y nm r]
      cases h2 : (y.1 == nm) with
      | false => rfl
      | true =>
        rw [← beq_iff_eq.1 h2, h]
        rfl
theorem len_R (y : En) : ∀ es : List En, (putR es y).length = if (look1 es y.1).isSome = true then es.length else es.length + 1
  | [] => rfl
  | a :: r => by
    rw [putR, look1_cons]
    cases h : (a.1 == y.1) with
    | true => rw [if_pos rfl, if_pos rfl]; rfl
    | false =>
      simp only [Bool.false_eq_true, if_false]
      rw [List.length_cons, len_R y r]
      split <;> rfl
theorem names_R (y : En) : ∀ es : List En, (putR es y).map (·.1) = if (look1 es y.1).isSome = true then es.map (·.1) else es.map (·.1) ++ [y.1]
  | [] => rfl
  | a :: r => by
    rw [putR, look1_cons]
    cases h : (a.1 == y.1) with
    | true => rw [if_pos rfl, if_pos rfl, List.map_cons, List.map_cons, beq_iff_eq.1 h]; rfl
    | false =>
      simp only [Bool.false_eq_true, if_false]
      rw [List.map_cons, names_R y r]
      split <;> rfl
theorem look_mem {es : List En} {nm : Tx} (h : look1 es nm = none) : nm ∉ es.map (·.1) := by
  intro hm
  obtain ⟨y, hy, rfl⟩ := List.mem_map.1 hm
  unfold look1 at h
  rw [Option.map_eq_none_iff, List.find?_eq_none] at h
  exact h y hy (by simp)
/-- The map says what the list says. -/
structure Rel (D : DataW Value) (es : List En) : Prop where
  tidy : Tidy D
  size : Maps.size D = es.length
  has : ∀ nm, hasP D nm = (look1 es nm).isSome
  val : ∀ nm x, look1 es nm = some x → valP D nm = varV x
  nodup : (es.map (·.1)).Nodup
theorem Rel.nil : Rel (.map []) [] := ⟨tidy_empty, rfl, fun _ => rfl, fun _ _ h => (by cases h), List.nodup_nil⟩
theorem lit_ne {a b : Tx} (h : a ≠ b) : (Lit.string a) ≠ .string b := fun e => h (by injection e)
theorem Rel.put {D : DataW Value} {es : List En} (h : Rel D es) (y : En) : Rel (putD D y.1 (varV y.2)) (putR es y) := by
  have hk : WideAt.IsKeyLit (Lit.string y.1) := trivial
  have hs : Maps.size (putD D y.1 (varV y.2)) = if hasP D y.1 then Maps.size D else Maps.size D + 1 := size_put h.tidy _
  refine ⟨h.tidy.put hk _, ?_, ?_, ?_, ?_⟩
  · rw [hs, len_R, h.size, h.has]
  · intro nm
    rw [look_R]
    cases hn : (y.1 == nm) with
    | true =>
      have : hasP (putD D y.1 (varV y.2)) y.1 = true := has_put_same h.tidy.isMap hk _
      rw [← beq_iff_eq.1 hn, this]; rfl
    | false =>
      have hne : nm ≠ y.1 := fun e => by rw [e] at hn; simp at hn
      have : hasP (putD D y.1 (varV y.2)) nm = hasP D nm := has_put_other (lit_ne hne) _
      rw [this, h.has]; rfl
  · intro nm x hx
    rw [look_R] at hx
    cases hn : (y.1 == nm) with
    | true =>
      rw [hn, if_pos rfl] at hx
      cases hx
      rw [← beq_iff_eq.1 hn]
      have : (putD D y.1 (varV y.2)).atKey (.string y.1) (.held zeroH) = .held (varV y.2) := atKey_put_same h.tidy.isMap hk _ _
      unfold valP
      rw [this]; rfl
    | false =>
      have hne : nm ≠ y.1 := fun e => by rw [e] at hn; simp at hn
      rw [hn, if_neg (by simp)] at hx
      have : (putD D y.1 (varV y.2)).atKey (.string nm) (.held zeroH) = D.atKey (.string nm) (.held zeroH) := atKey_put_other (lit_ne hne) _ _
      rw [← h.val nm x hx]
      unfold valP
      rw [this]
  · rw [names_R]
    cases hl : look1 es y.1 with
    | some x => simp only [Option.isSome_some, if_true]; exact h.nodup
    | none =>
      simp only [Option.isSome_none, Bool.false_eq_true, if_false]
      rw [List.nodup_append]
      exact ⟨h.nodup, by simp, fun a ha b hb e => look_mem hl (by simp at hb; rw [← hb, ← e]; exact ha)⟩
theorem Rel.may {D : DataW Value} {es : List En} (h : Rel D es) (nm : Tx) : mayP D nm = ((look1 es nm).isSome || decide (es.length < 500)) := by
  unfold mayP
  have e : decide ((es.length : Int) < 500) = decide (es.length < 500) := decide_eq_decide.2 (by omega)
  rw [h.has, h.size, e]
theorem putA_rel {D : DataW Value} {es : List En} (h : Rel D es) (y : En) : (putA es y).2 = mayP D y.1 ∧ Rel (if mayP D y.1 = true then putD D y.1 (varV y.2) else D) (putA es y).1 := by
  rw [h.may, putA_R]
  cases hl : (look1 es y.1).isSome with
  | true =>
    rw [if_pos rfl]
    exact ⟨rfl, h.put y⟩
  | false =>
    rw [if_neg (by simp)]
    by_cases h5 : 500 ≤ es.length
    · rw [if_pos h5]
      have : decide (es.length < 500) = false := decide_eq_false (by omega)
      rw [this]
      exact ⟨rfl, h⟩
    · rw [if_neg h5]
      have : decide (es.length < 500) = true := decide_eq_true (by omega)
      rw [this]
      exact ⟨rfl, h.put y⟩
theorem set_rel {D : DataW Value} {es : List En} (h : Rel D es) (nm v : Tx) : (setE D nm v).2 = (rsetA es nm v).2 ∧ Rel (setE D nm v).1 (rsetA es nm v).1 := by
  obtain ⟨h1, h2⟩ := putA_rel h (nm, v, false)
  unfold setE rsetA
  by_cases hv : varP nm = false
  · rw [if_pos hv, if_pos hv]; exact ⟨rfl, h⟩
  · rw [if_neg hv, if_neg hv]
    by_cases hl : 1024 < v.length
    · rw [if_pos hl, if_pos hl]; exact ⟨rfl, h⟩
    · rw [if_neg hl, if_neg hl, h1]
      dsimp only at h2 ⊢
      cases hm : mayP D nm with
      | false =>
        rw [hm] at h2
        rw [if_pos rfl]
        exact ⟨rfl, h2⟩
      | true =>
        rw [hm] at h2
        rw [if_neg (by simp)]
        exact ⟨rfl, h2⟩
theorem unset_rel {D : DataW Value} {es : List En} (h : Rel D es) (nm : Tx) : Rel (unsetE D nm) (runsetA es nm) := by
  obtain ⟨h1, h2⟩ := putA_rel h (nm, [], true)
  unfold unsetE runsetA
  cases hv : varP nm with
  | false => rw [if_neg (by simp), if_neg (by simp)]; exact h
  | true =>
    rw [if_pos rfl]
    dsimp only at h2
    cases hm : mayP D nm with
    | false => rw [hm] at h2; rw [if_neg (by simp)]; exact h2
    | true => rw [hm] at h2; rw [if_pos ⟨rfl, rfl⟩]; exact h2
end Go.Proofs.YthmadnadaakjaaaGreatDoor.Opt.Ev
/- The chapter's Item walked. -/
namespace Go.Proofs.YthmadnadaakjaaaGreatDoor.Opt
open Go.RowKit

theorem retv {S : ByteArray} {a : Tx} {i : Int} (h : S = bs a) : Ending.returned (.tuple #[.string S, .int .i64 i]) = .returned (.tuple #[.string (bs a), .int .i64 i]) := by rw [h]
theorem elem_of {E : ByteArray} {D : Tx} (he : E = bs D) : ∀ k (h : k < D.length) (h2 : k < E.size), E[k]'h2 = D[k] := by
  subst he
  intro k h h2
  rfl
theorem dig91 {b : UInt8} (h : b = 91) : digU b = false := by rw [h]; decide
set_option maxRecDepth 100000 in
set_option maxHeartbeats 2000000 in
theorem itemRef_any (l : Tx) (hs : l.length ≤ 140737488355328) (w : World) :
    Calls Tryz.prog 79 #[.string (bs l)] w fun e w' => ∃ (a : Tx) (i : Int), e = .returned (.tuple #[.string (bs a), .int .i64 i]) ∧ ItemOk l (a, i) ∧ w' = w := by
  obtain ⟨S, hS⟩ : ∃ S, S = bs l := ⟨_, rfl⟩
  have HX := Lib.hid (show ∀ a b, S.extract a b = bs ((l.take b).drop a) by intro a b; rw [hS]; exact cut_ext l a b)
  have HF := Lib.hid (show S = bs l from hS)
  rw [← hS]
  have hsz : S.size = l.length := by rw [hS, bs_size]
  have HL := Lib.hid (show ∀ k (h : k < l.length) (h2 : k < S.size), S[k]'h2 = l[k] by intro k h h2; subst hS; rfl)
  clear hS
  have HN1 := Lib.hid (fun h => no_short (l := l) h)
  by_cases h3 : l.length < 3
  · have HI := Lib.hid (HN1.out h3)
    go_enter Tryz.func79, Tryz.ntmps79
    go_wp2
    go_ret2
    exact ⟨l, -1, retv HF.out, HI.out, rfl⟩
  · obtain ⟨n, hn⟩ : ∃ n, l.length = n + 3 := ⟨l.length - 3, by omega⟩
    clear HN1
    have hS2 : n + 2 < S.size := by omega
    have hl2 : n + 2 < l.length := by omega
    have hch := HL.out (n + 2) hl2 hS2
    by_cases h93 : l[n + 2] = 93
    · have h93b : l[l.length - 1]'(by omega) = 93 := by
        have : l.length - 1 = n + 2 := by omega
        simpa only [this] using h93
      have hb : (((S[n + 2]'hS2).toNat : Int) != 93) = false := by rw [hch, h93]; rfl
      have HA := Lib.hid (fun h => no_all (l := l) h)
      have HNO := Lib.hid (fun k hk hD hn' hno => no_num (l := l) (k := k) hk hD hn' hno)
      have HYE := Lib.hid (fun k hk h91 hd => yes_num (l := l) (k := k) hk h91 h93b hd)
      have e9 : l.length - 1 = n + 2 := by omega
      have HD0 := Lib.hid (show Digs l (n + 2) from fun j h h1 h2 => by omega)
      have HDA := Lib.hid (fun k hD => digs_all (l := l) (k := k) hD)
      rw [e9] at HNO HYE HDA
      clear hch h93 h93b e9
      go_enter Tryz.func79, Tryz.ntmps79
      go_wp2
      go_loop [5] (fun i => Hid ((i = .int .i64 (-1) ∧ Digs l 0) ∨ ∃ m : Nat, m + 1 < n + 3 ∧ i = .int .i64 (m : Int) ∧ Digs l (m + 1))) (fun i => (intOf i + 1).toNat)
      case atStart => exact .inr ⟨n + 1, by omega, by go_num, HD0.out⟩
      case round =>
        rcases hrel.out with ⟨rfl, hD⟩ | ⟨m, hm, rfl, hD⟩
        · have HI := Lib.hid (HA.out hD)
          clear hD hrel HA HNO HYE HDA HD0
          go_wp2
          go_ret2
          exact ⟨l, -1, retv HF.out, HI.out, rfl⟩
        · have hml : m < l.length := by omega
          have hmS : m < S.size := by omega
          have hch := HL.out m hml hmS
          have HD := Lib.hid hD
          clear hD hrel
          cases hdg : digB ((S[m]'hmS).toNat : Int) with
          | true =>
            have HDm := Lib.hid (show Digs l m from fun j h h1 h2 => by
              by_cases hj : m + 1 ≤ j
              · exact HD.out j h hj h2
              · obtain rfl : j = m := by omega
                rw [hch] at hdg
                exact hdg)
            clear hch
            go_wp2_with fail
            refine (digit_any _ _).mono ?_
            rintro e w1 ⟨rfl, rfl⟩
            rw [hdg]
            clear hdg
            go_wp2_with fail
            go_round
            case rel =>
              cases m with
              | zero => exact .inl ⟨rfl, HDm.out⟩
              | succ m => exact .inr ⟨m, by omega, by go_num, HDm.out⟩
            case measure => simp [intOf] <;> omega
          | false =>
            rw [hch] at hdg
            have hnd : digU l[m] = false := hdg
            have hsl := HX.out (m + 1) (n + 2)
            have HX0 := Lib.hid (HX.out 0 m)
            have hall := HDA.out m HD.out
            have hln : ((l.take (n + 2)).drop (m + 1)).length = n + 1 - m := by rw [List.length_drop, List.length_take]; omega
            have HNO1 := Lib.hid (HNO.out m (by omega) HD.out hnd)
            have HYE1 := Lib.hid (HYE.out m (by omega))
            obtain ⟨D, hD⟩ : ∃ D, D = (l.take (n + 2)).drop (m + 1) := ⟨_, rfl⟩
            rw [← hD] at hsl hall hln HNO1 HYE1
            have hdl : (bs D).size = n + 1 - m := by rw [bs_size, hln]
            have HSL := Lib.hid hsl
            clear hD HNO HYE HDA HX HA HD0 HD hsl
            go_wp2_with fail
            refine (digit_any _ _).mono ?_
            rintro e w1 ⟨rfl, rfl⟩
            rw [hdg]
            clear hdg
            have HE := Lib.hid (show ∀ k (h : k < D.length) (h2 : k < (S.extract (m + 1) (n + 2)).size), (S.extract (m + 1) (n + 2))[k]'h2 = D[k] from elem_of HSL.out)
            have hEs : (S.extract (m + 1) (n + 2)).size = n + 1 - m := by rw [HSL.out, hdl]
            clear hdl
            by_cases h91 : l[m] = 91
            · have h91b : ((l[m].toNat : Int) != 91) = false := by rw [h91]; rfl
              have HNO2 := Lib.hid (fun h => HNO1.out (.inr h))
              have HYE2 := Lib.hid (HYE1.out h91)
              clear HNO1 HYE1 h91 hnd
              by_cases hlen : 1 ≤ n + 1 - m ∧ n + 1 - m ≤ 3
              · obtain ⟨hlen1, hlen3⟩ := hlen
                have hcase : (n + 1 - m = 1 ∧ numD D = true) ∨ (1 < n + 1 - m ∧ ((((S.extract (m + 1) (n + 2))[0]'(by omega)).toNat : Int) == 48) = false ∧ numD D = true) ∨ (1 < n + 1 - m ∧ ((((S.extract (m + 1) (n + 2))[0]'(by omega)).toNat : Int) == 48) = true ∧ numD D = false) := by
                  have h0 : (S.extract (m + 1) (n + 2))[0]'(by omega) = D.headD 0 := by
                    rw [HE.out 0 (by omega) (by omega)]
                    cases D with
                    | nil => simp at hln; omega
                    | cons a r => rfl
                  rw [h0]
                  by_cases h1 : n + 1 - m = 1
                  · exact .inl ⟨h1, by unfold numD; rw [hall, hln, h1]; rfl⟩
                  · cases hz : (((D.headD 0).toNat : Int) == 48) with
                    | false => exact .inr (.inl ⟨by omega, rfl, by unfold numD; rw [hall, hln, hz, decide_eq_true hlen1, decide_eq_true hlen3]; simp⟩)
                    | true => exact .inr (.inr ⟨by omega, rfl, by unfold numD; rw [hz, hln, decide_eq_true (show 1 < n + 1 - m by omega)]; simp⟩)
                have hlen1i : 1 ≤ ((n + 1 - m : Nat) : Int) := by omega
                have hlen3i : ((n + 1 - m : Nat) : Int) ≤ 3 := by omega
                rcases hcase with ⟨h1, hnum⟩ | ⟨h1, h48, hnum⟩ | ⟨h1, h48, hnum⟩
                case inr.inr =>
                  have HI := Lib.hid (HNO2.out hnum)
                  clear HNO2 HYE2 hnum HE hall hln
                  have h1i : 1 < ((n + 1 - m : Nat) : Int) := by omega
                  go_wp2_with fail
                  go_ret2
                  exact ⟨l, -1, retv HF.out, HI.out, rfl⟩
                case inl =>
                  have HI := Lib.hid (HYE2.out hnum)
                  clear HNO2 HYE2 hnum
                  have h1i : ((n + 1 - m : Nat) : Int) = 1 := by rw [h1]; rfl
                  have HV := Lib.hid (valD_next D)
                  have HVS := Lib.hid (fun k => valD_small (D.take k) (all_take hall k) (by rw [List.length_take]; omega))
                  have HVE := Lib.hid (show valD (D.take D.length) = valD D by rw [List.take_length])
                  have HDG := Lib.hid (show ∀ k (h : k < D.length), 48 ≤ (D[k].toNat : Int) ∧ (D[k].toNat : Int) ≤ 57 from fun k h => digU_val (List.all_eq_true.1 hall _ (List.getElem_mem h)))
                  have HX1 := Lib.hid (show bs (l.take m) = S.extract 0 m by rw [HX0.out, List.drop_zero])
                  clear hall HX0
                  go_wp2_with fail
                  go_loop [7, 8] (fun v i => ∃ k : Nat, k ≤ n + 1 - m ∧ i = .int .i64 (k : Int) ∧ v = .int .i64 (valD (D.take k))) (fun _ i => (n + 1 - m) - (intOf i).toNat)
                  case atStart => exact ⟨0, by omega, rfl, rfl⟩
                  case round =>
                    obtain ⟨k, hk, rfl, rfl⟩ := hrel
                    by_cases hlt : k < n + 1 - m
                    · have hkD : k < D.length := by omega
                      have hkE : k < (S.extract (m + 1) (n + 2)).size := by omega
                      have he := HE.out k hkD hkE
                      have hg := HDG.out k hkD
                      have hv := HV.out k hkD
                      have hs1 := HVS.out k
                      have hs2 := HVS.out (k + 1)
                      have hlti : (k : Int) < ((n + 1 - m : Nat) : Int) := by omega
                      generalize valD (D.take k) = V at hv hs1 ⊢
                      obtain ⟨hg1, hg2⟩ := hg
                      obtain ⟨hs3, hs4⟩ := hs1
                      go_wp2_with fail
                      go_round
                      case rel => exact ⟨k + 1, by omega, by go_num, by rw [hv]⟩
                      case measure => simp [intOf]; omega
                    · have hk2 : k = D.length := by omega
                      have hki : ((n + 1 - m : Nat) : Int) ≤ (k : Int) := by omega
                      have hv : valD (D.take k) = valD D := by rw [hk2]; exact HVE.out
                      rw [hv]
                      clear hv
                      go_wp2_with fail
                      go_ret2
                      exact ⟨l.take m, valD D, retv HX1.out.symm, HI.out, rfl⟩
                case inr.inl =>
                  have HI := Lib.hid (HYE2.out hnum)
                  clear HNO2 HYE2 hnum
                  have h1i : 1 < ((n + 1 - m : Nat) : Int) := by omega
                  have HV := Lib.hid (valD_next D)
                  have HVS := Lib.hid (fun k => valD_small (D.take k) (all_take hall k) (by rw [List.length_take]; omega))
                  have HVE := Lib.hid (show valD (D.take D.length) = valD D by rw [List.take_length])
                  have HDG := Lib.hid (show ∀ k (h : k < D.length), 48 ≤ (D[k].toNat : Int) ∧ (D[k].toNat : Int) ≤ 57 from fun k h => digU_val (List.all_eq_true.1 hall _ (List.getElem_mem h)))
                  have HX1 := Lib.hid (show bs (l.take m) = S.extract 0 m by rw [HX0.out, List.drop_zero])
                  clear hall HX0
                  go_wp2_with fail
                  go_loop [7, 8] (fun v i => ∃ k : Nat, k ≤ n + 1 - m ∧ i = .int .i64 (k : Int) ∧ v = .int .i64 (valD (D.take k))) (fun _ i => (n + 1 - m) - (intOf i).toNat)
                  case atStart => exact ⟨0, by omega, rfl, rfl⟩
                  case round =>
                    obtain ⟨k, hk, rfl, rfl⟩ := hrel
                    by_cases hlt : k < n + 1 - m
                    · have hkD : k < D.length := by omega
                      have hkE : k < (S.extract (m + 1) (n + 2)).size := by omega
                      have he := HE.out k hkD hkE
                      have hg := HDG.out k hkD
                      have hv := HV.out k hkD
                      have hs1 := HVS.out k
                      have hs2 := HVS.out (k + 1)
                      have hlti : (k : Int) < ((n + 1 - m : Nat) : Int) := by omega
                      generalize valD (D.take k) = V at hv hs1 ⊢
                      obtain ⟨hg1, hg2⟩ := hg
                      obtain ⟨hs3, hs4⟩ := hs1
                      go_wp2_with fail
                      go_round
                      case rel => exact ⟨k + 1, by omega, by go_num, by rw [hv]⟩
                      case measure => simp [intOf]; omega
                    · have hk2 : k = D.length := by omega
                      have hki : ((n + 1 - m : Nat) : Int) ≤ (k : Int) := by omega
                      have hv : valD (D.take k) = valD D := by rw [hk2]; exact HVE.out
                      rw [hv]
                      clear hv
                      go_wp2_with fail
                      go_ret2
                      exact ⟨l.take m, valD D, retv HX1.out.symm, HI.out, rfl⟩
              · have HI := Lib.hid (HNO2.out (by
                  unfold numD
                  rw [hall, hln]
                  by_cases h1 : 1 ≤ n + 1 - m
                  · simp [show ¬ n + 1 - m ≤ 3 by omega]
                  · simp [show ¬ 1 ≤ n + 1 - m by omega]))
                clear HNO2 HYE2 HE hall hln
                by_cases h1 : 1 ≤ n + 1 - m
                · have h3 : 3 < ((n + 1 - m : Nat) : Int) := by omega
                  have h1i : 1 ≤ ((n + 1 - m : Nat) : Int) := by omega
                  go_wp2_with fail
                  go_ret2
                  exact ⟨l, -1, retv HF.out, HI.out, rfl⟩
                · have h0 : ((n + 1 - m : Nat) : Int) < 1 := by omega
                  go_wp2_with fail
                  go_ret2
                  exact ⟨l, -1, retv HF.out, HI.out, rfl⟩
            · have h91b : ((l[m].toNat : Int) != 91) = true := by
                rw [bne, Bool.not_eq_true', beq_eq_false_iff_ne]
                intro h
                exact h91 (UInt8.toNat_inj.1 (by exact_mod_cast h))
              have HI := Lib.hid (HNO1.out (.inl h91))
              clear HNO1 HYE1 h91 hnd hall hln HE
              go_wp2_with fail
              go_ret2
              exact ⟨l, -1, retv HF.out, HI.out, rfl⟩
    · have HI := Lib.hid (no_last (l := l) (by omega) (by have : l.length - 1 = n + 2 := by omega
                                                          simpa only [this] using h93))
      have hb : (((S[n + 2]'hS2).toNat : Int) != 93) = true := by
        rw [hch, bne, Bool.not_eq_true', beq_eq_false_iff_ne]
        intro h
        exact h93 (UInt8.toNat_inj.1 (by exact_mod_cast h))
      clear hch
      go_enter Tryz.func79, Tryz.ntmps79
      go_wp2
      go_ret2
      exact ⟨l, -1, retv HF.out, HI.out, rfl⟩
end Go.Proofs.YthmadnadaakjaaaGreatDoor.Opt
/- The chapter's Find walked. -/
namespace Go.Proofs.YthmadnadaakjaaaGreatDoor.Opt
open Go.RowKit

theorem itemRef_at {l : Tx} {r : Tx × Int} (hr : ItemOk l r) (hs : l.length ≤ 140737488355328) (w : World) :
    Calls Tryz.prog 79 #[.string (bs l)] w fun e w' => e = .returned (.tuple #[.string (bs r.1), .int .i64 r.2]) ∧ w' = w := by
  refine (itemRef_any l hs w).mono ?_
  rintro e w' ⟨a, i, rfl, h, rfl⟩
  obtain rfl := hr.uniq h
  exact ⟨rfl, rfl⟩
def zeroD : RowD := ⟨[], 0, [], [], []⟩
def isR (a : Tx) (o : RowD) : Bool := o.name == a && o.kind == arrK
def findR (l : Tx) (r : Tx × Int) : RowD × Int × Bool :=
  if userR l = true then (⟨l, 9, strK, [], []⟩, -1, true)
  else match refL.find? (fun o => o.name == l) with
    | some o => (o, -1, true)
    | none => if 0 ≤ r.2 then match refL.find? (isR r.1) with
        | some o => (o, r.2, true)
        | none => (zeroD, 0, false)
      else (zeroD, 0, false)
def rfV (f : RowD × Int × Bool) : Value := .tuple #[.agg (rowL f.1).toArray, .int .i64 f.2.1, .bool f.2.2]
theorem rowL_one (o : RowD) : (rowL o).toArray.all (·.oneCell') = true := by simp [rowL, Value.oneCell']
theorem rowsD_at : ∀ {os : List RowD} {k : Nat} {o : RowD}, os[k]? = some o → ∀ j v, (rowL o)[j]? = some v → (rowsD os)[k * 5 + j]? = some v
  | [], k, o, h => by simp at h
  | a :: r, 0, o, h => by
    intro j v hj
    simp only [List.getElem?_cons_zero, Option.some.injEq] at h
    subst h
    have hlt : j < (rowL a).length := (List.getElem?_eq_some_iff.1 hj).1
    show (rowL a ++ rowsD r)[0 * 5 + j]? = _
    rw [Nat.zero_mul, Nat.zero_add, List.getElem?_append_left hlt]
    exact hj
  | a :: r, k + 1, o, h => by
    intro j v hj
    rw [List.getElem?_cons_succ] at h
    show (rowL a ++ rowsD r)[(k + 1) * 5 + j]? = _
    rw [List.getElem?_append_right (by rw [rowL_len]; omega), rowL_len]
    have e : (k + 1) * 5 + j - 5 = k * 5 + j := by omega
    rw [e]
    exact rowsD_at h j v hj
theorem find_take {α : Type} {p : α → Bool} {l : List α} {k : Nat} {o : α} (h : l[k]? = some o) (h1 : ∀ x ∈ l.take k, p x = false) (h2 : p o = true) : l.find? p = some o := by
  obtain ⟨hk, rfl⟩ := List.getElem?_eq_some_iff.1 h
  conv => lhs; rw [← List.take_append_drop k l, List.drop_eq_getElem_cons hk]
  rw [List.find?_append, List.find?_eq_none.2 (fun x hx => by rw [h1 x hx]; simp), Option.none_or, List.find?_cons_of_pos h2]
theorem take_more {α : Type} {p : α → Bool} {l : List α} {k : Nat} {o : α} (h : l[k]? = some o) (h1 : ∀ x ∈ l.take k, p x = false) (h2 : p o = false) : ∀ x ∈ l.take (k + 1), p x = false := by
  obtain ⟨hk, rfl⟩ := List.getElem?_eq_some_iff.1 h
  intro x hx
  rw [List.take_succ_eq_append_getElem hk, List.mem_append] at hx
  rcases hx with hx | hx
  · exact h1 x hx
  · rw [List.mem_singleton] at hx
    rw [hx]; exact h2
set_option maxRecDepth 100000 in
set_option maxHeartbeats 4000000 in
theorem findRef_at {l : Tx} {r : Tx × Int} (hr : ItemOk l r) (hs : l.length ≤ 140737488355328) (w : World) :
    Calls Tryz.prog 39 #[.string (bs l)] w fun e w' => e = .returned (rfV (findR l r)) ∧ Below w.heap.size w w' := by
  obtain ⟨R, hR⟩ : ∃ R, R = rfV (findR l r) := ⟨_, rfl⟩
  rw [← hR]
  have H1 := Lib.hid (fun w' => userRef_any l hs w')
  have H2 := Lib.hid (fun w' => itemRef_at hr hs w')
  have C0 := Lib.hid (BL.new w 80 (rowL zeroD))
  have HB := Lib.hid ((Below.refl w.heap.size w).alloc (Nat.le_refl _) (.cells (rowL zeroD).toArray 80))
  have hsz1 : (w.alloc (.cells (rowL zeroD).toArray 80)).heap.size = w.heap.size + 1 := by simp
  have hir : 0 ≤ r.2 ∨ r.2 = -1 := by
    rcases hr with ⟨h, -⟩ | ⟨h, -⟩
    · exact .inl h
    · right; rw [h]
  cases hu : userR l with
  | true =>
    have HV := Lib.hid (show R = rfV (⟨l, 9, strK, [], []⟩, -1, true) by rw [hR, findR, if_pos hu])
    rw [hu] at H1
    clear hR hu H2
    go_enter Tryz.func39, Tryz.ntmps39
    go_wp2_with fail
    refine (H1.out _).mono ?_
    rintro e w1 ⟨rfl, rfl⟩
    go_wp2_with (refine wpList_store_all rfl 80 _ _ rfl w.heap.size (rowL ⟨l, 9, strK, [], []⟩) rfl rfl 80 _ C0.out rfl (by kernel_rfl) (rowL_one _) ?_; intro w4 h0 ho hs4; have H0 := Lib.hid h0; have HO := Lib.hid ho; clear h0 ho)
    refine bodyPost_ret (results_ctt (p := 2) (u := 3) (u2 := 4) (by kernel_rfl) _ _ w.heap.size _ _ _ rfl H0.out Tryz.underlying80 rfl (by kernel_rfl)) rfl ⟨by rw [HV.out]; rfl, ?_⟩
    exact HB.out.trans (HO.out.below (by simp) (by simp))
  | false =>
    have HV1 := Lib.hid (show ∀ (k : Nat) o, refL[k]? = some o → (∀ x ∈ refL.take k, (x.name == l) = false) → (o.name == l) = true → R = rfV (o, -1, true) by
      intro k o h1 h2 h3
      rw [hR, findR, if_neg (by rw [hu]; simp), find_take (p := fun o => o.name == l) h1 h2 h3])
    have HV2 := Lib.hid (show (∀ x ∈ refL, (x.name == l) = false) → 0 ≤ r.2 → ∀ (k : Nat) o, refL[k]? = some o → (∀ x ∈ refL.take k, isR r.1 x = false) → isR r.1 o = true → R = rfV (o, r.2, true) by
      intro h0 h4 k o h1 h2 h3
      rw [hR, findR, if_neg (by rw [hu]; simp), List.find?_eq_none.2 (fun x hx => by rw [h0 x hx]; simp)]
      simp only
      rw [if_pos h4, find_take h1 h2 h3])
    have HV3 := Lib.hid (show (∀ x ∈ refL, (x.name == l) = false) → (∀ x ∈ refL, isR r.1 x = false) ∨ ¬ 0 ≤ r.2 → R = rfV (zeroD, 0, false) by
      intro h0 h4
      rw [hR, findR, if_neg (by rw [hu]; simp), List.find?_eq_none.2 (fun x hx => by rw [h0 x hx]; simp)]
      simp only
      rcases h4 with h4 | h4
      · rw [List.find?_eq_none.2 (fun x hx => by rw [h4 x hx]; simp)]
        simp
      · rw [if_neg h4])
    rw [hu] at H1
    clear hR hu
    generalize r.2 = i at H2 HV2 HV3 hir
    generalize r.1 = a at H2 HV2 HV3
    go_enter Tryz.func39, Tryz.ntmps39
    go_wp2_with fail
    refine (H1.out _).mono ?_
    rintro e w1 ⟨rfl, rfl⟩
    clear H1
    go_wp2_with fail
    refine (tableD_any _).mono ?_
    rintro e w2 ⟨rfl, hT, hb2⟩
    rw [size_alloc] at hT
    have hs2 := hb2.size
    rw [size_alloc] at hs2
    have C1 := Lib.hid (C0.out.keep (hb2.block _ C0.out.lt))
    have HB1 := Lib.hid (HB.out.trans (hb2.mono HB.out.size))
    have HT := Lib.hid hT
    clear hT hb2 C0 HB
    have hNe : w2.heap.size > w.heap.size := by omega
    go_wp2_with fail
    go_loop [7] (fun v => ∃ k : Nat, k ≤ 63 ∧ v = .int .i64 (k : Int) ∧ Hid (∀ x ∈ refL.take k, (x.name == l) = false)) (fun v => 63 - (intOf v).toNat)
    case atStart => exact ⟨0, by omega, rfl, fun x hx => by simp at hx⟩
    case round =>
      obtain ⟨k, hk, rfl, hno⟩ := hrel
      by_cases hlt : k < 63
      · obtain ⟨⟨nm, sc, kd, fi, mo⟩, ho⟩ : ∃ o, refL[k]? = some o := ⟨_, List.getElem?_eq_getElem (by rw [refL_len]; exact hlt)⟩
        have hra := HT.out.range (o := k * 5) (vs := rowL ⟨nm, sc, kd, fi, mo⟩) (rowsD_at ho)
        have c0 : w2.cell? ⟨w.heap.size + 1, k * 5, none⟩ = some (.string (bs nm)) := by
          have := hra 0 _ rfl
          simpa using this
        have HRA := Lib.hid hra
        have e0 : ((bs nm).toList == (bs l).toList) = (nm == l) := by rw [bs_tl, bs_tl]
        cases hq : (nm == l) with
        | false =>
          rw [hq] at e0
          have HN := Lib.hid (take_more (p := fun x => x.name == l) ho hno.out hq)
          clear hq hra ho
          go_wp2_with fail
          go_round
          case rel => exact ⟨k + 1, by omega, by go_num, HN.out⟩
          case measure => simp [intOf]; omega
        | true =>
          rw [hq] at e0
          have HV := Lib.hid (HV1.out k _ ho hno.out hq)
          clear HV1 HV2 HV3 H2 hq hra ho hno
          dsimp only [rowL] at HRA
          go_wp2_with (first
            | (refine wpList_load_mid rfl 80 _ rfl (w.heap.size + 1) (k * 5) rfl _ _ HRA.out Tryz.underlying80 rfl (by kernel_rfl) ?_)
            | (refine wpList_store_all rfl 80 _ _ rfl w.heap.size (rowL ⟨nm, sc, kd, fi, mo⟩) rfl rfl 80 _ C1.out rfl (by kernel_rfl) (rowL_one _) ?_; intro w4 h0 ho4 hs4; have H0 := Lib.hid h0; have HO := Lib.hid ho4; clear h0 ho4))
          refine bodyPost_ret (results_ctt (p := 2) (u := 3) (u2 := 4) (by kernel_rfl) _ _ w.heap.size _ _ _ rfl H0.out Tryz.underlying80 rfl (by kernel_rfl)) rfl ⟨by rw [HV.out]; rfl, ?_⟩
          exact HB1.out.trans (HO.out.below (by omega) (by simp))
      · have hno2 : ∀ x ∈ refL, (x.name == l) = false := by
          have h63 : refL.take k = refL := List.take_of_length_le (by rw [refL_len]; omega)
          rw [← h63]; exact hno.out
        have HV2b := Lib.hid (HV2.out hno2)
        have HV3b := Lib.hid (HV3.out hno2)
        have hki : (63 : Int) ≤ (k : Int) := by omega
        clear HV1 HV2 HV3 hno hno2
        go_wp2_with fail
        refine (H2.out _).mono ?_
        clear H2
        rintro e w3 ⟨rfl, rfl⟩
        clear hki
        go_wp2_with fail
        go_loop [10] (fun v => ∃ k : Nat, k ≤ 63 ∧ v = .int .i64 (k : Int) ∧ Hid (∀ x ∈ refL.take k, isR a x = false)) (fun v => 63 - (intOf v).toNat)
        case atStart => exact ⟨0, by omega, rfl, fun x hx => by simp at hx⟩
        case round =>
          obtain ⟨k, hk, rfl, hno⟩ := hrel
          rcases hir with hi0 | rfl
          · by_cases hlt : k < 63
            · obtain ⟨⟨nm, sc, kd, fi, mo⟩, ho⟩ : ∃ o, refL[k]? = some o := ⟨_, List.getElem?_eq_getElem (by rw [refL_len]; exact hlt)⟩
              have hra := HT.out.range (o := k * 5) (vs := rowL ⟨nm, sc, kd, fi, mo⟩) (rowsD_at ho)
              have c0 : w3.cell? ⟨w.heap.size + 1, k * 5, none⟩ = some (.string (bs nm)) := by
                have := hra 0 _ rfl
                simpa using this
              have c2 : w3.cell? ⟨w.heap.size + 1, k * 5 + 2, none⟩ = some (.string (bs kd)) := by
                have := hra 2 _ rfl
                simpa using this
              have HRA := Lib.hid hra
              have e0 : ((bs nm).toList == (bs a).toList) = (nm == a) := by rw [bs_tl, bs_tl]
              have e2 : ((bs kd).toList == [97, 114, 114, 97, 121]) = (kd == arrK) := by rw [bs_tl]; rfl
              cases hq : isR a ⟨nm, sc, kd, fi, mo⟩ with
              | false =>
                have HN := Lib.hid (take_more ho hno.out hq)
                clear hra ho HV2b HV3b hno
                cases hq0 : (nm == a) with
                | false =>
                  rw [hq0] at e0
                  clear hq hq0 e2 c2
                  go_wp2_with fail
                  go_round
                  case rel => exact ⟨k + 1, by omega, by go_num, HN.out⟩
                  case measure => simp [intOf]; omega
                | true =>
                  have hq2 : (kd == arrK) = false := by
                    unfold isR at hq
                    dsimp only at hq
                    rw [hq0] at hq
                    simpa using hq
                  rw [hq0] at e0
                  rw [hq2] at e2
                  clear hq hq0 hq2
                  go_wp2_with fail
                  go_round
                  case rel => exact ⟨k + 1, by omega, by go_num, HN.out⟩
                  case measure => simp [intOf]; omega
              | true =>
                have HV := Lib.hid (HV2b.out hi0 k _ ho hno.out hq)
                have hq0 : (nm == a) = true := by
                  unfold isR at hq
                  simp only [Bool.and_eq_true] at hq
                  exact hq.1
                have hq2 : (kd == arrK) = true := by
                  unfold isR at hq
                  simp only [Bool.and_eq_true] at hq
                  exact hq.2
                rw [hq0] at e0
                rw [hq2] at e2
                clear hq hq0 hq2 hra ho HV2b HV3b hno
                dsimp only [rowL] at HRA
                go_wp2_with (first
                  | (refine wpList_load_mid rfl 80 _ rfl (w.heap.size + 1) (k * 5) rfl _ _ HRA.out Tryz.underlying80 rfl (by kernel_rfl) ?_)
                  | (refine wpList_store_all rfl 80 _ _ rfl w.heap.size (rowL ⟨nm, sc, kd, fi, mo⟩) rfl rfl 80 _ C1.out rfl (by kernel_rfl) (rowL_one _) ?_; intro w4 h0 ho4 hs4; have H0 := Lib.hid h0; have HO := Lib.hid ho4; clear h0 ho4))
                refine bodyPost_ret (results_ctt (p := 2) (u := 3) (u2 := 4) (by kernel_rfl) _ _ w.heap.size _ _ _ rfl H0.out Tryz.underlying80 rfl (by kernel_rfl)) rfl ⟨by rw [HV.out]; rfl, ?_⟩
                exact HB1.out.trans (HO.out.below (by omega) (by simp))
            · have hno2 : ∀ x ∈ refL, isR a x = false := by
                have h63 : refL.take k = refL := List.take_of_length_le (by rw [refL_len]; omega)
                rw [← h63]; exact hno.out
              have HV := Lib.hid (HV3b.out (.inl hno2))
              have hki : (63 : Int) ≤ (k : Int) := by omega
              clear HV2b HV3b hno hno2
              go_wp2_with (refine wpList_store_all rfl 80 _ _ rfl w.heap.size (rowL zeroD) rfl rfl 80 _ C1.out rfl (by kernel_rfl) (rowL_one _) ?_; intro w4 h0 ho4 hs4; have H0 := Lib.hid h0; have HO := Lib.hid ho4; clear h0 ho4)
              refine bodyPost_ret (results_ctt (p := 2) (u := 3) (u2 := 4) (by kernel_rfl) _ _ w.heap.size _ _ _ rfl H0.out Tryz.underlying80 rfl (by kernel_rfl)) rfl ⟨by rw [HV.out]; rfl, ?_⟩
              exact HB1.out.trans (HO.out.below (by omega) (by simp))
          · have HV := Lib.hid (HV3b.out (.inr (by omega)))
            clear HV2b HV3b hno
            by_cases hlt : k < 63
            · go_wp2_with (refine wpList_store_all rfl 80 _ _ rfl w.heap.size (rowL zeroD) rfl rfl 80 _ C1.out rfl (by kernel_rfl) (rowL_one _) ?_; intro w4 h0 ho4 hs4; have H0 := Lib.hid h0; have HO := Lib.hid ho4; clear h0 ho4)
              refine bodyPost_ret (results_ctt (p := 2) (u := 3) (u2 := 4) (by kernel_rfl) _ _ w.heap.size _ _ _ rfl H0.out Tryz.underlying80 rfl (by kernel_rfl)) rfl ⟨by rw [HV.out]; rfl, ?_⟩
              exact HB1.out.trans (HO.out.below (by omega) (by simp))
            · have hki : (63 : Int) ≤ (k : Int) := by omega
              go_wp2_with (refine wpList_store_all rfl 80 _ _ rfl w.heap.size (rowL zeroD) rfl rfl 80 _ C1.out rfl (by kernel_rfl) (rowL_one _) ?_; intro w4 h0 ho4 hs4; have H0 := Lib.hid h0; have HO := Lib.hid ho4; clear h0 ho4)
              refine bodyPost_ret (results_ctt (p := 2) (u := 3) (u2 := 4) (by kernel_rfl) _ _ w.heap.size _ _ _ rfl H0.out Tryz.underlying80 rfl (by kernel_rfl)) rfl ⟨by rw [HV.out]; rfl, ?_⟩
              exact HB1.out.trans (HO.out.below (by omega) (by simp))
end Go.Proofs.YthmadnadaakjaaaGreatDoor.Opt
