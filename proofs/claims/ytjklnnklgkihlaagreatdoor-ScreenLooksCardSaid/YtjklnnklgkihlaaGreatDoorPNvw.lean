/- View: what it tells but for the rows. -/
import Derived.Test.YtjklnnklgkihlaaGreatDoorPbd
import Derived.Test.YtjklnnklgkihlaaGreatDoorPba
import Derived.Deep.AppendLies
import Derived.Deep.RegionHeld3
namespace Go.Proofs.YtjklnnklgkihlaaGreatDoor.Scr
open Go.RowKit Cel Sty Grd

theorem info_line : (Tryz.prog.info? 76).map (fun i => (i.zero, i.size, i.bytes)) = some (some (.slice none 0 0), 1, 24) := by kernel_rfl
set_option maxRecDepth 100000 in
/-- A row appended to a list of rows of the call's own, as a step of a region that draws. -/
theorem step_append_line {ops : Array Oper} {o : Oper} {a : Act} {w : World} {K : Act → World → Prop} {Q : Exit → Act → World → Prop} {E : Prop} (hgd : o.guard = none) (s x : Operand) (ho : o.op = .call { callee := .builtin .append, args := #[s, x], argTypes := #[39, 39] })
    (base : Nat) (v : Value) (n : Nat) (xs : List Value) (hs : a.eval s = v) (hown : w.ownsRow base 76 1 v n xs) (B : Nat) (u : Value) (hu : u.oneCell' = true) (hx : a.eval x = .slice (some ⟨B, 0, none⟩) 1 1) (hc : w.cell? ⟨B, 0, none⟩ = some u) (hn : n ≤ 1000) (hbase : base ≤ w.heap.size)
    (h : ∀ v' w', w'.ownsRow base 76 1 v' (n + 1) (xs ++ [u]) → w.grownBy w' v.ownBlock → K (a.put o.dst v') w') :
    if Region.wanted o (yielded ops a.tmps) = true then Oper.wp Tryz.prog o a w K Q else E := by
  have hi := info_line
  cases hq : Tryz.prog.info? 76 with
  | none => simp [hq] at hi
  | some i =>
    simp only [hq, Option.map_some, Option.some.injEq, Prod.mk.injEq] at hi
    obtain ⟨hz, hs1, hby⟩ := hi
    refine step_append_lies w hgd s x 39 ho base 76 i _ 1 24 Tryz.underlying39 hq hz hs1 hby rfl (by decide) v n xs hs hown ⟨B, 0, none⟩ 1 1 [u] hx rfl (fun j z hj => ?_) (fun z hz => by rw [List.mem_singleton] at hz; rw [hz]; exact hu) (by decide) (by unfold maxLen; omega) (by omega) hbase _ rfl fun g cap w' h1 h2 _ _ => h _ w' h1 h2
    match j, hj with
    | 0, hj =>
      simp at hj
      subst hj
      exact hc
section
variable {w : World} {sb g : Nat} {F : List Nat} {c lim : Nat} {past rows : List Ro} {pp tv : Value} {S : ScP}
def viewL (rv : Value) (S : ScP) : List Value := [rv, .int .i64 S.now.x, .int .i64 S.now.y, .bool (onM S.modes 8), .bool S.now.wait, .int .i64 (modesP none S), .string S.title]
set_option maxRecDepth 100000 in
set_option maxHeartbeats 4000000 in
theorem view_at (h : SG w sb g F c lim past rows pp tv S) :
    Calls Tryz.prog 20 #[ptrV sb] w fun e w' => ∃ Av nv cv, e = .returned (.agg (viewL (.slice Av nv cv) S).toArray) ∧ Below w.heap.size w w' := by
  have hr2 := h.grd.bd.r2
  have hlt := h.blk.lt
  have hB := fun V (hV : Below w.heap.size w V) => (h.below hV).blk
  have ks : ∀ V, Below w.heap.size w V → Calls Tryz.prog 29 #[.pointer (some ⟨sb, 0, none⟩)] V fun e w' => e = .returned (.pointer (some ⟨g, 0, none⟩)) ∧ V = w' := fun V hb => shown_at (h.below hb).blk
  have km : ∀ V, Below w.heap.size w V → Calls Tryz.prog 36 #[.pointer (some ⟨sb, 0, none⟩)] V fun e w' => e = .returned (.int .i64 (modesP none S)) ∧ V = w' := fun V hb => modes_at (h.below hb).blk
  have kr : ∀ V, Below w.heap.size w V → Calls Tryz.prog 15 #[.pointer (some ⟨g, 0, none⟩)] V fun e w' => e = .returned (.int .i64 (rows.length : Int)) ∧ V = w' := fun V hb => rows_ga (h.below hb).grd
  have kl : ∀ V k, k < rows.length → Below w.heap.size w V → Calls Tryz.prog 37 #[.pointer (some ⟨g, 0, none⟩), .int .i64 (k : Int)] V fun e w' => ∃ b n cap, e = .returned (.slice (some ⟨b, 0, none⟩) n cap) ∧ Below V.heap.size V w' := fun V k hk hb => by
    refine (line_ga ((h.below hb).grd.scr_row k hk)).mono ?_
    rintro e w' ⟨b, cap, he, _, _, hb2⟩
    exact ⟨b, _, cap, he, hb2⟩
  have h3 : ∀ V, Below w.heap.size w V → (V.cell? ⟨sb, 3, none⟩ = some (.int .i64 S.now.x) ∧ V.cell? ⟨sb, 4, none⟩ = some (.int .i64 S.now.y) ∧ V.cell? ⟨sb, 5, none⟩ = some (.bool S.now.wait) ∧ V.cell? ⟨sb, 33, none⟩ = some (.int .i64 S.modes) ∧ V.cell? ⟨sb, 37, none⟩ = some (.string S.title)) := fun V hV => ⟨(hB V hV).cell 3, (hB V hV).cell 4, (hB V hV).cell 5, (hB V hV).cell 33, (hB V hV).cell 37⟩
  obtain ⟨n, hn⟩ : ∃ n, rows.length = n := ⟨_, rfl⟩
  rw [hn] at kr kl hr2
  unfold viewL
  have hmode : onM S.modes 8 = (bits .and .i64 S.modes 8 != 0) := rfl
  rw [hmode]
  generalize modesP none S = mo at *
  generalize S.modes = m at *
  generalize S.now.x = x at *
  generalize S.now.y = y at *
  generalize S.now.wait = wt at *
  generalize S.title = ti at *
  have KS := Lib.hid ks
  have KM := Lib.hid km
  have KR := Lib.hid kr
  have KL := Lib.hid kl
  have H3 := Lib.hid h3
  clear h hB ks km kr kl h3 hmode hn
  have hbA : Below w.heap.size w (w.alloc (.cells #[.slice none 0 0, .int .i64 0, .int .i64 0, .bool false, .bool false, .int .i64 0, .string ByteArray.empty] 43)) := (Below.refl _ _).alloc (Nat.le_refl _) _
  unfold ptrV
  go_enter Tryz.func20, Tryz.ntmps20
  go_upto_region 1 with fail
  have hR := BL.new w 43 [.slice none 0 0, .int .i64 0, .int .i64 0, .bool false, .bool false, .int .i64 0, .string ByteArray.empty]
  have hWs : (w.alloc (.cells #[.slice none 0 0, .int .i64 0, .int .i64 0, .bool false, .bool false, .int .i64 0, .string ByteArray.empty] 43)).heap.size = w.heap.size + 1 := size_alloc _ _
  change BL (w.alloc (.cells #[.slice none 0 0, .int .i64 0, .int .i64 0, .bool false, .bool false, .int .i64 0, .string { data := #[] }] 43)) w.heap.size 43 _ at hR
  change (w.alloc (.cells #[.slice none 0 0, .int .i64 0, .int .i64 0, .bool false, .bool false, .int .i64 0, .string { data := #[] }] 43)).heap.size = _ at hWs
  change Below w.heap.size w (w.alloc (.cells #[.slice none 0 0, .int .i64 0, .int .i64 0, .bool false, .bool false, .int .i64 0, .string { data := #[] }] 43)) at hbA
  generalize w.alloc (.cells #[.slice none 0 0, .int .i64 0, .int .i64 0, .bool false, .bool false, .int .i64 0, .string { data := #[] }] 43) = W at *
  have SS : ∀ V, Below W.heap.size W V → (V.cell? ⟨sb, 3, none⟩ = some (.int .i64 x) ∧ V.cell? ⟨sb, 4, none⟩ = some (.int .i64 y) ∧ V.cell? ⟨sb, 5, none⟩ = some (.bool wt) ∧ V.cell? ⟨sb, 33, none⟩ = some (.int .i64 m) ∧ V.cell? ⟨sb, 37, none⟩ = some (.string ti) ∧ Below W.heap.size W V) := fun V hV => by
    obtain ⟨a1, a2, a3, a4, a5⟩ := H3.out V (hbA.trans (hV.mono hbA.size))
    exact ⟨a1, a2, a3, a4, a5, hV⟩
  have BA : ∀ (V : World) (o : Obj), Below W.heap.size W V → Below W.heap.size W (V.alloc o) := fun V o hV => hV.alloc hV.size o
  have hd : Below W.heap.size W W.drew := (Below.refl _ _).drew
  have hr0 : Below W.heap.size W W := Below.refl _ _
  go_region_held3 (fun V => V.cell? ⟨sb, 3, none⟩ = some (.int .i64 x) ∧ V.cell? ⟨sb, 4, none⟩ = some (.int .i64 y) ∧ V.cell? ⟨sb, 5, none⟩ = some (.bool wt) ∧ V.cell? ⟨sb, 33, none⟩ = some (.int .i64 m) ∧ V.cell? ⟨sb, 37, none⟩ = some (.string ti) ∧ Below W.heap.size W V)
    (first
      | exact SS _ hd
      | (refine SS _ ?_; assumption)
      | (refine SS _ (BA _ _ ?_); assumption)
      | (refine SS _ (BA _ _ ?_).drew; assumption)
      | fail)
    (first
      | (go_at_call 36; obtain ⟨_, _, _, _, _, kk⟩ := (by assumption : _ ∧ _ ∧ _ ∧ _ ∧ _ ∧ Below W.heap.size W _); refine (KM.out _ (hbA.trans (kk.mono hbA.size))).mono ?_; rintro _ w4 ⟨rfl, rfl⟩)
      | fail)
  all_goals
    have hV : BL (W.alloc (.cells #[.slice none 0 0, .int .i64 x, .int .i64 y, .bool (bits BinOp.and IntKind.i64 m 8 != 0), .bool wt, .int .i64 mo, .string ti] 43)).drew (w.heap.size + 1) 43 [.slice none 0 0, .int .i64 x, .int .i64 y, .bool (bits BinOp.and IntKind.i64 m 8 != 0), .bool wt, .int .i64 mo, .string ti] := by
      have := BL.new W 43 [.slice none 0 0, .int .i64 x, .int .i64 y, .bool (bits BinOp.and IntKind.i64 m 8 != 0), .bool wt, .int .i64 mo, .string ti]
      rw [hWs] at this
      exact this
    have hR0 : BL (W.alloc (.cells #[.slice none 0 0, .int .i64 x, .int .i64 y, .bool (bits BinOp.and IntKind.i64 m 8 != 0), .bool wt, .int .i64 mo, .string ti] 43)).drew w.heap.size 43 [.slice none 0 0, .int .i64 0, .int .i64 0, .bool false, .bool false, .int .i64 0, .string { data := #[] }] := hR.alloc _
    have hb0 : Below w.heap.size w (W.alloc (.cells #[.slice none 0 0, .int .i64 x, .int .i64 y, .bool (bits BinOp.and IntKind.i64 m 8 != 0), .bool wt, .int .i64 mo, .string ti] 43)).drew := (hbA.alloc hbA.size _).drew
    have hs0 : w.heap.size + 2 ≤ (W.alloc (.cells #[.slice none 0 0, .int .i64 x, .int .i64 y, .bool (bits BinOp.and IntKind.i64 m 8 != 0), .bool wt, .int .i64 mo, .string ti] 43)).drew.heap.size := by
      have : (W.alloc (.cells #[.slice none 0 0, .int .i64 x, .int .i64 y, .bool (bits BinOp.and IntKind.i64 m 8 != 0), .bool wt, .int .i64 mo, .string ti] 43)).heap.size = W.heap.size + 1 := size_alloc _ _
      show _ ≤ (W.alloc _).heap.size
      omega
    clear SS BA hd hr0 hR hbA
    generalize (W.alloc (.cells #[.slice none 0 0, .int .i64 x, .int .i64 y, .bool (bits BinOp.and IntKind.i64 m 8 != 0), .bool wt, .int .i64 mo, .string ti] 43)).drew = V0 at *
    generalize hcu : (bits BinOp.and IntKind.i64 m 8 != 0) = cu at *
    go_wp2_with (first
      | (go_at_call 29; refine (KS.out _ hb0).mono ?_; rintro _ _ ⟨rfl, rfl⟩)
      | (go_at_call 15; refine (KR.out _ hb0).mono ?_; rintro _ _ ⟨rfl, rfl⟩))
  all_goals
    go_loopw [39] (fun i wr => ∃ (k : Nat) (rv : Value) (vals : List Value), k ≤ n ∧ i = .int .i64 (k : Int) ∧ wr.ownsRow (w.heap.size + 2) 76 1 rv k vals ∧ BL wr (w.heap.size + 1) 43 [rv, .int .i64 x, .int .i64 y, .bool cu, .bool wt, .int .i64 mo, .string ti] ∧ BL wr w.heap.size 43 [.slice none 0 0, .int .i64 0, .int .i64 0, .bool false, .bool false, .int .i64 0, .string { data := #[] }] ∧ Below w.heap.size w wr ∧ w.heap.size + 2 ≤ wr.heap.size) (fun i _ => n - (intOf i).toNat)
    case atStart => exact ⟨0, _, [], Nat.zero_le _, rfl, World.ownsRow_nil _ _ _ _, hV, hR0, hb0, hs0⟩
    case round =>
      obtain ⟨k, rv, vals, hk, rfl, hOw, hBV, hBR, hb, hsz⟩ := hrel
      clear hV hR0 hb0 hs0
      obtain ⟨Ar, cr, rfl⟩ := Vt.own_slice hOw
      have k0 : (0 : Int) ≤ (k : Int) := Int.natCast_nonneg _
      by_cases hlt2 : k < n
      · have k1 : (k : Int) < (n : Int) := by omega
        have od : Only [] wr wr.drew := (Only.refl _ _).drew
        have hbd : Below w.heap.size w wr.drew := hb.drew
        have hBVd := hBV.only od (by simp)
        have hBRd := hBR.only od (by simp)
        have c0 : wr.drew.cell? ⟨w.heap.size + 1, 0, none⟩ = some (.slice Ar k cr) := hBVd.cell 0
        have k2 := KL.out _ _ hlt2 hbd
        have ks2 := KS.out _ hbd
        have hOwd : wr.drew.ownsRow (w.heap.size + 2) 76 1 (.slice Ar k cr) k vals := own_only hOw od (by simp)
        have hne1 : some (w.heap.size + 1) ≠ (Value.slice Ar k cr).ownBlock := fun e => by have := (hOw.lt _ e.symm).1; omega
        have hne0 : some w.heap.size ≠ (Value.slice Ar k cr).ownBlock := fun e => by have := (hOw.lt _ e.symm).1; omega
        have HBV := Lib.hid hBVd
        have HBR := Lib.hid hBRd
        have HOW := Lib.hid hOwd
        clear hBVd hBRd hOwd hOw hBV hBR
        have hn1 : k ≤ 1000 := by omega
        go_wp2_with fail
        go_region_law
          (first
            | (refine step_append_line rfl (.tmp 43) (.tmp 48) rfl (w.heap.size + 2) (.slice Ar k cr) k vals rfl (own_only HOW.out (hbo.alloc _) (by simp)) w2.heap.size (.slice (some ⟨lb, 0, none⟩) ln lc) rfl rfl (BL.cell (BL.new w2 76 [.slice (some ⟨lb, 0, none⟩) ln lc]) 0) hn1 hsz2 ?_; intro v3 w3 hown3 hgr3; obtain ⟨A3, c3, rfl⟩ := Vt.own_slice hown3; have hB3 : BL w3 (w.heap.size + 1) 43 [.slice Ar k cr, .int .i64 x, .int .i64 y, .bool cu, .bool wt, .int .i64 mo, .string ti] := (hgr3.block _ (Nat.lt_of_lt_of_le (Nat.lt_succ_self _) hsz2) hne1).trans (HBV.out.only (hbo.alloc _) (by simp)); have hR3 : BL w3 w.heap.size 43 [.slice none 0 0, .int .i64 0, .int .i64 0, .bool false, .bool false, .int .i64 0, .string { data := #[] }] := (hgr3.block _ (Nat.lt_of_lt_of_le (Nat.lt_succ_of_lt (Nat.lt_succ_self _)) hsz2) hne0).trans (HBR.out.only (hbo.alloc _) (by simp)); have o3 : Only [] wr.drew (w2.alloc (.cells #[.slice (some ⟨lb, 0, none⟩) ln lc] 76)) := hbo.alloc _; have z0 : w3.cell? ⟨w.heap.size + 1, 0, none⟩ = some (.slice Ar k cr) := hB3.cell 0; have z0f := hB3.frozen 0)
            | (go_simp; go_at_call 29; refine ks2.mono ?_; rintro _ w1 ⟨rfl, rfl⟩)
            | (go_simp; go_at_call 37; refine k2.mono ?_; rintro _ w2 ⟨lb, ln, lc, rfl, hb2⟩; have hbo : Only [] wr.drew w2 := Only.of_below hb2; have c2 : w2.cell? ⟨w.heap.size + 1, 0, none⟩ = some (.slice Ar k cr) := (HBV.out.only hbo (by simp)).cell 0; have hsz2 : w.heap.size + 2 ≤ (w2.alloc (.cells #[.slice (some ⟨lb, 0, none⟩) ln lc] 76)).heap.size := (by have q1 := hbo.size; have q2 : (w2.alloc (.cells #[.slice (some ⟨lb, 0, none⟩) ln lc] 76)).heap.size = w2.heap.size + 1 := size_alloc _ _; have q3 : wr.drew.heap.size = wr.heap.size := rfl; omega); have c23 : (w2.alloc (.cells #[.slice (some ⟨lb, 0, none⟩) ln lc] 76)).cell? ⟨w.heap.size + 1, 0, none⟩ = some (.slice Ar k cr) := (HBV.out.only (hbo.alloc _) (by simp)).cell 0))
        all_goals
          have hB4 := hB3.set_ 0 (.slice A3 (k + 1) c3)
          have hR4 := hR3.only (one_set w3 (w.heap.size + 1) 0 (.slice A3 (k + 1) c3)) (by simp)
          have hO4 := own_only hown3 (one_set w3 (w.heap.size + 1) 0 (.slice A3 (k + 1) c3)) (fun b hb hm => by
            have := (hown3.lt b hb).1
            rw [List.mem_singleton] at hm
            omega)
          have hgO : Only ((Value.slice Ar k cr).ownBlock.toList) (w2.alloc (.cells #[.slice (some ⟨lb, 0, none⟩) ln lc] 76)) w3 := ⟨hgr3.os, hgr3.tape, hgr3.output, hgr3.size, fun i hi hn => hgr3.block i hi fun e => hn (by rw [← e]; simp)⟩
          have hb4 : Below w.heap.size w (w3.setCell ⟨w.heap.size + 1, 0, none⟩ (.slice A3 (k + 1) c3)) := by
            have q1 : Below w.heap.size w (w2.alloc (.cells #[.slice (some ⟨lb, 0, none⟩) ln lc] 76)) := hbd.trans (o3.below (Nat.le_trans (Nat.le_of_lt (Nat.lt_succ_of_lt (Nat.lt_succ_self _))) hsz) (by simp))
            have q2 : Below w.heap.size (w2.alloc (.cells #[.slice (some ⟨lb, 0, none⟩) ln lc] 76)) w3 := hgO.below q1.size fun x hx => by
              have := (HOW.out.lt x (by simpa [Option.mem_toList] using hx)).1
              omega
            exact (q1.trans q2).trans ((one_set w3 (w.heap.size + 1) 0 (.slice A3 (k + 1) c3)).below (q1.trans q2).size (by simp))
          have hs4 : w.heap.size + 2 ≤ (w3.setCell ⟨w.heap.size + 1, 0, none⟩ (.slice A3 (k + 1) c3)).heap.size := Nat.le_trans hsz2 (Nat.le_trans hgr3.size (one_set w3 (w.heap.size + 1) 0 (.slice A3 (k + 1) c3)).size)
          have H4 := Lib.hid hB4
          have HR4 := Lib.hid hR4
          have HO4 := Lib.hid hO4
          have Hb4 := Lib.hid hb4
          have Hs4 := Lib.hid hs4
          clear hB4 hR4 hO4 hb4 hs4 hgO hB3 hR3 hown3 hgr3 o3 z0 z0f hsz2 c2 c23 hbo hb2 HOW HBV HBR hne1 hne0
          go_wp2_with fail
          go_roundw
          case rel => exact ⟨k + 1, _, _, by omega, by go_num, HO4.out, H4.out, HR4.out, Hb4.out, Hs4.out⟩
          case measure => simp [intOf]; omega
      · obtain rfl : k = n := by omega
        have y0 : wr.cell? ⟨w.heap.size + 1, 0, none⟩ = some (.slice Ar k cr) := hBV.cell 0
        have y1 : wr.cell? ⟨w.heap.size + 1, 1, none⟩ = some (.int .i64 x) := hBV.cell 1
        have y2 : wr.cell? ⟨w.heap.size + 1, 2, none⟩ = some (.int .i64 y) := hBV.cell 2
        have y3 : wr.cell? ⟨w.heap.size + 1, 3, none⟩ = some (.bool cu) := hBV.cell 3
        have y4 : wr.cell? ⟨w.heap.size + 1, 4, none⟩ = some (.bool wt) := hBV.cell 4
        have y5 : wr.cell? ⟨w.heap.size + 1, 5, none⟩ = some (.int .i64 mo) := hBV.cell 5
        have y6 : wr.cell? ⟨w.heap.size + 1, 6, none⟩ = some (.string ti) := hBV.cell 6
        go_wp2_with (refine wpList_store_bl rfl 43 (.tmp 2) (.tmp 52) rfl w.heap.size 0 [.slice Ar k cr, .int .i64 x, .int .i64 y, .bool cu, .bool wt, .int .i64 mo, .string ti] rfl rfl _ _ hBR (by kernel_rfl) (by simp) (by kernel_rfl) ?_; intro w2 hB2 hw2)
        have hB9 : BL w2 w.heap.size 43 [.slice Ar k cr, .int .i64 x, .int .i64 y, .bool cu, .bool wt, .int .i64 mo, .string ti] := hB2
        exact bodyPost_ret (v := .agg #[.slice Ar k cr, .int .i64 x, .int .i64 y, .bool cu, .bool wt, .int .i64 mo, .string ti]) (results_cell (p := 2) (by kernel_rfl) _ _ w.heap.size _ _ _ _ rfl hB9 Tryz.underlying43 rfl (by kernel_rfl)) rfl ⟨Ar, k, cr, by rw [hcu], hb.trans (hw2.only.below hb.size (by simp))⟩
end
end Go.Proofs.YtjklnnklgkihlaaGreatDoor.Scr
