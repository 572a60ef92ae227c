/- A screen's state in plain words; a new one; tab stops of a new screen. -/
import Derived.Test.YtjklnnklgkihlaaGreatDoorPaa
import Derived.Test.YtjklnnklgkihlaaGreatDoorPac
import Derived.Laws.MakeOwn
import Derived.Deep.RegionHeld3
import Derived.Test.YtjklnnklgkihlaaGreatDoorPal
namespace Go.Proofs.YtjklnnklgkihlaaGreatDoor.Scr
open Go.RowKit Cel Sty Grd

/-- What can be saved. -/
structure StP where
  x : Int
  y : Int
  wait : Bool
  pen : St
  origin : Bool
  l0 : Bool
  l1 : Bool
  cs : Int
def stC (s : StP) : List Value := [.int .i64 s.x, .int .i64 s.y, .bool s.wait, .int .i64 s.pen.1, .int .i64 s.pen.2.1, .int .i64 s.pen.2.2, .bool s.origin, .bool s.l0, .bool s.l1, .int .i64 s.cs]
def newS : StP := ⟨0, 0, false, (-1, -1, 0), false, false, false, 0⟩
/-- All of a screen but its parser, its grids, its tab stops. -/
structure ScP where
  now : StP
  s0 : StP
  s1 : StP
  modes : Int
  top : Int
  bottom : Int
  title : ByteArray
  last : Int
  bells : Int
def scL (pp mp op tv : Value) (S : ScP) : List Value := [pp, mp, op] ++ (stC S.now ++ (stC S.s0 ++ (stC S.s1 ++ [.int .i64 S.modes, .int .i64 S.top, .int .i64 S.bottom, tv, .string S.title, .int .i32 S.last, .int .i64 S.bells])))
theorem scL_len (pp mp op tv : Value) (S : ScP) : (scL pp mp op tv S).length = 40 := rfl
set_option maxRecDepth 100000 in
theorem plainS_any (w : World) :
    Calls Tryz.prog 10 #[] w fun e w' => e = .returned (.agg #[.int .i64 (-1), .int .i64 (-1), .int .i64 0]) ∧ Below w.heap.size w w' := by
  go_enter Tryz.func10, Tryz.ntmps10
  go_wp2
  exact bodyPost_ret (v := .agg #[.int .i64 (-1), .int .i64 (-1), .int .i64 0]) (by simp [results, Tryz.results10, go_sem]) rfl ⟨rfl, (Below.refl _ _).alloc (Nat.le_refl _) _⟩
set_option maxRecDepth 100000 in
theorem newState_any (w : World) : Calls Tryz.prog 63 #[] w fun e w' => e = .returned (.agg (stC newS).toArray) ∧ Below w.heap.size w w' := by
  have hZ := BL.new w 56 [.int .i64 0, .int .i64 0, .bool false, .int .i64 0, .int .i64 0, .int .i64 0, .bool false, .bool false, .bool false, .int .i64 0]
  have hb0 : Below w.heap.size w (w.alloc (.cells #[.int .i64 0, .int .i64 0, .bool false, .int .i64 0, .int .i64 0, .int .i64 0, .bool false, .bool false, .bool false, .int .i64 0] 56)) := (Below.refl _ _).alloc (Nat.le_refl _) _
  go_enter Tryz.func63, Tryz.ntmps63
  go_wp2_with (first
    | (go_at_call 10; refine (plainS_any _).mono ?_; rintro _ w1 ⟨rfl, hb1⟩; have hZ1 := hZ.only (F := []) (Only.of_below hb1) (by simp); have hbw := hb0.trans (hb1.mono hb0.size))
    | (refine wpList_store_bl rfl 56 (.tmp 0) (.tmp 2) rfl w.heap.size 0 (stC newS) rfl rfl _ _ hZ1 (by kernel_rfl) (by simp [stC]) (by kernel_rfl) ?_; intro w2 hB2 hw2))
  have hB3 : BL w2 w.heap.size 56 (stC newS) := hB2
  exact bodyPost_ret (v := .agg (stC newS).toArray) (results_cell (p := 0) (by kernel_rfl) _ _ w.heap.size _ _ _ _ rfl hB3 Tryz.underlying56 rfl (by kernel_rfl)) rfl ⟨rfl, hbw.trans (hw2.only.below (by have := hbw.size; omega) (by simp))⟩
/-- The tab stops of so many columns, anew. -/
def tabsL (n : Nat) : List Bool := (List.range n).map fun x => decide (0 < x ∧ x % 8 = 0)
theorem tabsL_len (n : Nat) : (tabsL n).length = n := by simp [tabsL]
def boolsV (l : List Bool) : List Value := l.map Value.bool
theorem info_bool : (Tryz.prog.info? 4).map (fun i => (i.zero, i.size, i.bytes)) = some (some (.bool false), 1, 1) := by kernel_rfl
section
variable {ops : Array Oper} {rest : List Oper} {op : Oper} {a : Act} {w : World} {Q : Exit → Act → World → Prop}
theorem wpList_make_bools (hgd : op.guard = none) (x y : Operand) (ho : op.op = .makeSlice 58 x y) (n : Nat) (hx : a.eval x = .int .i64 (n : Int)) (hy : a.eval y = .int .i64 (n : Int)) (hn : n ≤ 1000000)
    (h : ∀ w1, BL w1 w.heap.size 4 (boolsV (List.replicate n false)) → Below w.heap.size w w1 → wpList Tryz.prog ops Q rest (a.put op.dst (.slice (some ⟨w.heap.size, 0, none⟩) n n)) w1) : wpList Tryz.prog ops Q (op :: rest) a w := by
  have hi := info_bool
  cases hq : Tryz.prog.info? 4 with
  | none => simp [hq] at hi
  | some i =>
    simp only [hq, Option.map_some, Option.some.injEq, Prod.mk.injEq] at hi
    obtain ⟨hz, hs, hby⟩ := hi
    refine wpList_plain hgd fun K hK => ?_
    have hrun := run_make (P := Tryz.prog) w 58 4 i _ Tryz.underlying58 hq hz .i64 .i64 (n : Int) (n : Int) (Int.natCast_nonneg _) (Int.le_refl _) (by rw [hby, ← Int.natCast_mul]; omega) (by omega)
    have hf : (List.replicate n [Value.bool false]).flatten = boolsV (List.replicate n false) := by
      unfold boolsV
      rw [List.map_replicate]
      induction n with
      | zero => rfl
      | succ n ih => simp_all [List.replicate_succ]
    have hl : (madeCells (Value.cells (.bool false)) ((n : Int).toNat * i.size)) = (boolsV (List.replicate n false)).toArray := by
      rw [hs, Int.toNat_natCast, ← hf]
      have hmc := madeCells_rep [.bool false] n
      rw [← hmc]
      rfl
    rw [hl, Int.toNat_natCast] at hrun
    have hk := hK _ _ (h _ (BL.new w 4 _) ((Below.refl _ _).alloc (Nat.le_refl _) _))
    generalize w.alloc (.cells (boolsV (List.replicate n false)).toArray 4) = w2 at hk hrun
    unfold Oper.wp
    simp [execOp, ho, hx, hy, hrun, Result.andThen]
    exact hk
end
/-- The first k tab stops of n, the others not yet. -/
def tabsK (n k : Nat) : List Bool := (tabsL n).take k ++ List.replicate (n - k) false
theorem tabsK_set {n k : Nat} (h : k < n) : (boolsV (tabsK n k)).set k (.bool (decide (0 < k ∧ k % 8 = 0))) = boolsV (tabsK n (k + 1)) := by
  unfold boolsV
  rw [← List.map_set]
  congr 1
  unfold tabsK
  have hl : ((tabsL n).take k).length = k := by rw [List.length_take, tabsL_len]; omega
  obtain ⟨d, hd⟩ : ∃ d, n - k = d + 1 := ⟨n - k - 1, by omega⟩
  rw [List.set_append_right _ _ (by omega), hl, Nat.sub_self, hd, List.replicate_succ, List.set_cons_zero, List.take_succ_eq_append_getElem (by rw [tabsL_len]; exact h), show n - (k + 1) = d by omega]
  simp [tabsL]
set_option maxRecDepth 100000 in
set_option maxHeartbeats 1000000 in
theorem tabs_new (n : Nat) (hn : n ≤ 250) (w : World) : Calls Tryz.prog 65 #[.slice none 0 0, .int .i64 (n : Int)] w fun e w' => ∃ b, e = .returned (.slice (some ⟨b, 0, none⟩) n n) ∧ w.heap.size ≤ b ∧ BL w' b 4 (boolsV (tabsL n)) ∧ Below w.heap.size w w' := by
  go_enter Tryz.func65, Tryz.ntmps65
  go_wp2_with (first
    | (refine wpList_make_bools rfl (.tmp 7) (.tmp 7) rfl n rfl rfl (by omega) ?_; intro w1 hm hb1)
    | (refine wpList_copy_nil rfl (.tmp 9) (.tmp 10) 58 58 rfl 4 Tryz.underlying58 (by kernel_rfl) _ _ _ rfl rfl ?_))
  go_loopw [6] (fun i wr => ∃ k : Nat, k ≤ n ∧ i = .int .i64 (k : Int) ∧ BL wr w.heap.size 4 (boolsV (tabsK n k)) ∧ Below w.heap.size w wr) (fun i _ => n - (intOf i).toNat)
  case atStart => exact ⟨0, Nat.zero_le _, rfl, by simpa [tabsK] using hm, hb1⟩
  case round =>
    obtain ⟨k, hk, rfl, hB, hb⟩ := hrel
    clear hm hb1
    have k0 : (0 : Int) ≤ (k : Int) := Int.natCast_nonneg _
    have hll : (boolsV (tabsK n k)).length = n := by unfold boolsV tabsK; simp [tabsL_len]; omega
    by_cases hlt : k < n
    · have k1 : (k : Int) < (n : Int) := by omega
      have hst := tabsK_set hlt
      have hBn := fun v => hB.set_ k (.bool v)
      have hon := fun v => hb.trans ((((Only.refl [w.heap.size] wr).setCell (p := ⟨w.heap.size, k, none⟩) (.inl (by simp)) (.bool v)).below (B := w.heap.size) hb.size (by simp)))
      obtain ⟨u, hu⟩ : ∃ u, (boolsV (tabsK n k))[k]? = some u := ⟨_, List.getElem?_eq_getElem (by omega)⟩
      have c0 : wr.cell? ⟨w.heap.size, k, none⟩ = some u := (hB.cell k).trans hu
      have c1 := hB.frozen k
      have HB := Lib.hid hBn
      have HO := Lib.hid hon
      have HS := Lib.hid hst
      clear hst hB hBn hon hu hll
      by_cases hz : k = 0
      · subst hz
        go_wp2_with fail
        go_roundw
        case rel => exact ⟨1, by omega, by go_num, HS.out ▸ HB.out _, HO.out _⟩
        case measure => simp [intOf]; omega
      · have hp : (0 : Int) < (k : Int) := by omega
        have hq : ((k : Int) % 8 == 0) = decide (0 < k ∧ k % 8 = 0) := by
          by_cases h8 : k % 8 = 0
          · rw [decide_eq_true (p := 0 < k ∧ k % 8 = 0) ⟨by omega, h8⟩]; simp; omega
          · rw [decide_eq_false (p := 0 < k ∧ k % 8 = 0) (fun e => h8 e.2)]; simp; omega
        generalize decide (0 < k ∧ k % 8 = 0) = d at *
        go_wp2_with fail
        go_roundw
        case rel => exact ⟨k + 1, by omega, by go_num, HS.out ▸ HB.out _, HO.out _⟩
        case measure => simp [intOf]; omega
    · obtain rfl : k = n := by omega
      have hfin : BL wr w.heap.size 4 (boolsV (tabsL k)) := by
        have e : tabsK k k = tabsL k := by unfold tabsK; rw [List.take_of_length_le (by rw [tabsL_len]; exact Nat.le_refl _), Nat.sub_self]; simp
        rw [e] at hB
        exact hB
      go_wp2_with fail
      go_ret
      exact ⟨_, rfl, Nat.le_refl _, hfin, hb⟩
end Go.Proofs.YtjklnnklgkihlaaGreatDoor.Scr
/- What a rune's print asks of a screen. -/
namespace Go.Proofs.YtjklnnklgkihlaaGreatDoor.Scr
open Go.RowKit Cel Sty Grd

def ptrV (b : Nat) : Value := .pointer (some ⟨b, 0, none⟩)
def optV : Option Nat → Value
  | none => .pointer none
  | some b => ptrV b
/-- Which grid is seen. -/
def seen (g : Nat) : Option Nat → Nat
  | none => g
  | some b => b
abbrev scB (w : World) (sb : Nat) (pp : Value) (g : Nat) (o : Option Nat) (tv : Value) (S : ScP) : Prop := BL w sb 60 (scL pp (ptrV g) (optV o) tv S)
section
variable {w : World} {sb g : Nat} {pp tv : Value} {o : Option Nat} {S : ScP}
set_option maxRecDepth 100000 in
theorem shown_at (h : scB w sb pp g o tv S) : Calls Tryz.prog 29 #[ptrV sb] w fun e w' => e = .returned (ptrV (seen g o)) ∧ w = w' := by
  have h1 := h.cell 1
  have h2 := h.cell 2
  cases o with
  | none =>
    have e1 : w.cell? ⟨sb, 1, none⟩ = some (.pointer (some ⟨g, 0, none⟩)) := h1
    have e2 : w.cell? ⟨sb, 2, none⟩ = some (.pointer none) := h2
    clear h1 h2
    unfold ptrV seen
    go_enter Tryz.func29, Tryz.ntmps29
    go_wp2_with fail
    go_ret
    exact ⟨rfl, rfl⟩
  | some b =>
    have e1 : w.cell? ⟨sb, 1, none⟩ = some (.pointer (some ⟨g, 0, none⟩)) := h1
    have e2 : w.cell? ⟨sb, 2, none⟩ = some (.pointer (some ⟨b, 0, none⟩)) := h2
    clear h1 h2
    unfold ptrV seen
    go_enter Tryz.func29, Tryz.ntmps29
    go_wp2_with fail
    go_ret
    exact ⟨rfl, rfl⟩
set_option maxRecDepth 100000 in
theorem blank_at (h : scB w sb pp g o tv S) : Calls Tryz.prog 82 #[ptrV sb] w fun e w' => e = .returned (.agg #[.int .i64 (-1), .int .i64 S.now.pen.2.1, .int .i64 0]) ∧ Below w.heap.size w w' := by
  have hlt := h.lt
  have hb0 : Below w.heap.size w (w.alloc (.cells #[.int .i64 0, .int .i64 0, .int .i64 0] 23)) := (Below.refl _ _).alloc (Nat.le_refl _) _
  have e7 : (w.alloc (.cells #[.int .i64 0, .int .i64 0, .int .i64 0] 23)).cell? ⟨sb, 7, none⟩ = some (.int .i64 S.now.pen.2.1) := (hb0.cell (p := ⟨sb, 7, none⟩) hlt).trans (h.cell 7)
  generalize S.now.pen.2.1 = bg at *
  have hb1 : Below w.heap.size w (w.alloc (.cells #[.int .i64 (-1), .int .i64 bg, .int .i64 0] 23)) := (Below.refl _ _).alloc (Nat.le_refl _) _
  clear h
  unfold ptrV
  go_enter Tryz.func82, Tryz.ntmps82
  go_wp2_with fail
  exact bodyPost_ret (v := .agg #[.int .i64 (-1), .int .i64 bg, .int .i64 0]) (results_cell (p := 2) (by kernel_rfl) _ _ w.heap.size _ _ _ _ rfl (BL.new w 23 [.int .i64 (-1), .int .i64 bg, .int .i64 0]) Tryz.underlying23 rfl (by kernel_rfl)) rfl ⟨rfl, hb1⟩
/-- Does the charset at hand have lines? -/
def hasLines (s : StP) : Bool := if s.cs = 0 then s.l0 else s.l1
set_option maxRecDepth 100000 in
theorem inCharset_off (h : scB w sb pp g o tv S) (hc : S.now.cs = 0 ∨ S.now.cs = 1) (hl : hasLines S.now = false) (r : Int) :
    Calls Tryz.prog 79 #[ptrV sb, .int .i32 r] w fun e w' => e = .returned (.int .i32 r) ∧ Below w.heap.size w w' := by
  have hd : Below w.heap.size w w.drew := (Below.refl _ _).drew
  have e12 : w.drew.cell? ⟨sb, 12, none⟩ = some (.int .i64 S.now.cs) := h.cell 12
  have e10 : w.drew.cell? ⟨sb, 10, none⟩ = some (.bool S.now.l0) := h.cell 10
  have e11 : w.drew.cell? ⟨sb, 11, none⟩ = some (.bool S.now.l1) := h.cell 11
  unfold hasLines at hl
  clear h
  rcases hc with hc | hc
  · rw [if_pos hc] at hl
    rw [hc] at e12
    rw [hl] at e10
    clear hl hc e11
    unfold ptrV
    go_enter Tryz.func79, Tryz.ntmps79
    go_wp2_with fail
    go_region
    all_goals go_wp2_with fail
    all_goals go_ret
    all_goals exact ⟨rfl, hd⟩
  · rw [if_neg (by omega)] at hl
    rw [hc] at e12
    rw [hl] at e11
    clear hl hc e10
    unfold ptrV
    go_enter Tryz.func79, Tryz.ntmps79
    go_wp2_with fail
    go_region
    all_goals go_wp2_with fail
    all_goals go_ret
    all_goals exact ⟨rfl, hd⟩
end
end Go.Proofs.YtjklnnklgkihlaaGreatDoor.Scr
/- Going on behind a rune. -/
namespace Go.Proofs.YtjklnnklgkihlaaGreatDoor.Scr
open Go.RowKit Cel Sty Grd

def ScP.setX (S : ScP) (v : Int) : ScP := { S with now := { S.now with x := v } }
def ScP.setY (S : ScP) (v : Int) : ScP := { S with now := { S.now with y := v } }
def ScP.setW (S : ScP) (v : Bool) : ScP := { S with now := { S.now with wait := v } }
def ScP.setL (S : ScP) (v : Int) : ScP := { S with last := v }
section
variable {w : World} {sb g : Nat} {pp tv : Value} {o : Option Nat} {S : ScP}
theorem scB.x (h : scB w sb pp g o tv S) (v : Int) : scB (w.setCell ⟨sb, 3, none⟩ (.int .i64 v)) sb pp g o tv (S.setX v) := h.set_ 3 (.int .i64 v)
theorem scB.y (h : scB w sb pp g o tv S) (v : Int) : scB (w.setCell ⟨sb, 4, none⟩ (.int .i64 v)) sb pp g o tv (S.setY v) := h.set_ 4 (.int .i64 v)
theorem scB.wait (h : scB w sb pp g o tv S) (v : Bool) : scB (w.setCell ⟨sb, 5, none⟩ (.bool v)) sb pp g o tv (S.setW v) := h.set_ 5 (.bool v)
theorem scB.last (h : scB w sb pp g o tv S) (v : Int) : scB (w.setCell ⟨sb, 38, none⟩ (.int .i32 v)) sb pp g o tv (S.setL v) := h.set_ 38 (.int .i32 v)
theorem one_set (w : World) (sb i : Nat) (v : Value) : Only [sb] w (w.setCell ⟨sb, i, none⟩ v) := (Only.refl _ _).setCell (p := ⟨sb, i, none⟩) (.inl (by simp)) v
/-- Is a mode on? -/
def onM (m k : Int) : Bool := bits .and .i64 m k != 0
def goOnP (c : Int) (wr : Bool) (wd : Int) (S : ScP) : ScP := if c ≤ S.now.x + wd then (S.setX (c - 1)).setW wr else S.setX (S.now.x + wd)
set_option maxRecDepth 100000 in
set_option maxHeartbeats 1000000 in
theorem goOn_at (h : scB w sb pp g o tv S) (c : Int) (hcol : ∀ V, Only [sb] w V → Calls Tryz.prog 14 #[ptrV g] V fun e w' => e = .returned (.int .i64 c) ∧ V = w')
    (hc1 : 1 ≤ c) (hc2 : c ≤ 250) (hx0 : 0 ≤ S.now.x) (hx1 : S.now.x ≤ 250) (wd : Int) (hw0 : 0 ≤ wd) (hw1 : wd ≤ 250) :
    Calls Tryz.prog 84 #[ptrV sb, .int .i64 wd] w fun e w' => e = .returned (.tuple #[]) ∧ scB w' sb pp g o tv (goOnP c (onM S.modes 1) wd S) ∧ Only [sb] w w' := by
  have e3 : w.cell? ⟨sb, 3, none⟩ = some (.int .i64 S.now.x) := h.cell 3
  have e3f := h.frozen 3
  obtain ⟨x, hx⟩ : ∃ x, S.now.x = x := ⟨_, rfl⟩
  have HX := Lib.hid hx
  rw [hx] at e3 hx0 hx1
  clear hx
  have j1 : IntKind.i64.wrap (x + wd) = x + wd := IntWalk.i64_in _ ⟨by omega, by omega⟩
  have j2 : IntKind.i64.wrap (c - 1) = c - 1 := IntWalk.i64_in _ ⟨by omega, by omega⟩
  have HA := Lib.hid (h.x (x + wd))
  have HO := Lib.hid (one_set w sb 3 (.int .i64 (x + wd)))
  have HC := Lib.hid hcol
  clear h hcol
  unfold ptrV
  go_enter Tryz.func84, Tryz.ntmps84
  go_upto_region 1 with fail
  clear e3 e3f
  generalize w.setCell ⟨sb, 3, none⟩ (.int .i64 (x + wd)) = W at *
  have a3 : W.drew.cell? ⟨sb, 3, none⟩ = some (.int .i64 (x + wd)) := HA.out.cell 3
  have a1 : W.drew.cell? ⟨sb, 1, none⟩ = some (.pointer (some ⟨g, 0, none⟩)) := HA.out.cell 1
  have hd : Only [sb] w W.drew := HO.out.drew
  obtain ⟨m, hm⟩ : ∃ m, S.modes = m := ⟨_, rfl⟩
  have HM := Lib.hid hm
  clear hm
  go_cut [27] (fun s27 wx => s27 = .bool (decide (c ≤ x + wd)) ∧ scB wx sb pp g o tv (S.setX (x + wd)) ∧ Only [sb] w wx)
  case first =>
    go_region_with (go_at_call 14; refine (HC.out _ hd).mono ?_; rintro _ w4 ⟨rfl, rfl⟩)
    all_goals go_wp2_with fail
    all_goals go_meet
    all_goals exact ⟨rfl, HA.out, hd⟩
  case rest =>
    obtain ⟨rfl, hB, hO⟩ := hcut
    clear a3 a1 hd HA HO
    by_cases hge : c ≤ x + wd
    · have dg : decide (c ≤ x + wd) = true := by simpa using hge
      have b1 : wc.cell? ⟨sb, 1, none⟩ = some (.pointer (some ⟨g, 0, none⟩)) := hB.cell 1
      have b3 : wc.cell? ⟨sb, 3, none⟩ = some (.int .i64 (x + wd)) := hB.cell 3
      have b3f := hB.frozen 3
      have h3 := hB.x (c - 1)
      have h33 : (wc.setCell ⟨sb, 3, none⟩ (.int .i64 (c - 1))).cell? ⟨sb, 33, none⟩ = some (.int .i64 m) := (h3.cell 33).trans (congrArg some (congrArg (Value.int .i64) HM.out))
      have h5 : (wc.setCell ⟨sb, 3, none⟩ (.int .i64 (c - 1))).cell? ⟨sb, 5, none⟩ = some (.bool S.now.wait) := h3.cell 5
      have h5f := h3.frozen 5
      have hfin := h3.wait (bits .and .i64 m 1 != 0)
      have hofin := (hO.trans (one_set wc sb 3 (.int .i64 (c - 1)))).trans (one_set _ sb 5 (.bool (bits .and .i64 m 1 != 0)))
      have HF := Lib.hid hfin
      have HOF := Lib.hid hofin
      have hS : ((S.setX (x + wd)).setX (c - 1)).setW (bits .and .i64 m 1 != 0) = goOnP c (onM S.modes 1) wd S := by
        unfold goOnP onM
        rw [HX.out, if_pos hge, HM.out]
        rfl
      have HS := Lib.hid hS
      clear hfin hofin h3 hS
      go_wp2_with (go_at_call 14; refine (HC.out _ hO).mono ?_; rintro _ w4 ⟨rfl, rfl⟩)
      exact body_end rfl rfl ⟨rfl, HS.out ▸ HF.out, HOF.out⟩
    · have dg : decide (c ≤ x + wd) = false := by simpa using hge
      have hS : S.setX (x + wd) = goOnP c (onM S.modes 1) wd S := by
        unfold goOnP
        rw [HX.out, if_neg hge]
      have HS := Lib.hid hS
      clear hS
      go_wp2_with fail
      exact body_end rfl rfl ⟨rfl, HS.out ▸ hB, hO⟩
end
end Go.Proofs.YtjklnnklgkihlaaGreatDoor.Scr
/- A row down, and scrolled where there is none: on the main screen. -/
namespace Go.Proofs.YtjklnnklgkihlaaGreatDoor.Scr
open Go.RowKit Cel Sty Grd

/-- A screen whose main grid is seen. -/
structure SG (w : World) (sb g : Nat) (F : List Nat) (c lim : Nat) (past rows : List Ro) (pp tv : Value) (S : ScP) : Prop where
  blk : scB w sb pp g none tv S
  grd : GA w g F c lim past rows
  far : sb ∉ F
section
variable {w w' : World} {sb g : Nat} {F : List Nat} {c lim : Nat} {past rows : List Ro} {pp tv : Value} {S : ScP}
theorem SG.only (h : SG w sb g F c lim past rows pp tv S) {K : List Nat} (ho : Only K w w') (h1 : sb ∉ K) (h2 : ∀ x ∈ F, x ∉ K) : SG w' sb g F c lim past rows pp tv S :=
  ⟨h.blk.only ho h1, h.grd.only ho h2, h.far⟩
theorem SG.below (h : SG w sb g F c lim past rows pp tv S) (hb : Below w.heap.size w w') : SG w' sb g F c lim past rows pp tv S := h.only (K := []) (Only.of_below hb) (by simp) (fun _ _ e => by cases e)
/-- .. with another state of it. -/
theorem SG.turn (h : SG w sb g F c lim past rows pp tv S) {S' : ScP} (hb : scB w' sb pp g none tv S') (ho : Only [sb] w w') : SG w' sb g F c lim past rows pp tv S' :=
  ⟨hb, h.grd.only ho fun x hx e => by rw [List.mem_singleton] at e; exact h.far (e ▸ hx), h.far⟩
/-- .. with its grid turned. -/
theorem SG.grid (h : SG w sb g F c lim past rows pp tv S) {F' : List Nat} {past' rows' : List Ro} (hg : GA w' g F' c lim past' rows') (hW : Went F F' w w') : SG w' sb g F' c lim past' rows' pp tv S :=
  ⟨h.blk.only hW.only h.far, hg, fun e => by
    rcases hW.foot sb e with q | q
    · exact h.far q
    · have := h.blk.lt; omega⟩
/-- What has scrolled off, and the rows, where all scrolls up by one. -/
def offP (lim : Nat) (past rows : List Ro) : List Ro := (past ++ rows.take 1).drop (past.length + 1 - lim)
def upsP (rows : List Ro) (bottom c : Nat) (bg : Int) : List Ro := upP rows 0 (bottom + 1) 1 (blankR c (-1, bg, 0))
set_option maxRecDepth 100000 in
set_option maxHeartbeats 1000000 in
theorem scrollUp_main (h : SG w sb g F c lim past rows pp tv S) (ht : S.top = 0) (b : Nat) (hb : S.bottom = (b : Int)) (hbr : b < rows.length) (hp : rightS (-1) S.now.pen.2.1 0 = true) :
    Calls Tryz.prog 122 #[ptrV sb, .int .i64 1] w fun e w' => e = .returned (.tuple #[]) ∧ ∃ F', SG w' sb g F' c lim (offP lim past rows) (upsP rows b c S.now.pen.2.1) pp tv S ∧ Went F F' w w' := by
  have hd : Below w.heap.size w w.drew := (Below.refl _ _).drew
  have SS : ∀ V, Only F w V → (V.cell? ⟨sb, 34, none⟩ = some (.int .i64 0) ∧ V.cell? ⟨sb, 35, none⟩ = some (.int .i64 (b : Int)) ∧ V.cell? ⟨sb, 2, none⟩ = some (.pointer none) ∧ Only F w V) := fun V hV => by
    have h1 := h.blk.only hV h.far
    have e1 : V.cell? ⟨sb, 34, none⟩ = some (.int .i64 S.top) := h1.cell 34
    have e2 : V.cell? ⟨sb, 35, none⟩ = some (.int .i64 S.bottom) := h1.cell 35
    have e3 : V.cell? ⟨sb, 2, none⟩ = some (.pointer none) := h1.cell 2
    rw [ht] at e1
    rw [hb] at e2
    exact ⟨e1, e2, e3, hV⟩
  have o1 : Only F w w.drew := Only.of_below hd
  have hsh : ∀ V, Below w.heap.size w V → Calls Tryz.prog 29 #[ptrV sb] V fun e w' => e = .returned (ptrV g) ∧ V = w' := fun V hV => shown_at (h.below hV).blk
  have hbl : ∀ V, Below w.heap.size w V → Calls Tryz.prog 82 #[ptrV sb] V _ := fun V hV => blank_at (h.below hV).blk
  have hup : ∀ V, Below w.heap.size w V → Calls Tryz.prog 157 #[.pointer (some ⟨g, 0, none⟩), .int .i64 0, .int .i64 (b : Int), .int .i64 1, .agg #[.int .i64 (-1), .int .i64 S.now.pen.2.1, .int .i64 0], .bool true] V _ := fun V hV => keep_ga (h.grd.below hV) b 1 hbr 1 (by omega) (by omega) (-1) S.now.pen.2.1 0 hp
  have hfin : ∀ V w' F', Below w.heap.size w V → GA w' g F' c lim (offP lim past rows) (upsP rows b c S.now.pen.2.1) → Went F F' V w' → SG w' sb g F' c lim (offP lim past rows) (upsP rows b c S.now.pen.2.1) pp tv S ∧ Went F F' w w' := fun V w' F' hV hg hW => by
    refine ⟨(h.below hV).grid hg hW, ⟨fun x hx => ?_, (Only.of_below hV).trans hW.only⟩⟩
    have := hV.size
    exact (hW.foot x hx).imp id (fun q => by omega)
  have HSH := Lib.hid hsh
  have HBL := Lib.hid hbl
  have HUP := Lib.hid hup
  have HF := Lib.hid hfin
  generalize S.now.pen.2.1 = bg at *
  clear h ht hb hbr hp hsh hbl hup hfin
  unfold ptrV
  go_enter Tryz.func122, Tryz.ntmps122
  go_wp2_with fail
  go_region_held3 (fun V => V.cell? ⟨sb, 34, none⟩ = some (.int .i64 0) ∧ V.cell? ⟨sb, 35, none⟩ = some (.int .i64 (b : Int)) ∧ V.cell? ⟨sb, 2, none⟩ = some (.pointer none) ∧ Only F w V)
    (first
      | (refine SS _ ?_; assumption)
      | fail)
    (first
      | (go_at_call 29; refine (HSH.out _ (by assumption)).mono ?_; rintro _ w2 ⟨rfl, rfl⟩)
      | (go_at_call 82; refine (HBL.out _ hd).mono ?_; rintro _ w3 ⟨rfl, hb3⟩; have hb3w := hd.trans (hb3.mono hd.size); have o3 : Only F w w3 := Only.of_below hb3w)
      | (go_at_call 157; refine (HUP.out _ hb3w).mono ?_; rintro _ w4 ⟨rfl, F', hG4, hW4⟩; have o4 := o3.trans hW4.only))
  all_goals go_wp2_with fail
  all_goals
    obtain ⟨q1, q2⟩ := HF.out _ _ _ hb3w hG4 hW4
    exact body_end rfl rfl ⟨rfl, F', q1, q2⟩
theorem went_below {F F' : List Nat} {w V w' : World} (hV : Below w.heap.size w V) (hW : Went F F' V w') : Went F F' w w' :=
  ⟨fun x hx => (hW.foot x hx).imp id fun q => by have := hV.size; omega, (Only.of_below hV).trans hW.only⟩
set_option maxRecDepth 100000 in
set_option maxHeartbeats 1000000 in
/-- At the region's end. -/
theorem index_end (h : SG w sb g F c lim past rows pp tv S) (ht : S.top = 0) (b : Nat) (hb : S.bottom = (b : Int)) (hbr : b < rows.length) (hp : rightS (-1) S.now.pen.2.1 0 = true) (hy : S.now.y = (b : Int)) :
    Calls Tryz.prog 86 #[ptrV sb] w fun e w' => e = .returned (.tuple #[]) ∧ ∃ F', SG w' sb g F' c lim (offP lim past rows) (upsP rows b c S.now.pen.2.1) pp tv S ∧ Went F F' w w' := by
  have hd : Below w.heap.size w w.drew := (Below.refl _ _).drew
  have hB := (h.below hd).blk
  have e4 : w.drew.cell? ⟨sb, 4, none⟩ = some (.int .i64 S.now.y) := hB.cell 4
  have e35 : w.drew.cell? ⟨sb, 35, none⟩ = some (.int .i64 S.bottom) := hB.cell 35
  rw [hy] at e4
  rw [hb] at e35
  have hsc := scrollUp_main (h.below hd) ht b hb hbr hp
  clear h hB ht hb hbr hp hy
  unfold ptrV at *
  go_enter Tryz.func86, Tryz.ntmps86
  go_wp2_with fail
  go_region
  all_goals
    go_wp2_with (go_at_call 122; refine hsc.mono ?_; rintro _ w2 ⟨rfl, F', h2, hW2⟩)
    exact body_end rfl rfl ⟨rfl, F', h2, went_below hd hW2⟩
set_option maxRecDepth 100000 in
set_option maxHeartbeats 1000000 in
/-- Ahead of it. -/
theorem index_down (h : SG w sb g F c lim past rows pp tv S) (y b : Nat) (hb : S.bottom = (b : Int)) (hy : S.now.y = (y : Int)) (hyb : y ≠ b) (hyr : y + 1 < rows.length) :
    Calls Tryz.prog 86 #[ptrV sb] w fun e w' => e = .returned (.tuple #[]) ∧ SG w' sb g F c lim past rows pp tv (S.setY ((y : Int) + 1)) ∧ Only [sb] w w' := by
  have hr2 := h.grd.bd.r2
  have hd : Below w.heap.size w w.drew := (Below.refl _ _).drew
  have hB := (h.below hd).blk
  have e4 : w.drew.cell? ⟨sb, 4, none⟩ = some (.int .i64 S.now.y) := hB.cell 4
  have e35 : w.drew.cell? ⟨sb, 35, none⟩ = some (.int .i64 S.bottom) := hB.cell 35
  rw [hy] at e4
  rw [hb] at e35
  have hrw : ∀ V, Below w.heap.size w V → Calls Tryz.prog 15 #[.pointer (some ⟨g, 0, none⟩)] V fun e w' => e = .returned (.int .i64 (rows.length : Int)) ∧ V = w' := fun V hV => rows_ga (h.grd.below hV)
  have SS : ∀ V, Below w.heap.size w V → (V.cell? ⟨sb, 4, none⟩ = some (.int .i64 (y : Int)) ∧ V.cell? ⟨sb, 1, none⟩ = some (.pointer (some ⟨g, 0, none⟩)) ∧ Below w.heap.size w V) := fun V hV => by
    have h1 := (h.below hV).blk
    have e1 : V.cell? ⟨sb, 4, none⟩ = some (.int .i64 S.now.y) := h1.cell 4
    have e2 : V.cell? ⟨sb, 1, none⟩ = some (.pointer (some ⟨g, 0, none⟩)) := h1.cell 1
    rw [hy] at e1
    exact ⟨e1, e2, hV⟩
  have HH := Lib.hid h
  have HRW := Lib.hid hrw
  generalize rows.length = r at *
  have j1 : IntKind.i64.wrap ((r : Int) - 1) = (r : Int) - 1 := IntWalk.i64_in _ ⟨by omega, by omega⟩
  have j2 : IntKind.i64.wrap ((y : Int) + 1) = (y : Int) + 1 := IntWalk.i64_in _ ⟨by omega, by omega⟩
  have d1 : ((y : Int) == (b : Int)) = false := by simp; omega
  have d3 : decide ((y : Int) < (r : Int) - 1) = true := by simp; omega
  clear h hB hb hy hrw
  unfold ptrV at *
  go_enter Tryz.func86, Tryz.ntmps86
  go_wp2_with fail
  go_cut [2] (fun s2 wx => s2 = .bool false ∧ Below w.heap.size w wx)
  case first =>
    go_region
    all_goals go_wp2_with fail
    all_goals go_meet
    all_goals exact ⟨rfl, hd⟩
  case rest =>
    obtain ⟨rfl, hb2⟩ := hcut
    clear e4 e35
    have hbd := hb2.drew
    go_wp2_with fail
    go_cut [16] (fun s16 wx => s16 = .bool true ∧ Below w.heap.size w wx)
    case first =>
      go_region_held3 (fun V => V.cell? ⟨sb, 4, none⟩ = some (.int .i64 (y : Int)) ∧ V.cell? ⟨sb, 1, none⟩ = some (.pointer (some ⟨g, 0, none⟩)) ∧ Below w.heap.size w V)
        (first
          | (refine SS _ ?_; assumption)
          | fail)
        (first
          | (go_at_call 15; refine (HRW.out _ hbd).mono ?_; rintro _ w4 ⟨rfl, rfl⟩))
      all_goals go_wp2_with fail
      all_goals go_meet
      all_goals exact ⟨rfl, hbd⟩
    case rest =>
      obtain ⟨rfl, hb3⟩ := hcut
      have h3 := HH.out.below hb3
      have f4 := (SS _ hb3).1
      have f4f := h3.blk.frozen 4
      have HF := Lib.hid (h3.turn (h3.blk.y ((y : Int) + 1)) (one_set _ _ _ _))
      have HO := Lib.hid ((Only.of_below (F := [sb]) hb3).trans (one_set wc sb 4 (.int .i64 ((y : Int) + 1))))
      clear h3 HH SS
      go_wp2_with fail
      exact body_end rfl rfl ⟨rfl, HF.out, HO.out⟩
end
end Go.Proofs.YtjklnnklgkihlaaGreatDoor.Scr
/- A rune printed on the main screen, where rows wrap. -/
namespace Go.Proofs.YtjklnnklgkihlaaGreatDoor.Scr
open Go.RowKit Cel Sty Grd

/-- What a screen on a grid is, in plain words. -/
structure MP where
  past : List Ro
  rows : List Ro
  S : ScP
/-- A row down, or scrolled up by one. -/
def indexP (c lim : Nat) (M : MP) (y b : Nat) : MP := if y = b then ⟨offP lim M.past M.rows, upsP M.rows b c M.S.now.pen.2.1, M.S⟩ else ⟨M.past, M.rows, M.S.setY ((y : Int) + 1)⟩
def wrapMP (c lim : Nat) (M : MP) (y b : Nat) : MP := indexP c lim ⟨M.past, wrapP M.rows y true, M.S.setX 0⟩ y b
section
variable {w w' : World} {sb g : Nat} {F : List Nat} {c lim : Nat} {past rows : List Ro} {pp tv : Value} {S : ScP}
/-- What a call left of a screen. -/
def Left6 (w : World) (sb g : Nat) (F : List Nat) (c lim : Nat) (pp tv : Value) (M : MP) (e : Ending) (w' : World) : Prop :=
  e = .returned (.tuple #[]) ∧ ∃ F', SG w' sb g F' c lim M.past M.rows pp tv M.S ∧ Went (sb :: F) (sb :: F') w w'
theorem went_wide {F F' : List Nat} (h : Went F F' w w') : Went (sb :: F) (sb :: F') w w' :=
  ⟨fun x hx => by
    rcases List.mem_cons.1 hx with rfl | hx
    · exact .inl (List.mem_cons_self ..)
    · exact (h.foot x hx).imp (List.mem_cons_of_mem _) id, h.only.mono fun x hx => List.mem_cons_of_mem _ hx⟩
theorem went_own (h : Only [sb] w w') : Went (sb :: F) (sb :: F) w w' := ⟨fun _ hx => .inl hx, h.mono fun x hx => by rw [List.mem_singleton] at hx; rw [hx]; exact List.mem_cons_self ..⟩
theorem index_at (h : SG w sb g F c lim past rows pp tv S) (ht : S.top = 0) (b : Nat) (hb : S.bottom = (b : Int)) (hbr : b + 1 = rows.length) (hp : rightS (-1) S.now.pen.2.1 0 = true) (y : Nat) (hy : S.now.y = (y : Int)) (hyr : y < rows.length) :
    Calls Tryz.prog 86 #[ptrV sb] w (Left6 w sb g F c lim pp tv (indexP c lim ⟨past, rows, S⟩ y b)) := by
  by_cases e : y = b
  · subst e
    refine (index_end h ht y hb (by omega) hp hy).mono ?_
    rintro e w' ⟨he, F', h1, h2⟩
    refine ⟨he, F', ?_, went_wide h2⟩
    unfold indexP
    rw [if_pos rfl]
    exact h1
  · refine (index_down h y b hb hy e (by omega)).mono ?_
    rintro e' w' ⟨he, h1, h2⟩
    refine ⟨he, F, ?_, went_own h2⟩
    unfold indexP
    rw [if_neg e]
    exact h1
set_option maxRecDepth 100000 in
set_option maxHeartbeats 1000000 in
theorem wrap_at (h : SG w sb g F c lim past rows pp tv S) (ht : S.top = 0) (b : Nat) (hb : S.bottom = (b : Int)) (hbr : b + 1 = rows.length) (hp : rightS (-1) S.now.pen.2.1 0 = true) (y : Nat) (hy : S.now.y = (y : Int)) (hyr : y < rows.length) :
    Calls Tryz.prog 115 #[ptrV sb] w (Left6 w sb g F c lim pp tv (wrapMP c lim ⟨past, rows, S⟩ y b)) := by
  have hd : Below w.heap.size w w.drew := (Below.refl _ _).drew
  have hsh : ∀ V, Below w.heap.size w V → Calls Tryz.prog 29 #[ptrV sb] V fun e w' => e = .returned (ptrV g) ∧ V = w' := fun V hV => shown_at (h.below hV).blk
  have hwr := wrap_ga (h.below hd).grd y hyr true
  have e4 : ∀ V, Below w.heap.size w V → V.cell? ⟨sb, 4, none⟩ = some (.int .i64 (y : Int)) := fun V hV => by
    have e1 : V.cell? ⟨sb, 4, none⟩ = some (.int .i64 S.now.y) := (h.below hV).blk.cell 4
    rw [hy] at e1
    exact e1
  have hnx : ∀ w1, GA w1 g F c lim past (wrapP rows y true) → Only F w w1 → Calls Tryz.prog 86 #[ptrV sb] (w1.setCell ⟨sb, 3, none⟩ (.int .i64 0)) (Left6 (w1.setCell ⟨sb, 3, none⟩ (.int .i64 0)) sb g F c lim pp tv (wrapMP c lim ⟨past, rows, S⟩ y b)) := fun w1 hg ho => by
    have h1 : SG w1 sb g F c lim past (wrapP rows y true) pp tv S := h.grid hg ⟨fun _ hx => .inl hx, ho⟩
    have h2 := h1.turn (h1.blk.x 0) (one_set _ _ _ _)
    have hl : (wrapP rows y true).length = rows.length := List.length_set
    exact index_at h2 ht b hb (by rw [hl]; exact hbr) hp y hy (by rw [hl]; exact hyr)
  have h3 : ∀ w1, GA w1 g F c lim past (wrapP rows y true) → Only F w w1 → (w1.cell? ⟨sb, 3, none⟩ = some (.int .i64 S.now.x) ∧ w1.frozen? ⟨sb, 3, none⟩ = false) := fun w1 hg ho => by
    have h1 := h.blk.only ho h.far
    exact ⟨h1.cell 3, h1.frozen 3⟩
  have HSH := Lib.hid hsh
  have HWR := Lib.hid hwr
  have HNX := Lib.hid hnx
  have H3 := Lib.hid h3
  have o1 : Only F w w.drew := Only.of_below hd
  have e4d := e4 _ hd
  clear h ht hb hbr hp hy hyr hsh hwr hnx h3 e4
  unfold ptrV at *
  go_enter Tryz.func115, Tryz.ntmps115
  go_wp2_with fail
  go_cut [] (fun wx => GA wx g F c lim past (wrapP rows y true) ∧ Only F w wx)
  case first =>
    go_region_with (first
      | (go_at_call 29; refine (HSH.out _ hd).mono ?_; rintro _ w2 ⟨rfl, rfl⟩)
      | (go_at_call 130; refine HWR.out.mono ?_; rintro _ w3 ⟨rfl, hG3, hO3⟩))
    all_goals go_wp2_with fail
    all_goals go_meet
    all_goals exact ⟨hG3, o1.trans hO3⟩
  case rest =>
    obtain ⟨hG, hO⟩ := hcut
    obtain ⟨c3, c3f⟩ := H3.out _ hG hO
    have HN := Lib.hid (HNX.out _ hG hO)
    clear HNX H3 HSH HWR hG
    go_wp2_with fail
    refine HN.out.mono ?_
    rintro _ w4 ⟨rfl, F', h4, hW4⟩
    go_wp2_with fail
    refine body_end rfl rfl ⟨rfl, F', h4, ⟨fun x hx => ?_, ?_⟩⟩
    · refine (hW4.foot x hx).imp id fun q => ?_
      have := hO.size
      have : (wc.setCell ⟨sb, 3, none⟩ (.int .i64 0)).heap.size = wc.heap.size := by simp [World.setCell]
      omega
    · exact ((hO.mono fun x hx => List.mem_cons_of_mem _ hx).trans ((one_set wc sb 3 (.int .i64 0)).mono fun x hx => by rw [List.mem_singleton] at hx; rw [hx]; exact List.mem_cons_self ..)).trans hW4.only
end
end Go.Proofs.YtjklnnklgkihlaaGreatDoor.Scr
/- Room for a rune of one column; that rune printed: on the main screen, where rows wrap. -/
namespace Go.Proofs.YtjklnnklgkihlaaGreatDoor.Scr
open Go.RowKit Cel Sty Grd

/-- The place on a screen is on its grid; its region is all of it. -/
structure Fit (c : Nat) (M : MP) (x y b : Nat) : Prop where
  fx : M.S.now.x = (x : Int)
  fy : M.S.now.y = (y : Int)
  xc : x < c
  yr : y < M.rows.length
  ft : M.S.top = 0
  fb : M.S.bottom = (b : Int)
  br : b + 1 = M.rows.length
  fp : rightS (-1) M.S.now.pen.2.1 0 = true
def roomP (c lim : Nat) (M : MP) (y b : Nat) : MP := if M.S.now.wait = true then ⟨(wrapMP c lim M y b).past, (wrapMP c lim M y b).rows, (wrapMP c lim M y b).S.setW false⟩ else ⟨M.past, M.rows, M.S.setW false⟩
theorem offP_gone (rows : List Ro) (h : rows ≠ []) : 1 ≤ rows.length := List.length_pos_iff.2 h
theorem upsP_len {rows : List Ro} {b c : Nat} {bg : Int} (h : b + 1 ≤ rows.length) : (upsP rows b c bg).length = rows.length := by
  unfold upsP upP
  simp only [List.length_append, List.length_take, List.length_drop, List.length_replicate]
  omega
/-- Behind a wrap the place is at a row's begin. -/
theorem wrapMP_fit {c lim : Nat} {M : MP} {x y b : Nat} (h : Fit c M x y b) (hc : 1 ≤ c) : ∃ y', Fit c (wrapMP c lim M y b) 0 y' b ∧ (wrapMP c lim M y b).S.modes = M.S.modes ∧ (wrapMP c lim M y b).S.now.wait = M.S.now.wait := by
  have hl : (wrapP M.rows y true).length = M.rows.length := List.length_set
  unfold wrapMP indexP
  split
  · rename_i e
    refine ⟨y, ⟨rfl, h.fy, by omega, ?_, h.ft, h.fb, ?_, h.fp⟩, rfl, rfl⟩
    · simp only
      rw [upsP_len (by rw [hl]; have := h.br; omega), hl]; exact h.yr
    · simp only
      rw [upsP_len (by rw [hl]; have := h.br; omega), hl]; exact h.br
  · rename_i e
    refine ⟨y + 1, ⟨rfl, by simp [ScP.setY], by omega, ?_, h.ft, h.fb, by simp only; rw [hl]; exact h.br, h.fp⟩, rfl, rfl⟩
    simp only
    rw [hl]
    have := h.yr
    have := h.br
    omega
section
variable {w w' : World} {sb g : Nat} {F : List Nat} {c lim : Nat} {pp tv : Value} {M : MP}
set_option maxRecDepth 100000 in
set_option maxHeartbeats 2000000 in
theorem makeRoom_at (h : SG w sb g F c lim M.past M.rows pp tv M.S) {x y b : Nat} (hf : Fit c M x y b) (hm : onM M.S.modes 1 = true) :
    Calls Tryz.prog 80 #[ptrV sb, .int .i64 1] w (Left6 w sb g F c lim pp tv (roomP c lim M y b)) := by
  have hbd := h.grd.bd
  have hc1 := hbd.c1
  have hc2 := hbd.c2
  have e33 : w.cell? ⟨sb, 33, none⟩ = some (.int .i64 M.S.modes) := h.blk.cell 33
  have e5 : w.cell? ⟨sb, 5, none⟩ = some (.bool M.S.now.wait) := h.blk.cell 5
  have j1 : IntKind.i64.wrap ((c : Int) - 1) = (c : Int) - 1 := IntWalk.i64_in _ ⟨by omega, by omega⟩
  have dm : (bits BinOp.and IntKind.i64 M.S.modes 1 != 0) = true := hm
  -- behind the wrap, or where there was none
  have hend : ∀ (w1 : World) (F1 : List Nat) (M1 : MP) (x1 y1 : Nat), SG w1 sb g F1 c lim M1.past M1.rows pp tv M1.S → Fit c M1 x1 y1 b → Went (sb :: F) (sb :: F1) w w1 →
      w1.cell? ⟨sb, 5, none⟩ = some (.bool M1.S.now.wait) ∧ w1.frozen? ⟨sb, 5, none⟩ = false ∧ (w1.setCell ⟨sb, 5, none⟩ (.bool false)).cell? ⟨sb, 1, none⟩ = some (.pointer (some ⟨g, 0, none⟩)) ∧ (w1.setCell ⟨sb, 5, none⟩ (.bool false)).cell? ⟨sb, 3, none⟩ = some (.int .i64 (x1 : Int)) ∧
      Calls Tryz.prog 14 #[.pointer (some ⟨g, 0, none⟩)] (w1.setCell ⟨sb, 5, none⟩ (.bool false)) (fun e w' => e = .returned (.int .i64 (c : Int)) ∧ (w1.setCell ⟨sb, 5, none⟩ (.bool false)) = w') ∧
      SG (w1.setCell ⟨sb, 5, none⟩ (.bool false)) sb g F1 c lim M1.past M1.rows pp tv (M1.S.setW false) ∧ Went (sb :: F) (sb :: F1) w (w1.setCell ⟨sb, 5, none⟩ (.bool false)) := fun w1 F1 M1 x1 y1 h1 hf1 hW1 => by
    have h2 := h1.turn (h1.blk.wait false) (one_set _ _ _ _)
    have e3 : (w1.setCell ⟨sb, 5, none⟩ (.bool false)).cell? ⟨sb, 3, none⟩ = some (.int .i64 M1.S.now.x) := h2.blk.cell 3
    rw [hf1.fx] at e3
    exact ⟨h1.blk.cell 5, h1.blk.frozen 5, h2.blk.cell 1, e3, cols_ga h2.grd, h2, hW1.trans (went_own (one_set _ _ _ _))⟩
  have HE := Lib.hid hend
  by_cases hw : M.S.now.wait = true
  · have hwr := wrap_at h hf.ft b hf.fb hf.br hf.fp y hf.fy hf.yr
    have hR : roomP c lim M y b = ⟨(wrapMP c lim M y b).past, (wrapMP c lim M y b).rows, (wrapMP c lim M y b).S.setW false⟩ := if_pos hw
    obtain ⟨y', hf', hmm, _⟩ := wrapMP_fit (lim := lim) hf hc1
    have HF := Lib.hid hf'
    have hme : ∀ w1 F1, SG w1 sb g F1 c lim (wrapMP c lim M y b).past (wrapMP c lim M y b).rows pp tv (wrapMP c lim M y b).S → True := fun _ _ _ => trivial
    rw [hR]
    rw [hw] at e5
    generalize wrapMP c lim M y b = M1 at *
    clear hend hR hme h hf hmm hbd
    unfold ptrV at *
    go_enter Tryz.func80, Tryz.ntmps80
    go_wp2_with (go_at_call 115; refine hwr.mono ?_; rintro _ w1 ⟨rfl, F1, h1, hW1⟩; obtain ⟨k5, k5f, k1, k3, kc, k6, k7⟩ := HE.out w1 F1 M1 0 y' h1 HF.out hW1)
    generalize w1.setCell ⟨sb, 5, none⟩ (.bool false) = W2 at *
    clear k5 k5f
    go_wp2_with (go_at_call 14; refine kc.mono ?_; rintro _ w4 ⟨rfl, rfl⟩)
    exact body_end rfl rfl ⟨rfl, F1, k6, k7⟩
  · have hw' : M.S.now.wait = false := by simpa using hw
    have hR : roomP c lim M y b = ⟨M.past, M.rows, M.S.setW false⟩ := if_neg hw
    obtain ⟨k5, k5f, k1, k3, kc, k6, k7⟩ := hend w F M x y h hf (Went.refl _ _)
    have hxc := hf.xc
    have d1 : decide ((x : Int) ≤ (c : Int) - 1) = true := by simp; omega
    rw [hR]
    rw [hw'] at e5 k5
    have HM := Lib.hid k6
    have HW := Lib.hid k7
    clear hend HE hR h hf hbd hw hw' k6 k7 e5
    unfold ptrV at *
    go_enter Tryz.func80, Tryz.ntmps80
    go_upto_region 4 with fail
    generalize w.setCell ⟨sb, 5, none⟩ (.bool false) = W2 at *
    clear k5 k5f e33
    go_wp2_with (go_at_call 14; refine kc.mono ?_; rintro _ w4 ⟨rfl, rfl⟩)
    exact body_end rfl rfl ⟨rfl, F, HM.out, HW.out⟩
/-- Room made, a place is still on the grid. -/
theorem roomP_fit {x y b : Nat} (h : Fit c M x y b) (hc : 1 ≤ c) : ∃ x' y', Fit c (roomP c lim M y b) x' y' b ∧ (roomP c lim M y b).S.modes = M.S.modes := by
  unfold roomP
  split
  · obtain ⟨y', h1, h2, _⟩ := wrapMP_fit (lim := lim) h hc
    exact ⟨0, y', ⟨h1.fx, h1.fy, h1.xc, h1.yr, h1.ft, h1.fb, h1.br, h1.fp⟩, h2⟩
  · exact ⟨x, y, ⟨h.fx, h.fy, h.xc, h.yr, h.ft, h.fb, h.br, h.fp⟩, rfl⟩
end
end Go.Proofs.YtjklnnklgkihlaaGreatDoor.Scr
/- A rune of one column printed. -/
namespace Go.Proofs.YtjklnnklgkihlaaGreatDoor.Scr
open Go.RowKit Cel Sty Grd

/-- Laid, gone on, remembered. -/
def laidP (c : Nat) (M : MP) (x y : Nat) (r : Int) : MP := ⟨M.past, putP c M.rows (x : Int) (y : Int) (r, 1, M.S.now.pen), (goOnP (c : Int) (onM M.S.modes 1) 1 M.S).setL r⟩
section
variable {w w' : World} {sb g : Nat} {F : List Nat} {c lim : Nat} {pp tv : Value} {M : MP} {B : Nat}
set_option maxRecDepth 100000 in
set_option maxHeartbeats 4000000 in
theorem print_at (h : SG w sb g F c lim M.past M.rows pp tv M.S) (ht : Tabs B w) (hB : B ≤ w.heap.size) (hF : ∀ x ∈ F, B ≤ x) (hsb : B ≤ sb) {x y b : Nat} (hf : Fit c M x y b) (hm1 : onM M.S.modes 1 = true) (hm2 : onM M.S.modes 2 = false) (hcs : M.S.now.cs = 0 ∨ M.S.now.cs = 1) (hln : hasLines M.S.now = false)
    (r : Int) (hr0 : 32 ≤ r) (hr1 : r ≤ 126) (hwd : width r = 1) {x' y' : Nat} (hf' : Fit c (roomP c lim M y b) x' y' b) (hmm : (roomP c lim M y b).S.modes = M.S.modes) :
    Calls Tryz.prog 44 #[ptrV sb, .int .i32 r] w (Left6 w sb g F c lim pp tv (laidP c (roomP c lim M y b) x' y' r)) := by
  have hbd := h.grd.bd
  have hc1 := hbd.c1
  have hc2 := hbd.c2
  have hwid : ∀ V, Below w.heap.size w V → Calls Tryz.prog 78 #[.int .i32 r] V fun e w' => e = .returned (.int .i64 1) ∧ Below V.heap.size V w' := fun V hV => by
    have h1 := width_any r V (ht.below hV hB) (by omega) (by omega)
    rw [hwd] at h1
    exact h1
  have hic : ∀ V, Below w.heap.size w V → Calls Tryz.prog 79 #[.pointer (some ⟨sb, 0, none⟩), .int .i32 r] V fun e w' => e = .returned (.int .i32 r) ∧ Below V.heap.size V w' := fun V hV => inCharset_off (h.below hV).blk hcs hln r
  have hcol : ∀ V, Below w.heap.size w V → V.cell? ⟨sb, 1, none⟩ = some (.pointer (some ⟨g, 0, none⟩)) ∧ Calls Tryz.prog 14 #[.pointer (some ⟨g, 0, none⟩)] V fun e w' => e = .returned (.int .i64 (c : Int)) ∧ V = w' := fun V hV => ⟨(h.below hV).blk.cell 1, cols_ga (h.below hV).grd⟩
  have hmr : ∀ V, Below w.heap.size w V → Calls Tryz.prog 80 #[.pointer (some ⟨sb, 0, none⟩), .int .i64 1] V (Left6 V sb g F c lim pp tv (roomP c lim M y b)) := fun V hV => makeRoom_at (h.below hV) hf hm1
  have HWID := Lib.hid hwid
  have HIC := Lib.hid hic
  have HCOL := Lib.hid hcol
  have HMR := Lib.hid hmr
  have HT := Lib.hid ht
  have HFF := Lib.hid hF
  have HFT := Lib.hid hf'
  have hm1' : onM (roomP c lim M y b).S.modes 1 = true := by rw [hmm]; exact hm1
  have hm2' : onM (roomP c lim M y b).S.modes 2 = false := by rw [hmm]; exact hm2
  generalize roomP c lim M y b = M1 at *
  have d1 : decide ((c : Int) < 1) = false := by simp; omega
  clear h ht hF hf hm1 hm2 hcs hln hwd hf' hmm hbd hwid hic hcol hmr
  unfold ptrV at *
  go_enter Tryz.func44, Tryz.ntmps44
  go_wp2_with fail
  refine (HWID.out _ (Below.refl _ _)).mono ?_
  rintro _ w1 ⟨rfl, hb1⟩
  go_wp2_with fail
  refine (HIC.out _ hb1).mono ?_
  rintro _ w2 ⟨rfl, hb2'⟩
  have hb2 := hb1.trans (hb2'.mono hb1.size)
  clear hb1 hb2'
  go_wp2_with fail
  refine (HWID.out _ hb2).mono ?_
  rintro _ w3 ⟨rfl, hb3'⟩
  have hb3 := hb2.trans (hb3'.mono hb2.size)
  clear hb2 hb3'
  obtain ⟨k1, kc⟩ := HCOL.out _ hb3
  go_wp2_with (go_at_call 14; refine kc.mono ?_; rintro _ w4 ⟨rfl, rfl⟩)
  refine (HMR.out _ hb3).mono ?_
  rintro _ w4 ⟨rfl, F1, h1, hW1⟩
  clear k1 kc HCOL HMR HIC HWID
  have hs3 := hb3.size
  have ht4 := (HT.out.below hb3 hB).only hW1.only (by omega) (fun z hz => by rcases List.mem_cons.1 hz with rfl | hz; exact hsb; exact HFF.out z hz)
  have hs4 := hW1.only.size
  have h33 : w4.cell? ⟨sb, 33, none⟩ = some (.int .i64 M1.S.modes) := h1.blk.cell 33
  have dm2 : (bits BinOp.and IntKind.i64 M1.S.modes 2 != 0) = false := hm2'
  have hd : Below w4.heap.size w4 w4.drew := (Below.refl _ _).drew
  have hfx := HFT.out.fx
  have hfy := HFT.out.fy
  obtain ⟨⟨p1, p2, p3⟩, hpen⟩ : ∃ p, M1.S.now.pen = p := ⟨_, rfl⟩
  have SS : ∀ V, Only F1 w4 V → (V.cell? ⟨sb, 3, none⟩ = some (.int .i64 (x' : Int)) ∧ V.cell? ⟨sb, 4, none⟩ = some (.int .i64 (y' : Int)) ∧ V.cell? ⟨sb, 6, none⟩ = some (.int .i64 p1) ∧ V.cell? ⟨sb, 7, none⟩ = some (.int .i64 p2) ∧ V.cell? ⟨sb, 8, none⟩ = some (.int .i64 p3) ∧ Only F1 w4 V) := fun V hV => by
    have h2 := h1.blk.only hV h1.far
    have e3 : V.cell? ⟨sb, 3, none⟩ = some (.int .i64 M1.S.now.x) := h2.cell 3
    have e4 : V.cell? ⟨sb, 4, none⟩ = some (.int .i64 M1.S.now.y) := h2.cell 4
    have e6 : V.cell? ⟨sb, 6, none⟩ = some (.int .i64 M1.S.now.pen.1) := h2.cell 6
    have e7 : V.cell? ⟨sb, 7, none⟩ = some (.int .i64 M1.S.now.pen.2.1) := h2.cell 7
    have e8 : V.cell? ⟨sb, 8, none⟩ = some (.int .i64 M1.S.now.pen.2.2) := h2.cell 8
    rw [hfx] at e3
    rw [hfy] at e4
    rw [hpen] at e6 e7 e8
    exact ⟨e3, e4, e6, e7, e8, hV⟩
  have hsh : Calls Tryz.prog 29 #[.pointer (some ⟨sb, 0, none⟩)] w4.drew fun e w' => e = .returned (ptrV g) ∧ w4.drew = w' := shown_at (h1.below hd).blk
  have hpt := put_ga (h1.below hd).grd (ht4.below hd (by omega)) (by have := hd.size; omega) (x' : Int) (y' : Int) r 1 p1 p2 p3 (by omega) (by omega) (by omega) (by have := HFT.out.xc; omega)
  have hgo : ∀ w5, GA w5 g F1 c lim M1.past (putP c M1.rows (x' : Int) (y' : Int) (r, 1, p1, p2, p3)) → Only F1 w4 w5 → Calls Tryz.prog 84 #[ptrV sb, .int .i64 1] w5 fun e w' => e = .returned (.tuple #[]) ∧ SG w' sb g F1 c lim M1.past (putP c M1.rows (x' : Int) (y' : Int) (r, 1, p1, p2, p3)) pp tv (goOnP (c : Int) (onM M1.S.modes 1) 1 M1.S) ∧ Only [sb] w5 w' := fun w5 hg ho => by
    have h5 : SG w5 sb g F1 c lim M1.past (putP c M1.rows (x' : Int) (y' : Int) (r, 1, p1, p2, p3)) pp tv M1.S := h1.grid hg ⟨fun _ hx => .inl hx, ho⟩
    refine (goOn_at h5.blk (c : Int) (fun V hV => cols_ga (h5.grd.only hV fun z hz e => by rw [List.mem_singleton] at e; exact h5.far (e ▸ hz))) (by omega) (by omega) (by rw [hfx]; omega) (by rw [hfx]; have := HFT.out.xc; omega) 1 (by omega) (by omega)).mono ?_
    rintro e w' ⟨he, h6, h7⟩
    exact ⟨he, h5.turn h6 h7, h7⟩
  have hMr : laidP c M1 x' y' r = ⟨M1.past, putP c M1.rows (x' : Int) (y' : Int) (r, 1, p1, p2, p3), (goOnP (c : Int) (onM M1.S.modes 1) 1 M1.S).setL r⟩ := by unfold laidP; rw [hpen]
  have HSH := Lib.hid hsh
  have HPT := Lib.hid hpt
  have HGO := Lib.hid hgo
  have HW := Lib.hid hW1
  have HB3 := Lib.hid hb3
  have HMR2 := Lib.hid hMr
  have o1 : Only F1 w4 w4.drew := Only.of_below hd
  clear hsh hpt hgo hMr h1 hW1 ht4 hfx hfy hpen HFT HFF HT hm1' hm2' hb3 hd
  go_wp2_with fail
  go_cut [] (fun wx => GA wx g F1 c lim M1.past (putP c M1.rows (x' : Int) (y' : Int) (r, 1, p1, p2, p3)) ∧ Only F1 w4 wx)
  case first =>
    go_region_held3 (fun V => V.cell? ⟨sb, 3, none⟩ = some (.int .i64 (x' : Int)) ∧ V.cell? ⟨sb, 4, none⟩ = some (.int .i64 (y' : Int)) ∧ V.cell? ⟨sb, 6, none⟩ = some (.int .i64 p1) ∧ V.cell? ⟨sb, 7, none⟩ = some (.int .i64 p2) ∧ V.cell? ⟨sb, 8, none⟩ = some (.int .i64 p3) ∧ Only F1 w4 V)
      (first
        | (refine SS _ ?_; assumption)
        | fail)
      (first
        | (go_at_call 29; refine HSH.out.mono ?_; rintro _ w5 ⟨rfl, rfl⟩)
        | (go_at_call 83; refine HPT.out.mono ?_; rintro _ w6 ⟨rfl, hG6, hO6⟩; have o6 := o1.trans hO6))
    all_goals go_wp2_with fail
    all_goals go_meet
    all_goals exact ⟨hG6, o6⟩
  case rest =>
    obtain ⟨hG, hO⟩ := hcut
    have hgo := HGO.out _ hG hO
    unfold ptrV at hgo
    clear SS HSH HPT HGO h33 dm2 o1 hG
    go_wp2_with fail
    refine hgo.mono ?_
    rintro _ w7 ⟨rfl, h7, hO7⟩
    have e38 := h7.blk.cell 38
    have c38 : w7.cell? ⟨sb, 38, none⟩ = some (.int .i32 (goOnP (c : Int) (onM M1.S.modes 1) 1 M1.S).last) := e38
    have c38f := h7.blk.frozen 38
    have HL := Lib.hid (h7.turn (h7.blk.last r) (one_set _ _ _ _))
    have HO7 := Lib.hid (((hO.mono fun z hz => List.mem_cons_of_mem sb hz).trans (hO7.mono fun z hz => by rw [List.mem_singleton] at hz; rw [hz]; exact List.mem_cons_self ..)).trans ((one_set w7 sb 38 (.int .i32 r)).mono fun z hz => by rw [List.mem_singleton] at hz; rw [hz]; exact List.mem_cons_self ..))
    clear e38 h7 hO hO7 hgo
    go_wp2_with fail
    refine body_end rfl rfl ⟨rfl, F1, by rw [HMR2.out]; exact HL.out, went_below HB3.out (HW.out.trans ⟨fun z hz => .inl hz, HO7.out⟩)⟩
end
end Go.Proofs.YtjklnnklgkihlaaGreatDoor.Scr
/- Do, at a print. -/
namespace Go.Proofs.YtjklnnklgkihlaaGreatDoor.Scr
open Go.RowKit Cel Sty Grd

section
variable {w w' : World} {sb g : Nat} {F : List Nat} {c lim : Nat} {pp tv : Value} {M : MP} {B : Nat}
set_option maxRecDepth 100000 in
set_option maxHeartbeats 4000000 in
theorem do_print (h : SG w sb g F c lim M.past M.rows pp tv M.S) (ht : Tabs B w) (hB : B ≤ w.heap.size) (hF : ∀ x ∈ F, B ≤ x) (hsb : B ≤ sb) {x y b : Nat} (hf : Fit c M x y b) (hm1 : onM M.S.modes 1 = true) (hm2 : onM M.S.modes 2 = false) (hcs : M.S.now.cs = 0 ∨ M.S.now.cs = 1) (hln : hasLines M.S.now = false)
    (r : Int) (hr0 : 32 ≤ r) (hr1 : r ≤ 126) (hwd : width r = 1) {x' y' : Nat} (hf' : Fit c (roomP c lim M y b) x' y' b) (hmm : (roomP c lim M y b).S.modes = M.S.modes) (u : Int) (A : Option Addr) (n cp : Nat) (it tx : ByteArray) :
    Calls Tryz.prog 25 #[ptrV sb, .agg #[.int .i64 1, .int .i32 r, .int .u8 u, .slice A n cp, .string it, .string tx]] w fun e w' => e = .returned (.slice none 0 0) ∧ ∃ F', SG w' sb g F' c lim (laidP c (roomP c lim M y b) x' y' r).past (laidP c (roomP c lim M y b) x' y' r).rows pp tv (laidP c (roomP c lim M y b) x' y' r).S ∧ Went (sb :: F) (sb :: F') w w' := by
  have hlt := h.grd.lt
  have hsl := h.blk.lt
  have hpr : ∀ V, Below w.heap.size w V → Calls Tryz.prog 44 #[ptrV sb, .int .i32 r] V (Left6 V sb g F c lim pp tv (laidP c (roomP c lim M y b) x' y' r)) := fun V hV =>
    print_at (h.below hV) (ht.below hV hB) (Nat.le_trans hB hV.size) hF hsb hf hm1 hm2 hcs hln r hr0 hr1 hwd hf' hmm
  have HP := Lib.hid hpr
  have HL := Lib.hid hlt
  generalize laidP c (roomP c lim M y b) x' y' r = M2 at *
  clear hpr h hf hf' hmm hm1 hm2 hcs hln ht hlt
  unfold ptrV at HP ⊢
  go_enter Tryz.func25, Tryz.ntmps25
  go_wp2_with fail
  have hbV : Below w.heap.size w ((w.alloc (.cells #[.int .i64 1, .int .i32 r, .int .u8 u, .slice A n cp, .string it, .string tx] 65)).alloc (.cells #[.pointer (some ⟨sb, 0, none⟩), .int .i64 1, .int .i32 r, .int .u8 u, .slice A n cp, .string it, .string tx, .slice none 0 0] 103)) := ((Below.refl _ _).alloc (Nat.le_refl _) _).alloc (by simp) _
  have hD : BL ((w.alloc (.cells #[.int .i64 1, .int .i32 r, .int .u8 u, .slice A n cp, .string it, .string tx] 65)).alloc (.cells #[.pointer (some ⟨sb, 0, none⟩), .int .i64 1, .int .i32 r, .int .u8 u, .slice A n cp, .string it, .string tx, .slice none 0 0] 103)) (w.heap.size + 1) 103 [.pointer (some ⟨sb, 0, none⟩), .int .i64 1, .int .i32 r, .int .u8 u, .slice A n cp, .string it, .string tx, .slice none 0 0] := by
    have := BL.new (w.alloc (.cells #[.int .i64 1, .int .i32 r, .int .u8 u, .slice A n cp, .string it, .string tx] 65)) 103 [.pointer (some ⟨sb, 0, none⟩), .int .i64 1, .int .i32 r, .int .u8 u, .slice A n cp, .string it, .string tx, .slice none 0 0]
    rw [size_alloc] at this
    exact this
  generalize ((w.alloc (.cells #[.int .i64 1, .int .i32 r, .int .u8 u, .slice A n cp, .string it, .string tx] 65)).alloc (.cells #[.pointer (some ⟨sb, 0, none⟩), .int .i64 1, .int .i32 r, .int .u8 u, .slice A n cp, .string it, .string tx, .slice none 0 0] 103)) = V at *
  refine (HP.out V hbV).mono ?_
  rintro _ w2 ⟨rfl, F2, hS, hW⟩
  have hD2 := hD.only hW.only (by
    simp only [List.mem_cons, not_or]
    exact ⟨by omega, fun hx => by have := HL.out _ hx; omega⟩)
  have HS := Lib.hid hS
  have HW : Hid (Went (sb :: F) (sb :: F2) w w2) := Lib.hid ⟨fun x hx => (hW.foot x hx).imp id fun q => Nat.le_trans hbV.size q, (Only.of_below hbV).trans hW.only⟩
  have d7 : w2.cell? ⟨w.heap.size + 1, 7, none⟩ = some (.slice none 0 0) := hD2.cell 7
  clear hS hW hD hD2 hbV
  go_wp2_with fail
  go_ret
  exact ⟨rfl, F2, HS.out, HW.out⟩
end
end Go.Proofs.YtjklnnklgkihlaaGreatDoor.Scr
/- One printed rune behind another: what stays. -/
namespace Go.Proofs.YtjklnnklgkihlaaGreatDoor.Scr
open Go.RowKit Cel Sty Grd

/-- A screen on which a plain rune can be printed: all of it scrolls, nothing is inserted, no charset of lines. -/
structure Inky (c b : Nat) (M : MP) : Prop where
  fit : ∃ x y, Fit c M x y b
  wrp : onM M.S.modes 1 = true
  ins : onM M.S.modes 2 = false
  cs : M.S.now.cs = 0 ∨ M.S.now.cs = 1
  lin : hasLines M.S.now = false
/-- A printed rune. -/
def inkP (c lim b : Nat) (M : MP) (r : Int) : MP :=
  laidP c (roomP c lim M M.S.now.y.toNat b) (roomP c lim M M.S.now.y.toNat b).S.now.x.toNat (roomP c lim M M.S.now.y.toNat b).S.now.y.toNat r
theorem putP_len (c : Nat) (rs : List Ro) (x y : Int) (cc : Ce) : (putP c rs x y cc).length = rs.length := by
  unfold putP
  split
  · rw [List.length_set]
  · rfl
theorem laid_fit {c x y b : Nat} {M : MP} (h : Fit c M x y b) (hc : 1 ≤ c) (r : Int) : ∃ x2, Fit c (laidP c M x y r) x2 y b := by
  unfold laidP goOnP
  have hl := putP_len c M.rows (x : Int) (y : Int) (r, 1, M.S.now.pen)
  split
  · exact ⟨c - 1, ⟨by simp [ScP.setX, ScP.setW, ScP.setL]; omega, h.fy, by omega, by rw [hl]; exact h.yr, h.ft, h.fb, by rw [hl]; exact h.br, h.fp⟩⟩
  · rename_i hn
    have := h.fx
    exact ⟨x + 1, ⟨by simp [ScP.setX, ScP.setL]; omega, h.fy, by omega, by rw [hl]; exact h.yr, h.ft, h.fb, by rw [hl]; exact h.br, h.fp⟩⟩
theorem laid_same (c : Nat) (M : MP) (x y : Nat) (r : Int) : (laidP c M x y r).S.modes = M.S.modes ∧ (laidP c M x y r).S.now.cs = M.S.now.cs ∧ hasLines (laidP c M x y r).S.now = hasLines M.S.now := by
  unfold laidP goOnP
  split <;> exact ⟨rfl, rfl, rfl⟩
theorem room_same (c lim : Nat) (M : MP) (y b : Nat) : (roomP c lim M y b).S.now.cs = M.S.now.cs ∧ hasLines (roomP c lim M y b).S.now = hasLines M.S.now := by
  unfold roomP
  split
  · unfold wrapMP indexP
    split <;> exact ⟨rfl, rfl⟩
  · exact ⟨rfl, rfl⟩
theorem ink_fit {c lim b : Nat} {M : MP} (h : Inky c b M) (hc : 1 ≤ c) (r : Int) : Inky c b (inkP c lim b M r) := by
  obtain ⟨x, y, hf⟩ := h.fit
  have hy : M.S.now.y.toNat = y := by rw [hf.fy]; rfl
  unfold inkP
  rw [hy]
  obtain ⟨x', y', hf', hm⟩ := roomP_fit (lim := lim) hf hc
  have hx2 : (roomP c lim M y b).S.now.x.toNat = x' := by rw [hf'.fx]; rfl
  have hy2 : (roomP c lim M y b).S.now.y.toNat = y' := by rw [hf'.fy]; rfl
  rw [hx2, hy2]
  obtain ⟨s1, s2, s3⟩ := laid_same c (roomP c lim M y b) x' y' r
  obtain ⟨q1, q2⟩ := room_same c lim M y b
  obtain ⟨x2, hf2⟩ := laid_fit hf' hc r
  exact ⟨⟨x2, y', hf2⟩, by rw [s1, hm]; exact h.wrp, by rw [s1, hm]; exact h.ins, by rw [s2, q1]; exact h.cs, by rw [s3, q2]; exact h.lin⟩
section
variable {w : World} {sb g : Nat} {F : List Nat} {c lim b : Nat} {pp tv : Value} {M : MP} {B : Nat}
/-- Do at a plain rune. -/
theorem do_ink (h : SG w sb g F c lim M.past M.rows pp tv M.S) (ht : Tabs B w) (hB : B ≤ w.heap.size) (hF : ∀ x ∈ F, B ≤ x) (hsb : B ≤ sb) (hI : Inky c b M)
    (r : Int) (hr0 : 32 ≤ r) (hr1 : r ≤ 126) (hwd : width r = 1) (u : Int) (A : Option Addr) (n cp : Nat) (it tx : ByteArray) :
    Calls Tryz.prog 25 #[ptrV sb, .agg #[.int .i64 1, .int .i32 r, .int .u8 u, .slice A n cp, .string it, .string tx]] w fun e w' => e = .returned (.slice none 0 0) ∧ ∃ F', SG w' sb g F' c lim (inkP c lim b M r).past (inkP c lim b M r).rows pp tv (inkP c lim b M r).S ∧ Went (sb :: F) (sb :: F') w w' := by
  obtain ⟨x, y, hf⟩ := hI.fit
  have hc := h.grd.bd.c1
  have hy : M.S.now.y.toNat = y := by rw [hf.fy]; rfl
  obtain ⟨x', y', hf', hm⟩ := roomP_fit (lim := lim) hf hc
  have hx2 : (roomP c lim M y b).S.now.x.toNat = x' := by rw [hf'.fx]; rfl
  have hy2 : (roomP c lim M y b).S.now.y.toNat = y' := by rw [hf'.fy]; rfl
  have hk : inkP c lim b M r = laidP c (roomP c lim M y b) x' y' r := by unfold inkP; rw [hy, hx2, hy2]
  rw [hk]
  exact do_print h ht hB hF hsb hf hI.wrp hI.ins hI.cs hI.lin r hr0 hr1 hwd hf' hm u A n cp it tx
end
/-- A new screen is one. -/
theorem new_inky (c r : Nat) (hc : 1 ≤ c) (hr : 1 ≤ r) : Inky c (r - 1) ⟨[], List.replicate r (plainR c), ⟨newS, newS, newS, 9, 0, (r : Int) - 1, ByteArray.empty, 0, 0⟩⟩ := by
  have k1 : onM 9 1 = true := by decide
  have k2 : onM 9 2 = false := by decide
  have k3 : rightS (-1) (-1) 0 = true := by decide
  refine ⟨⟨0, 0, ⟨rfl, rfl, by omega, by simp; omega, rfl, ?_, by simp; omega, k3⟩⟩, k1, k2, .inl rfl, rfl⟩
  show (r : Int) - 1 = ((r - 1 : Nat) : Int)
  omega
end Go.Proofs.YtjklnnklgkihlaaGreatDoor.Scr
