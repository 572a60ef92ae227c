/- The numbers of CSI m. -/
import Derived.Test.YtjklnnklgkihlaaGreatDoorPNtp
import Derived.Test.YtjklnnklgkihlaaGreatDoorPNtn
namespace Go.Proofs.YtjklnnklgkihlaaGreatDoor.Scr
open Go.RowKit Cel Sty Grd

/-- The numbers; without any 0. -/
def codesP (l : List Int) : List Int := (List.range (max l.length 1)).map fun i => parP l i 0
theorem codesP_len (l : List Int) : (codesP l).length = max l.length 1 := by simp [codesP]
def intV (l : List Int) : List Value := l.map (Value.int .i64)
theorem info_int : (Tryz.prog.info? 3).map (fun i => (i.zero, i.size, i.bytes)) = some (some (.int .i64 0), 1, 8) := by kernel_rfl
section
variable {ops : Array Oper} {rest : List Oper} {op : Oper} {a : Act} {w : World} {Q : Exit → Act → World → Prop}
theorem wpList_make_ints (hgd : op.guard = none) (x y : Operand) (ho : op.op = .makeSlice 63 x y) (n : Nat) (hx : a.eval x = .int .i64 (n : Int)) (hy : a.eval y = .int .i64 (n : Int)) (hn : n ≤ 1000000)
    (h : ∀ w1, BL w1 w.heap.size 3 (intV (List.replicate n 0)) → Below w.heap.size w w1 → wpList Tryz.prog ops Q rest (a.put op.dst (.slice (some ⟨w.heap.size, 0, none⟩) n n)) w1) : wpList Tryz.prog ops Q (op :: rest) a w := by
  have hi := info_int
  cases hq : Tryz.prog.info? 3 with
  | none => simp [hq] at hi
  | some i =>
    simp only [hq, Option.map_some, Option.some.injEq, Prod.mk.injEq] at hi
    obtain ⟨hz, hs, hby⟩ := hi
    refine wpList_plain hgd fun K hK => ?_
    have hrun := run_make (P := Tryz.prog) w 63 3 i _ Tryz.underlying63 hq hz .i64 .i64 (n : Int) (n : Int) (Int.natCast_nonneg _) (Int.le_refl _) (by rw [hby]; omega) (by omega)
    have hf : (List.replicate n [Value.int .i64 0]).flatten = intV (List.replicate n 0) := by
      unfold intV
      rw [List.map_replicate]
      induction n with
      | zero => rfl
      | succ n ih => simp_all [List.replicate_succ]
    have hl : (madeCells (Value.cells (.int .i64 0)) ((n : Int).toNat * i.size)) = (intV (List.replicate n 0)).toArray := by
      rw [hs, Int.toNat_natCast, ← hf]
      have hmc := madeCells_rep [.int .i64 0] n
      rw [← hmc]
      rfl
    rw [hl, Int.toNat_natCast] at hrun
    have hk := hK _ _ (h _ (BL.new w 3 _) ((Below.refl _ _).alloc (Nat.le_refl _) _))
    generalize w.alloc (.cells (intV (List.replicate n 0)).toArray 3) = w2 at hk hrun
    unfold Oper.wp
    simp [execOp, ho, hx, hy, hrun, Result.andThen]
    exact hk
end
/-- The first k numbers, the others not yet. -/
def codesK (l : List Int) (k : Nat) : List Int := (codesP l).take k ++ List.replicate ((codesP l).length - k) 0
theorem codesK_len (l : List Int) (k : Nat) (hk : k ≤ (codesP l).length) : (codesK l k).length = (codesP l).length := by unfold codesK; simp; omega
theorem codesK_set {l : List Int} {k : Nat} (h : k < (codesP l).length) : (intV (codesK l k)).set k (.int .i64 (parP l k 0)) = intV (codesK l (k + 1)) := by
  unfold intV
  rw [← List.map_set]
  congr 1
  unfold codesK
  have hl : ((codesP l).take k).length = k := by rw [List.length_take]; omega
  obtain ⟨d, hd⟩ : ∃ d, (codesP l).length - k = d + 1 := ⟨(codesP l).length - k - 1, by omega⟩
  rw [List.set_append_right _ _ (by omega), hl, Nat.sub_self, hd, List.replicate_succ, List.set_cons_zero, List.take_succ_eq_append_getElem h, show (codesP l).length - (k + 1) = d by omega]
  simp [codesP]
section
variable {w : World} {sb d : Nat} {a : Vt.Ac} {pv av : Value} {B2 : Nat}
set_option maxRecDepth 100000 in
set_option maxHeartbeats 2000000 in
theorem penCodes_at (hD : dgB w d sb a pv av) (hp : Vt.Ints w B2 pv a.ps) (hb : ∀ x ∈ a.ps, -9223372036854775808 ≤ x ∧ x ≤ 9223372036854775807) (hl : a.ps.length ≤ 100) :
    Calls Tryz.prog 220 #[ptrV d] w fun e w' => e = .returned (.slice (some ⟨w.heap.size, 0, none⟩) (codesP a.ps).length (codesP a.ps).length) ∧ BL w' w.heap.size 3 (intV (codesP a.ps)) ∧ Below w.heap.size w w' := by
  have e4 : w.cell? ⟨d, 4, none⟩ = some pv := hD.cell 4
  have kp : ∀ V k, Below w.heap.size w V → k < (codesP a.ps).length → Calls Tryz.prog 190 #[ptrV d, .int .i64 (k : Int), .int .i64 0] V fun e w' => e = .returned (.int .i64 (parP a.ps k 0)) ∧ V = w' := fun V k hV hk =>
    param_at (hD.only (F := []) (Only.of_below hV) (by simp)) (ints_below hp hV) hb k (by have := codesP_len a.ps; omega) 0
  obtain ⟨A, c, rfl⟩ := Vt.own_slice hp
  have hlen := codesP_len a.ps
  have hset : ∀ k, k < (codesP a.ps).length → (intV (codesK a.ps k)).set k (.int .i64 (parP a.ps k 0)) = intV (codesK a.ps (k + 1)) := fun k hk => codesK_set hk
  have hkl : ∀ k, k ≤ (codesP a.ps).length → (intV (codesK a.ps k)).length = (codesP a.ps).length := fun k hk => by unfold intV; rw [List.length_map]; exact codesK_len _ _ hk
  have hk0 : codesK a.ps 0 = List.replicate (codesP a.ps).length 0 := by unfold codesK; simp
  have hkn : codesK a.ps (codesP a.ps).length = codesP a.ps := by unfold codesK; simp
  obtain ⟨n, hn⟩ : ∃ n, (codesP a.ps).length = n := ⟨_, rfl⟩
  rw [hn] at kp hset hkl hk0 hkn hlen ⊢
  have hmx : max (a.ps.length : Int) 1 = (n : Int) := by omega
  have hn1 : n ≤ 1000000 := by omega
  generalize a.ps.length = m at *
  have HP := Lib.hid kp
  have HS := Lib.hid hset
  have HL := Lib.hid hkl
  have H0 := Lib.hid hk0
  have HN := Lib.hid hkn
  clear hD hp hb kp hset hkl hk0 hkn hlen hn
  unfold ptrV at *
  go_enter Tryz.func220, Tryz.ntmps220
  go_wp2_with (refine wpList_make_ints rfl (.tmp 11) (.tmp 11) rfl n rfl rfl hn1 ?_; intro w1 hm hb1)
  rw [← H0.out] at hm
  go_loopw [15] (fun i wr => ∃ k : Nat, k ≤ n ∧ i = .int .i64 (k : Int) ∧ BL wr w.heap.size 3 (intV (codesK a.ps k)) ∧ Below w.heap.size w wr) (fun i _ => n - (intOf i).toNat)
  case atStart => exact ⟨0, Nat.zero_le _, rfl, hm, hb1⟩
  case round =>
    obtain ⟨k, hk, rfl, hB, hb⟩ := hrel
    clear hm hb1
    have k0 : (0 : Int) ≤ (k : Int) := Int.natCast_nonneg _
    by_cases hlt : k < n
    · have k1 : (k : Int) < (n : Int) := by omega
      have kp := HP.out _ _ hb hlt
      obtain ⟨u, hu⟩ : ∃ u, (intV (codesK a.ps k))[k]? = some u := ⟨_, List.getElem?_eq_getElem (by rw [HL.out k hk]; exact hlt)⟩
      have c0 : wr.cell? ⟨w.heap.size, k, none⟩ = some u := (hB.cell k).trans hu
      have c1 := hB.frozen k
      have hBn := hB.set_ k (.int .i64 (parP a.ps k 0))
      rw [HS.out k hlt] at hBn
      have hon := hb.trans ((one_set wr w.heap.size k (.int .i64 (parP a.ps k 0))).below (B := w.heap.size) hb.size (by simp))
      have HBN := Lib.hid hBn
      have HON := Lib.hid hon
      clear hBn hon hu hB
      go_wp2_with (go_at_call 190; refine kp.mono ?_; rintro _ w4 ⟨rfl, rfl⟩)
      go_roundw
      case rel => exact ⟨k + 1, by omega, by go_num, HBN.out, HON.out⟩
      case measure => simp [intOf]; omega
    · obtain rfl : k = n := by omega
      rw [HN.out] at hB
      go_wp2_with fail
      go_ret
      exact ⟨rfl, hB, hb⟩
end
end Go.Proofs.YtjklnnklgkihlaaGreatDoor.Scr
/- CSI m. -/
namespace Go.Proofs.YtjklnnklgkihlaaGreatDoor.Scr
open Go.RowKit Cel Sty Grd

def ScP.setP (S : ScP) (p : St) : ScP := { S with now := { S.now with pen := p } }
section
variable {ops : Array Oper} {o : Oper} {a : Act} {w : World} {Q : Exit → Act → World → Prop}
/-- A struct's values stored into a part of a block known whole, as one step of a region that draws. -/
theorem step_store_at {K : Act → World → Prop} {E : Prop} (hgd : o.guard = none) (ty : TypeId) (x y : Operand) (ho : o.op = .store ty x y) (g k : Nat) (vs cur : List Value) (hx : a.eval x = .pointer (some ⟨g, k, none⟩)) (hy : a.eval y = .agg vs.toArray)
    (t : TypeId) (hg : BL w g t cur) (hi : (Tryz.prog.info? ty).map (·.size) = some vs.length) (hfit : k + vs.length ≤ cur.length) (h1 : vs.toArray.all (·.oneCell') = true)
    (h : ∀ w1, BL w1 g t (splice cur k vs) → Only [g] w w1 → K (a.put o.dst undef) w1) : if Region.wanted o (yielded ops a.tmps) = true then Oper.wp Tryz.prog o a w K Q else E := by
  have hw : Region.wanted o (yielded ops a.tmps) = true := by simp [Region.wanted, hgd]
  rw [if_pos hw]
  refine wp_store_mid ty x y ho g k vs.toArray hx hy (hg.there (by simpa using hfit)) (by simpa using hi) h1 ?_
  exact h _ (hg.setCells vs k hfit) (Wrote.setCells _ _ _ _).only
end
theorem splice_pen (pp mp op tv : Value) (S : ScP) (p : St) : splice (scL pp mp op tv S) 6 [.int .i64 p.1, .int .i64 p.2.1, .int .i64 p.2.2] = scL pp mp op tv (S.setP p) := rfl
def lenV : Value → Nat
  | .slice _ n _ => n
  | _ => 0
section
variable {w : World} {sb g d : Nat} {a : Vt.Ac} {pv av : Value} {B2 B : Nat} {pp tv : Value} {S : ScP}
/-- A pen turned to what numbers say, none of which begins a colour told by numbers behind. -/
def penP (p : St) (l : List Int) : St := l.foldl turnedP p
theorem penP_succ (p : St) (l : List Int) (k : Nat) (hk : k < l.length) : turnedP (penP p (l.take k)) l[k] = penP p (l.take (k + 1)) := by
  unfold penP
  rw [List.take_succ_eq_append_getElem hk, List.foldl_append]
  rfl
set_option maxRecDepth 100000 in
set_option maxHeartbeats 4000000 in
theorem turnPen_at (hD : dgB w d sb a pv av) (hp : Vt.Ints w B2 pv a.ps) (hb : ∀ x ∈ a.ps, -9223372036854775808 ≤ x ∧ x ≤ 9223372036854775807) (hl : a.ps.length ≤ 100)
    (h : scB w sb pp g none tv S) (hT : TabA B w) (hB : B ≤ w.heap.size) (hsb : B ≤ sb) (hne : d ≠ sb) (hno : ∀ x ∈ codesP a.ps, x ≠ 38 ∧ x ≠ 48 ∧ 0 ≤ x ∧ x ≤ 9999) :
    Calls Tryz.prog 186 #[ptrV d] w fun e w' => e = .returned (.tuple #[]) ∧ scB w' sb pp g none tv (S.setP (penP S.now.pen (codesP a.ps))) ∧ Only [sb] w w' := by
  have kc := penCodes_at hD hp hb hl
  have hcl := codesP_len a.ps
  have hsl := h.lt
  have hdl := hD.lt
  generalize codesP a.ps = L at *
  have hL : L.length ≤ 100 := by omega
  obtain ⟨n, hn⟩ : ∃ n, L.length = n := ⟨_, rfl⟩
  have HNL := Lib.hid hn
  rw [hn] at kc hL
  have HD := Lib.hid hD
  have HH := Lib.hid h
  have HTT := Lib.hid hT
  have HNO := Lib.hid hno
  clear hD h hT hno hp hb hl hcl hn
  unfold ptrV at kc ⊢
  go_enter Tryz.func186, Tryz.ntmps186
  go_wp2_with (go_at_call 220; refine kc.mono ?_; rintro _ w1 ⟨rfl, hC, hb1⟩)
  go_loopw [2] (fun v wr => ∃ (k : Nat) (A : Option Addr), k ≤ n ∧ v = .slice A (n - k) (n - k) ∧ (k < n → A = some ⟨w.heap.size, k, none⟩) ∧ BL wr w.heap.size 3 (intV L) ∧ scB wr sb pp g none tv (S.setP (penP S.now.pen (L.take k))) ∧ Only [sb] w wr) (fun v _ => lenV v)
  case atStart => exact ⟨0, _, Nat.zero_le _, rfl, fun _ => rfl, hC, HH.out.only (F := []) (Only.of_below hb1) (by simp), Only.of_below hb1⟩
  case round =>
    obtain ⟨k, A, hk, rfl, hA, hBC, hS, hO⟩ := hrel
    clear hC hb1
    by_cases hlt : k < n
    · obtain rfl := hA hlt
      have hkL : k < L.length := by rw [HNL.out]; exact hlt
      obtain ⟨n38, n48, x0, x1⟩ := HNO.out L[k] (List.getElem_mem hkL)
      have hsucc := penP_succ S.now.pen L k hkL
      have hcell : (intV L)[k]? = some (.int .i64 L[k]) := by unfold intV; rw [List.getElem?_map, List.getElem?_eq_getElem hkL]; rfl
      generalize L[k] = x at *
      have m0 : (0 : Int) < ((n - k : Nat) : Int) := by omega
      have m1 : ¬ (n - k : Nat) = 0 := by omega
      have od : Only [] wr wr.drew := (Only.refl _ _).drew
      have hDd := (HD.out.only hO (by simpa using hne)).only od (by simp)
      have q0 : wr.drew.cell? ⟨d, 0, none⟩ = some (.pointer (some ⟨sb, 0, none⟩)) := hDd.cell 0
      have c0 : wr.cell? ⟨w.heap.size, k, none⟩ = some (.int .i64 x) := (hBC.cell k).trans hcell
      have c0d : wr.drew.cell? ⟨w.heap.size, k, none⟩ = some (.int .i64 x) := ((hBC.only od (by simp)).cell k).trans hcell
      have hSd : scB wr.drew sb pp g none tv (S.setP (penP S.now.pen (L.take k))) := hS.only od (by simp)
      have hTd := (HTT.out.only hO hB (by simpa using hsb)).only od (Nat.le_trans hB hO.size) (by simp)
      generalize penP S.now.pen (L.take k) = p at *
      have s6 : wr.drew.cell? ⟨sb, 6, none⟩ = some (.int .i64 p.1) := hSd.cell 6
      have s7 : wr.drew.cell? ⟨sb, 7, none⟩ = some (.int .i64 p.2.1) := hSd.cell 7
      have s8 : wr.drew.cell? ⟨sb, 8, none⟩ = some (.int .i64 p.2.2) := hSd.cell 8
      have kt := turned_at p x x0 x1 wr.drew hTd (Nat.le_trans hB (Nat.le_trans hO.size od.size))
      rw [hsucc] at kt
      generalize hq : penP S.now.pen (L.take (k + 1)) = q at *
      unfold penV at kt
      have HSD := Lib.hid hSd
      have HDD := Lib.hid hDd
      have HBC := Lib.hid hBC
      clear hsucc hcell hDd hSd hTd hBC hS
      go_wp2_with fail
      go_region_law
        (first
          | (go_simp; go_at_call 222; refine kt.mono ?_; rintro _ w4 ⟨rfl, hb4⟩; have hS4 := HSD.out.only (F := []) (Only.of_below hb4) (by simp); have z6 : w4.cell? ⟨sb, 6, none⟩ = some (.int .i64 p.1) := hS4.cell 6; have z6f := hS4.frozen 6; have hS4a := hS4.set_ 6 (.int .i64 q.1); have z7 : (w4.setCell ⟨sb, 6, none⟩ (.int .i64 q.1)).cell? ⟨sb, 7, none⟩ = some (.int .i64 p.2.1) := hS4a.cell 7; have z7f := hS4a.frozen 7; have hS4b := hS4a.set_ 7 (.int .i64 q.2.1); have z8 : ((w4.setCell ⟨sb, 6, none⟩ (.int .i64 q.1)).setCell ⟨sb, 7, none⟩ (.int .i64 q.2.1)).cell? ⟨sb, 8, none⟩ = some (.int .i64 p.2.2) := hS4b.cell 8; have z8f := hS4b.frozen 8; have q04 : w4.cell? ⟨d, 0, none⟩ = some (.pointer (some ⟨sb, 0, none⟩)) := (HDD.out.only (F := []) (Only.of_below hb4) (by simp)).cell 0; have HS4b := Lib.hid hS4b; clear hS4 hS4a hS4b))
      all_goals
        have hS5 := HS4b.out.set_ 8 (.int .i64 q.2.2)
        have o5 : Only [sb] wr (((w4.setCell ⟨sb, 6, none⟩ (.int .i64 q.1)).setCell ⟨sb, 7, none⟩ (.int .i64 q.2.1)).setCell ⟨sb, 8, none⟩ (.int .i64 q.2.2)) := (((((od.mono (by simp)).trans (Only.of_below hb4)).trans (one_set w4 sb 6 (.int .i64 q.1))).trans (one_set _ sb 7 (.int .i64 q.2.1))).trans (one_set _ sb 8 (.int .i64 q.2.2)))
        clear z6 z6f z7 z7f z8 z8f q04 HS4b s6 s7 s8 c0 c0d q0 od hb4 HSD HDD kt
        generalize ((w4.setCell ⟨sb, 6, none⟩ (.int .i64 q.1)).setCell ⟨sb, 7, none⟩ (.int .i64 q.2.1)).setCell ⟨sb, 8, none⟩ (.int .i64 q.2.2) = W9 at *
        have hB9 := HBC.out.only o5 (by simp; omega)
        have HS9 : Hid (scB W9 sb pp g none tv (S.setP q)) := Lib.hid hS5
        have HO9 := Lib.hid (hO.trans o5)
        have HB9 := Lib.hid hB9
        clear hS5 o5 hB9 hO HBC
        have m2 : (1 : Int) ≤ ((n - k : Nat) : Int) := by omega
        go_wp2_with fail
        refine ⟨⟨k + 1, _, by omega, rfl, fun hk1 => by rw [if_neg (by omega)], HB9.out, ?_, HO9.out⟩, ?_⟩
        · rw [hq]
          exact HS9.out
        · unfold lenV
          simp only
          omega
    · obtain rfl : k = n := by omega
      have ht : L.take k = L := by rw [← HNL.out, List.take_length]
      rw [ht] at hS
      have z : k - k = 0 := by omega
      rw [z]
      clear hA hBC
      go_wp2_with fail
      exact body_end rfl rfl ⟨rfl, hS, hO⟩
end
end Go.Proofs.YtjklnnklgkihlaaGreatDoor.Scr
