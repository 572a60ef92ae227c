/- The pane on a side of another one. -/
import Derived.Test.YtkanglfpiahecaaDoorPYmd
import Derived.Test.YtkanglfpiahecaaDoorPYcn
namespace Go.Proofs.YtkanglfpiahecaaDoor.Lyt
open Go.RowKit

section
variable {P : Program} {ops : Array Oper} {Q : Exit → Act → World → Prop} {md : Region.Mode} {S : World → Prop}
/-- An operation that is taken first, its slot named. -/
theorem any_take {i : Nat} {d : Tmp} {oi : Oper} {v : Value} {fuel : Nat} {listed : Array Bool} {a : Act} {w : World} (hi : ops[i]? = some oi) (hd : oi.dst = some d)
    (hs : Region.noSelect ops = true) (hf : Region.free md ops listed i = true) (hr : (Region.ready md ops listed).contains i = true)
    (hQ : ∀ c a w, Q (.panic c) (a.put oi.dst v) w → Q (.panic c) a w) (hw : Region.wanted oi (yielded ops a.tmps) = true) (hy : ∀ w, S w → (execOp a.eval oi).run P w = .ok (.value v) w) (hS : S w)
    (h : wpAnyH P md ops Q S fuel (listed.setIfInBounds i true) (a.put (some d) v) w) : wpAnyH P md ops Q S (fuel + 1) listed a w :=
  wpAnyH_take hi hs hf hr hQ (.inl ⟨hw, hy⟩) hS (by rw [hd]; exact h)
/-- An operation that is not carried out. -/
theorem any_skip2 {i : Nat} {d : Tmp} {oi : Oper} {fuel : Nat} {listed : Array Bool} {a : Act} {w : World} (hi : ops[i]? = some oi) (hd : oi.dst = some d)
    (hs : Region.noSelect ops = true) (hf : Region.free md ops listed i = true) (hr : (Region.ready md ops listed).contains i = true)
    (hQ : ∀ c a w, Q (.panic c) (a.put oi.dst undef) w → Q (.panic c) a w) (hw : Region.wanted oi (yielded ops a.tmps) = false) (hS : S w)
    (h : wpAnyH P md ops Q S fuel (listed.setIfInBounds i true) (a.put (some d) undef) w) : wpAnyH P md ops Q S (fuel + 1) listed a w :=
  wpAnyH_take hi hs hf hr hQ (.inr ⟨hw, rfl⟩) hS (by rw [hd]; exact h)
end
def sideP (b : Bx) (a : Int) (on : Bool) (x : Bx) : Bool := if on then nextP b x a else nextP x b a
def besideP (b : Bx) (l : List Bx) (a : Int) (on : Bool) : Int := match l.find? (sideP b a on) with
  | some x => x.1
  | none => 0
theorem find_from {p : Bx → Bool} {l : List Bx} {j : Nat} (hno : ∀ i (h : i < l.length), i < j → p l[i] = false) : l.find? p = (l.drop j).find? p := by
  induction j with
  | zero => simp
  | succ j ih =>
    rw [ih fun i h hi => hno i h (by omega)]
    by_cases hj : j < l.length
    · rw [List.drop_eq_getElem_cons hj, List.find?_cons, hno j hj (by omega)]
    · rw [List.drop_eq_nil_of_le (by omega), List.drop_eq_nil_of_le (by omega)]
theorem beside_at {p : Bx → Bool} {l : List Bx} {j : Nat} (hj : j < l.length) (hno : ∀ i (h : i < l.length), i < j → p l[i] = false) (hp : p l[j] = true) : l.find? p = some l[j] := by
  rw [find_from hno, List.drop_eq_getElem_cons hj, List.find?_cons, hp]
theorem beside_none {p : Bx → Bool} {l : List Bx} (hno : ∀ i (h : i < l.length), p l[i] = false) : l.find? p = none := by
  rw [find_from (j := l.length) fun i h _ => hno i h, List.drop_length]
  rfl
set_option maxRecDepth 100000 in
set_option maxHeartbeats 2000000 in
theorem Beside_any {tb k : Nat} {q c a : Int} {on : Bool} {l : List Bx} {w : World} (ht : towP c = (a, on)) (ha : a = 0 ∨ a = 1)
    (hbx : ∀ V, Below w.heap.size w V → Calls Tryd.prog 8 #[pV tb] V fun e w' => ∃ g cc, e = .returned (.slice (some ⟨g, 0, none⟩) l.length cc) ∧ g < w'.heap.size ∧ (∀ (j : Nat) v, (l.flatMap bxC)[j]? = some v → w'.cell? ⟨g, j, none⟩ = some v) ∧ Below V.heap.size V w')
    (hk : k < l.length) (hkq : l[k].1 = q) (hno : ∀ j (h : j < l.length), j < k → l[j].1 ≠ q) (hl : l.length ≤ 1000000) :
    Calls Tryd.prog 14 #[pV tb, .int .i64 q, .int .u8 c] w fun e w' => e = .returned (.int .i64 (besideP l[k] l a on)) ∧ Below w.heap.size w w' := by
  have HBX := Lib.hid hbx
  have HTW := Lib.hid (show ∀ V, Calls Tryd.prog 36 #[.int .u8 c] V fun e w' => e = .returned (.tuple #[.int .i64 a, .bool on]) ∧ V = w' from fun V => by have := towards_at c V; rwa [ht] at this)
  have HKQ := Lib.hid hkq
  have HNO := Lib.hid hno
  have hN := BL.new w 3 [.int .i64 q]
  have hb0 : Below w.heap.size w (w.alloc (.cells #[.int .i64 q] 3)) := (Below.refl _ _).alloc (Nat.le_refl _) _
  have HB0 := Lib.hid hb0
  have HN := Lib.hid hN
  obtain ⟨R, hR⟩ : ∃ R, R = besideP l[k] l a on := ⟨_, rfl⟩
  rw [← hR]
  have HR := Lib.hid hR
  clear hbx hkq hno hN hb0 ht hR
  unfold pV at HBX ⊢
  go_enter Tryd.func14, Tryd.ntmps14
  go_wp2_with fail
  refine (HBX.out _ HB0.out).mono ?_
  rintro _ w1 ⟨g, cc, rfl, hg, hc, hb1⟩
  have hq1 : w1.cell? ⟨w.heap.size, 0, none⟩ = some (.int .i64 q) := (HN.out.only (Only.of_below (F := []) hb1) (by simp)).cell 0
  have HF := Lib.hid (Find_at (c := cc) (n0 := w.heap.size) (k := k) (q := q) (l := l) hc hg hq1 hk HKQ.out HNO.out hl)
  have HB1 := Lib.hid (HB0.out.trans (hb1.mono HB0.out.size))
  have HC := Lib.hid hc
  clear hc hb1 hq1 HBX HB0 HN HNO HKQ
  go_wp2_with fail
  refine HF.out.mono ?_
  rintro _ w2 ⟨rfl, hb2⟩
  have HB2 := Lib.hid (HB1.out.trans (hb2.mono HB1.out.size))
  have HC2 := Lib.hid (show ∀ (j : Nat) v, (l.flatMap bxC)[j]? = some v → w2.cell? ⟨g, j, none⟩ = some v from fun j v hj => (hb2.cell (p := ⟨g, j, none⟩) hg).trans (HC.out j v hj))
  have hg2 : g < w2.heap.size := Nat.lt_of_lt_of_le hg hb2.size
  clear hb2 HF HB1 HC hg
  go_wp2_with fail
  refine (HTW.out _).mono ?_
  rintro _ w3 ⟨rfl, hw3⟩
  subst hw3
  have k0 : ¬ (k : Int) < 0 := by omega
  have a0 : ¬ a < 0 := by omega
  have k1 : (k : Int) < (l.length : Int) := by omega
  have k2 : (0 : Int) ≤ (k : Int) := Int.natCast_nonneg _
  clear HTW
  go_wp2_with fail
  go_loopw [31] (fun i wr => ∃ j : Nat, j ≤ l.length ∧ i = .int .i64 (j : Int) ∧ Hid (∀ i (h : i < l.length), i < j → sideP l[k] a on l[i] = false) ∧ Hid (Below w2.heap.size w2 wr)) (fun i _ => l.length - (intOf i).toNat)
  case atStart => exact ⟨0, Nat.zero_le _, rfl, (fun i h hi => by omega), Below.refl _ _⟩
  case round =>
    obtain ⟨j, hj, rfl, hno, hbl⟩ := hrel
    by_cases hlt : j < l.length
    · have j1 : (j : Int) < (l.length : Int) := by omega
      obtain ⟨b, hbx⟩ : ∃ b, l[j] = b := ⟨_, rfl⟩
      obtain ⟨d, hdx⟩ : ∃ d, l[k] = d := ⟨_, rfl⟩
      have f := fun kk hkk => bx_cell (l := l) (i := j) (b := b) (by rw [List.getElem?_eq_getElem hlt, hbx]) kk hkk
      have f2 := fun kk hkk => bx_cell (l := l) (i := k) (b := d) (by rw [List.getElem?_eq_getElem hk, hdx]) kk hkk
      have cl := fun kk u (h : (l.flatMap bxC)[j * 5 + kk]? = some u) => (hbl.out.cell (p := ⟨g, j * 5 + kk, none⟩) hg2).trans (HC2.out _ _ h)
      have cl2 := fun kk u (h : (l.flatMap bxC)[k * 5 + kk]? = some u) => (hbl.out.cell (p := ⟨g, k * 5 + kk, none⟩) hg2).trans (HC2.out _ _ h)
      have x0 : wr.cell? ⟨g, j * 5, none⟩ = some (.int .i64 b.1) := cl 0 _ (f 0 (by omega))
      have x1 : wr.cell? ⟨g, j * 5 + 1, none⟩ = some (.int .i64 b.2.1) := cl 1 _ (f 1 (by omega))
      have x2 : wr.cell? ⟨g, j * 5 + 2, none⟩ = some (.int .i64 b.2.2.1) := cl 2 _ (f 2 (by omega))
      have x3 : wr.cell? ⟨g, j * 5 + 3, none⟩ = some (.int .i64 b.2.2.2.1) := cl 3 _ (f 3 (by omega))
      have x4 : wr.cell? ⟨g, j * 5 + 4, none⟩ = some (.int .i64 b.2.2.2.2) := cl 4 _ (f 4 (by omega))
      have z0 : wr.cell? ⟨g, k * 5, none⟩ = some (.int .i64 d.1) := cl2 0 _ (f2 0 (by omega))
      have z1 : wr.cell? ⟨g, k * 5 + 1, none⟩ = some (.int .i64 d.2.1) := cl2 1 _ (f2 1 (by omega))
      have z2 : wr.cell? ⟨g, k * 5 + 2, none⟩ = some (.int .i64 d.2.2.1) := cl2 2 _ (f2 2 (by omega))
      have z3 : wr.cell? ⟨g, k * 5 + 3, none⟩ = some (.int .i64 d.2.2.2.1) := cl2 3 _ (f2 3 (by omega))
      have z4 : wr.cell? ⟨g, k * 5 + 4, none⟩ = some (.int .i64 d.2.2.2.2) := cl2 4 _ (f2 4 (by omega))
      have hgr : g < wr.heap.size := Nat.lt_of_lt_of_le hg2 hbl.out.size
      have KN := Lib.hid (fun V => next_at d b ha V)
      have KM := Lib.hid (fun V => next_at b d ha V)
      have HHit := Lib.hid (show sideP d a on b = true → R = b.1 from fun h => by
        rw [HR.out, besideP, beside_at hlt (fun i hi hij => hno.out i hi hij) (by rw [hbx, hdx]; exact h), hbx])
      have HMiss := Lib.hid (show sideP d a on b = false → ∀ i (h : i < l.length), i < j + 1 → sideP l[k] a on l[i] = false from fun h i hi hij => by
        by_cases hc : i < j
        · exact hno.out i hi hc
        · obtain rfl : i = j := by omega
          rw [hbx, hdx]; exact h)
      have HBL := Lib.hid hbl.out
      have HJ := Lib.hid (show j + 1 ≤ l.length from hlt)
      clear f f2 cl cl2 hbx hdx hno hbl
      obtain ⟨y0, y1, y2, y3, y4⟩ := b
      obtain ⟨v0, v1, v2, v3, v4⟩ := d
      simp only [bxC] at KN KM
      simp only at x0 x1 x2 x3 x4 z0 z1 z2 z3 z4 HHit
      have hN := BL.new wr 30 [.int .i64 y0, .int .i64 y1, .int .i64 y2, .int .i64 y3, .int .i64 y4]
      have hal : Below wr.heap.size wr (wr.alloc (.cells #[.int .i64 y0, .int .i64 y1, .int .i64 y2, .int .i64 y3, .int .i64 y4] 30)) := (Below.refl _ _).alloc (Nat.le_refl _) _
      have zz := fun kk u (h : wr.cell? ⟨g, kk, none⟩ = some u) => (hal.cell (p := ⟨g, kk, none⟩) hgr).trans h
      have Z := Lib.hid (And.intro (zz _ _ z0) (And.intro (zz _ _ z1) (And.intro (zz _ _ z2) (And.intro (zz _ _ z3) (zz _ _ z4)))))
      have Y := Lib.hid hN
      have HBA := Lib.hid (HBL.out.trans (hal.mono HBL.out.size))
      clear hN hal zz z0 z1 z2 z3 z4
      go_wp2_with fail
      clear x0 x1 x2 x3 x4
      generalize wr.alloc (.cells #[.int .i64 y0, .int .i64 y1, .int .i64 y2, .int .i64 y3, .int .i64 y4] 30) = W at *
      generalize wr.heap.size = vb at *
      have hdr : Below W.heap.size W W.drew := (Below.refl _ _).drew
      have y0' : W.drew.cell? ⟨vb, 0, none⟩ = some (.int .i64 y0) := Y.out.cell 0
      have y1' : W.drew.cell? ⟨vb, 1, none⟩ = some (.int .i64 y1) := Y.out.cell 1
      have y2' : W.drew.cell? ⟨vb, 2, none⟩ = some (.int .i64 y2) := Y.out.cell 2
      have y3' : W.drew.cell? ⟨vb, 3, none⟩ = some (.int .i64 y3) := Y.out.cell 3
      have y4' : W.drew.cell? ⟨vb, 4, none⟩ = some (.int .i64 y4) := Y.out.cell 4
      obtain ⟨z0, z1, z2, z3, z4⟩ := Z.out
      have z0' : W.drew.cell? ⟨g, k * 5, none⟩ = some (.int .i64 v0) := z0
      have z1' : W.drew.cell? ⟨g, k * 5 + 1, none⟩ = some (.int .i64 v1) := z1
      have z2' : W.drew.cell? ⟨g, k * 5 + 2, none⟩ = some (.int .i64 v2) := z2
      have z3' : W.drew.cell? ⟨g, k * 5 + 3, none⟩ = some (.int .i64 v3) := z3
      have z4' : W.drew.cell? ⟨g, k * 5 + 4, none⟩ = some (.int .i64 v4) := z4
      clear z0 z1 z2 z3 z4
      have SS : ∀ V, Below W.heap.size W V → (V.cell? ⟨vb, 0, none⟩ = some (.int .i64 y0) ∧ V.cell? ⟨vb, 1, none⟩ = some (.int .i64 y1) ∧ V.cell? ⟨vb, 2, none⟩ = some (.int .i64 y2) ∧ V.cell? ⟨vb, 3, none⟩ = some (.int .i64 y3) ∧ V.cell? ⟨vb, 4, none⟩ = some (.int .i64 y4) ∧ V.cell? ⟨g, k * 5, none⟩ = some (.int .i64 v0) ∧ V.cell? ⟨g, k * 5 + 1, none⟩ = some (.int .i64 v1) ∧ V.cell? ⟨g, k * 5 + 2, none⟩ = some (.int .i64 v2) ∧ V.cell? ⟨g, k * 5 + 3, none⟩ = some (.int .i64 v3) ∧ V.cell? ⟨g, k * 5 + 4, none⟩ = some (.int .i64 v4) ∧ Below W.heap.size W V) := fun V hV => by
        have h1 := Y.out.only (Only.of_below (F := []) hV) (by simp)
        obtain ⟨z0, z1, z2, z3, z4⟩ := Z.out
        exact ⟨h1.cell 0, h1.cell 1, h1.cell 2, h1.cell 3, h1.cell 4, (hV.cell (p := ⟨g, k * 5, none⟩) (cell_lt z0)).trans z0, (hV.cell (p := ⟨g, k * 5 + 1, none⟩) (cell_lt z0)).trans z1, (hV.cell (p := ⟨g, k * 5 + 2, none⟩) (cell_lt z0)).trans z2, (hV.cell (p := ⟨g, k * 5 + 3, none⟩) (cell_lt z0)).trans z3, (hV.cell (p := ⟨g, k * 5 + 4, none⟩) (cell_lt z0)).trans z4, hV⟩
      clear y0' y1' y2' y3' y4' z0' z1' z2' z3' z4'
      obtain ⟨r, hr⟩ : ∃ r, sideP (v0, v1, v2, v3, v4) a on (y0, y1, y2, y3, y4) = r := ⟨_, rfl⟩
      rw [hr] at HHit HMiss
      have HRr := Lib.hid hr
      clear hr
      go_cut [57] (fun s57 wx => s57 = .bool r ∧ Below W.heap.size W wx)
      case first =>
        have hr := HRr.out
        clear HHit HMiss HRr
        cases on with
        | true =>
          have hr2 : nextP (v0, v1, v2, v3, v4) (y0, y1, y2, y3, y4) a = r := hr
          rw [hr2] at KN
          clear hr hr2
          cases r with
          | true =>
            refine wp_region_held_drew (S := fun V => V.cell? ⟨vb, 0, none⟩ = some (.int .i64 y0) ∧ V.cell? ⟨vb, 1, none⟩ = some (.int .i64 y1) ∧ V.cell? ⟨vb, 2, none⟩ = some (.int .i64 y2) ∧ V.cell? ⟨vb, 3, none⟩ = some (.int .i64 y3) ∧ V.cell? ⟨vb, 4, none⟩ = some (.int .i64 y4) ∧ V.cell? ⟨g, k * 5, none⟩ = some (.int .i64 v0) ∧ V.cell? ⟨g, k * 5 + 1, none⟩ = some (.int .i64 v1) ∧ V.cell? ⟨g, k * 5 + 2, none⟩ = some (.int .i64 v2) ∧ V.cell? ⟨g, k * 5 + 3, none⟩ = some (.int .i64 v3) ∧ V.cell? ⟨g, k * 5 + 4, none⟩ = some (.int .i64 v4) ∧ Below W.heap.size W V) (by kernel_rfl) (SS _ hdr) (fun hHeld => ?_)
            refine any_take (i := 0) (d := 35) (v := .bool true) rfl rfl (by kernel_rfl) (by kernel_rfl) (by kernel_rfl) (fun _ _ _ h => h) rfl ?_ (by assumption) ?_
            · intro V hV
              obtain ⟨_, _, _, _, _, _, _, _, _, _, _⟩ := hV
              go_simp
            simp only [Act.put, List.setIfInBounds_toArray, List.set_cons_zero, List.set_cons_succ]
            refine any_take (i := 1) (d := 36) (v := .bool true) rfl rfl (by kernel_rfl) (by kernel_rfl) (by kernel_rfl) (fun _ _ _ h => h) rfl ?_ (by assumption) ?_
            · intro V hV
              obtain ⟨_, _, _, _, _, _, _, _, _, _, _⟩ := hV
              go_simp
            simp only [Act.put, List.setIfInBounds_toArray, List.set_cons_zero, List.set_cons_succ]
            refine any_take (i := 2) (d := 37) (v := .slice (some ⟨g, 0, none⟩) l.length cc) rfl rfl (by kernel_rfl) (by kernel_rfl) (by kernel_rfl) (fun _ _ _ h => h) rfl ?_ (by assumption) ?_
            · intro V hV
              obtain ⟨_, _, _, _, _, _, _, _, _, _, _⟩ := hV
              go_simp
            simp only [Act.put, List.setIfInBounds_toArray, List.set_cons_zero, List.set_cons_succ]
            refine any_take (i := 3) (d := 38) (v := .int .i64 (k : Int)) rfl rfl (by kernel_rfl) (by kernel_rfl) (by kernel_rfl) (fun _ _ _ h => h) rfl ?_ (by assumption) ?_
            · intro V hV
              obtain ⟨_, _, _, _, _, _, _, _, _, _, _⟩ := hV
              go_simp
            simp only [Act.put, List.setIfInBounds_toArray, List.set_cons_zero, List.set_cons_succ]
            refine any_take (i := 4) (d := 39) (v := .pointer (some ⟨g, k * 5, none⟩)) rfl rfl (by kernel_rfl) (by kernel_rfl) (by kernel_rfl) (fun _ _ _ h => h) rfl ?_ (by assumption) ?_
            · intro V hV
              obtain ⟨_, _, _, _, _, _, _, _, _, _, _⟩ := hV
              go_simp
            simp only [Act.put, List.setIfInBounds_toArray, List.set_cons_zero, List.set_cons_succ]
            refine any_take (i := 5) (d := 40) (v := .agg #[.int .i64 v0, .int .i64 v1, .int .i64 v2, .int .i64 v3, .int .i64 v4]) rfl rfl (by kernel_rfl) (by kernel_rfl) (by kernel_rfl) (fun _ _ _ h => h) rfl ?_ (by assumption) ?_
            · intro V hV
              obtain ⟨_, _, _, _, _, _, _, _, _, _, _⟩ := hV
              go_simp
            simp only [Act.put, List.setIfInBounds_toArray, List.set_cons_zero, List.set_cons_succ]
            refine any_take (i := 6) (d := 41) (v := .agg #[.int .i64 y0, .int .i64 y1, .int .i64 y2, .int .i64 y3, .int .i64 y4]) rfl rfl (by kernel_rfl) (by kernel_rfl) (by kernel_rfl) (fun _ _ _ h => h) rfl ?_ (by assumption) ?_
            · intro V hV
              obtain ⟨_, _, _, _, _, _, _, _, _, _, _⟩ := hV
              go_simp
            simp only [Act.put, List.setIfInBounds_toArray, List.set_cons_zero, List.set_cons_succ]
            refine any_take (i := 7) (d := 42) (v := .int .i64 a) rfl rfl (by kernel_rfl) (by kernel_rfl) (by kernel_rfl) (fun _ _ _ h => h) rfl ?_ (by assumption) ?_
            · intro V hV
              obtain ⟨_, _, _, _, _, _, _, _, _, _, _⟩ := hV
              go_simp
            simp only [Act.put, List.setIfInBounds_toArray, List.set_cons_zero, List.set_cons_succ]
            refine wpAnyH_ready (rs := [8]) (by kernel_rfl) (by simp) ?_
            refine AllReadyH.cons rfl (fun K hK => ?_) AllReadyH.nil
            go_simp
            obtain ⟨_, _, _, _, _, _, _, _, _, _, k3⟩ := hHeld
            refine (KN.out _).mono ?_
            rintro _ w5 ⟨rfl, hb5⟩
            have hby := k3.trans (hb5.mono k3.size)
            go_wp2_with fail
            refine hK.out _ _ ?_ (fun hHeld => ?_)
            · exact SS _ hby
            clear hK K
            refine any_take (i := 9) (d := 44) (v := .bool true) rfl rfl (by kernel_rfl) (by kernel_rfl) (by kernel_rfl) (fun _ _ _ h => h) rfl ?_ (by assumption) ?_
            · intro V hV
              obtain ⟨_, _, _, _, _, _, _, _, _, _, _⟩ := hV
              go_simp
            simp only [Act.put, List.setIfInBounds_toArray, List.set_cons_zero, List.set_cons_succ]
            refine any_take (i := 10) (d := 45) (v := .bool true) rfl rfl (by kernel_rfl) (by kernel_rfl) (by kernel_rfl) (fun _ _ _ h => h) rfl ?_ (by assumption) ?_
            · intro V hV
              obtain ⟨_, _, _, _, _, _, _, _, _, _, _⟩ := hV
              go_simp
            simp only [Act.put, List.setIfInBounds_toArray, List.set_cons_zero, List.set_cons_succ]
            refine any_skip2 (i := 11) (d := 46) rfl rfl (by kernel_rfl) (by kernel_rfl) (by kernel_rfl) (fun _ _ _ h => h) rfl (by assumption) ?_
            simp only [Act.put, List.setIfInBounds_toArray, List.set_cons_zero, List.set_cons_succ]
            refine any_skip2 (i := 12) (d := 47) rfl rfl (by kernel_rfl) (by kernel_rfl) (by kernel_rfl) (fun _ _ _ h => h) rfl (by assumption) ?_
            simp only [Act.put, List.setIfInBounds_toArray, List.set_cons_zero, List.set_cons_succ]
            refine any_skip2 (i := 13) (d := 48) rfl rfl (by kernel_rfl) (by kernel_rfl) (by kernel_rfl) (fun _ _ _ h => h) rfl (by assumption) ?_
            simp only [Act.put, List.setIfInBounds_toArray, List.set_cons_zero, List.set_cons_succ]
            refine any_skip2 (i := 14) (d := 49) rfl rfl (by kernel_rfl) (by kernel_rfl) (by kernel_rfl) (fun _ _ _ h => h) rfl (by assumption) ?_
            simp only [Act.put, List.setIfInBounds_toArray, List.set_cons_zero, List.set_cons_succ]
            refine any_skip2 (i := 15) (d := 50) rfl rfl (by kernel_rfl) (by kernel_rfl) (by kernel_rfl) (fun _ _ _ h => h) rfl (by assumption) ?_
            simp only [Act.put, List.setIfInBounds_toArray, List.set_cons_zero, List.set_cons_succ]
            refine any_skip2 (i := 16) (d := 51) rfl rfl (by kernel_rfl) (by kernel_rfl) (by kernel_rfl) (fun _ _ _ h => h) rfl (by assumption) ?_
            simp only [Act.put, List.setIfInBounds_toArray, List.set_cons_zero, List.set_cons_succ]
            refine any_skip2 (i := 17) (d := 52) rfl rfl (by kernel_rfl) (by kernel_rfl) (by kernel_rfl) (fun _ _ _ h => h) rfl (by assumption) ?_
            simp only [Act.put, List.setIfInBounds_toArray, List.set_cons_zero, List.set_cons_succ]
            refine any_skip2 (i := 18) (d := 53) rfl rfl (by kernel_rfl) (by kernel_rfl) (by kernel_rfl) (fun _ _ _ h => h) rfl (by assumption) ?_
            simp only [Act.put, List.setIfInBounds_toArray, List.set_cons_zero, List.set_cons_succ]
            refine any_skip2 (i := 19) (d := 54) rfl rfl (by kernel_rfl) (by kernel_rfl) (by kernel_rfl) (fun _ _ _ h => h) rfl (by assumption) ?_
            simp only [Act.put, List.setIfInBounds_toArray, List.set_cons_zero, List.set_cons_succ]
            refine any_skip2 (i := 20) (d := 55) rfl rfl (by kernel_rfl) (by kernel_rfl) (by kernel_rfl) (fun _ _ _ h => h) rfl (by assumption) ?_
            simp only [Act.put, List.setIfInBounds_toArray, List.set_cons_zero, List.set_cons_succ]
            refine any_skip2 (i := 21) (d := 56) rfl rfl (by kernel_rfl) (by kernel_rfl) (by kernel_rfl) (fun _ _ _ h => h) rfl (by assumption) ?_
            simp only [Act.put, List.setIfInBounds_toArray, List.set_cons_zero, List.set_cons_succ]
            refine any_take (i := 22) (d := 57) (v := .bool true) rfl rfl (by kernel_rfl) (by kernel_rfl) (by kernel_rfl) (fun _ _ _ h => h) rfl ?_ (by assumption) ?_
            · intro V hV
              obtain ⟨_, _, _, _, _, _, _, _, _, _, _⟩ := hV
              go_simp
            simp only [Act.put, List.setIfInBounds_toArray, List.set_cons_zero, List.set_cons_succ]
            refine wpAnyH_done (by kernel_rfl) ?_ _
            go_wp2_with fail
            go_meet
            exact ⟨rfl, hby⟩
          | false =>
            refine wp_region_held_drew (S := fun V => V.cell? ⟨vb, 0, none⟩ = some (.int .i64 y0) ∧ V.cell? ⟨vb, 1, none⟩ = some (.int .i64 y1) ∧ V.cell? ⟨vb, 2, none⟩ = some (.int .i64 y2) ∧ V.cell? ⟨vb, 3, none⟩ = some (.int .i64 y3) ∧ V.cell? ⟨vb, 4, none⟩ = some (.int .i64 y4) ∧ V.cell? ⟨g, k * 5, none⟩ = some (.int .i64 v0) ∧ V.cell? ⟨g, k * 5 + 1, none⟩ = some (.int .i64 v1) ∧ V.cell? ⟨g, k * 5 + 2, none⟩ = some (.int .i64 v2) ∧ V.cell? ⟨g, k * 5 + 3, none⟩ = some (.int .i64 v3) ∧ V.cell? ⟨g, k * 5 + 4, none⟩ = some (.int .i64 v4) ∧ Below W.heap.size W V) (by kernel_rfl) (SS _ hdr) (fun hHeld => ?_)
            refine any_take (i := 0) (d := 35) (v := .bool true) rfl rfl (by kernel_rfl) (by kernel_rfl) (by kernel_rfl) (fun _ _ _ h => h) rfl ?_ (by assumption) ?_
            · intro V hV
              obtain ⟨_, _, _, _, _, _, _, _, _, _, _⟩ := hV
              go_simp
            simp only [Act.put, List.setIfInBounds_toArray, List.set_cons_zero, List.set_cons_succ]
            refine any_take (i := 1) (d := 36) (v := .bool true) rfl rfl (by kernel_rfl) (by kernel_rfl) (by kernel_rfl) (fun _ _ _ h => h) rfl ?_ (by assumption) ?_
            · intro V hV
              obtain ⟨_, _, _, _, _, _, _, _, _, _, _⟩ := hV
              go_simp
            simp only [Act.put, List.setIfInBounds_toArray, List.set_cons_zero, List.set_cons_succ]
            refine any_take (i := 2) (d := 37) (v := .slice (some ⟨g, 0, none⟩) l.length cc) rfl rfl (by kernel_rfl) (by kernel_rfl) (by kernel_rfl) (fun _ _ _ h => h) rfl ?_ (by assumption) ?_
            · intro V hV
              obtain ⟨_, _, _, _, _, _, _, _, _, _, _⟩ := hV
              go_simp
            simp only [Act.put, List.setIfInBounds_toArray, List.set_cons_zero, List.set_cons_succ]
            refine any_take (i := 3) (d := 38) (v := .int .i64 (k : Int)) rfl rfl (by kernel_rfl) (by kernel_rfl) (by kernel_rfl) (fun _ _ _ h => h) rfl ?_ (by assumption) ?_
            · intro V hV
              obtain ⟨_, _, _, _, _, _, _, _, _, _, _⟩ := hV
              go_simp
            simp only [Act.put, List.setIfInBounds_toArray, List.set_cons_zero, List.set_cons_succ]
            refine any_take (i := 4) (d := 39) (v := .pointer (some ⟨g, k * 5, none⟩)) rfl rfl (by kernel_rfl) (by kernel_rfl) (by kernel_rfl) (fun _ _ _ h => h) rfl ?_ (by assumption) ?_
            · intro V hV
              obtain ⟨_, _, _, _, _, _, _, _, _, _, _⟩ := hV
              go_simp
            simp only [Act.put, List.setIfInBounds_toArray, List.set_cons_zero, List.set_cons_succ]
            refine any_take (i := 5) (d := 40) (v := .agg #[.int .i64 v0, .int .i64 v1, .int .i64 v2, .int .i64 v3, .int .i64 v4]) rfl rfl (by kernel_rfl) (by kernel_rfl) (by kernel_rfl) (fun _ _ _ h => h) rfl ?_ (by assumption) ?_
            · intro V hV
              obtain ⟨_, _, _, _, _, _, _, _, _, _, _⟩ := hV
              go_simp
            simp only [Act.put, List.setIfInBounds_toArray, List.set_cons_zero, List.set_cons_succ]
            refine any_take (i := 6) (d := 41) (v := .agg #[.int .i64 y0, .int .i64 y1, .int .i64 y2, .int .i64 y3, .int .i64 y4]) rfl rfl (by kernel_rfl) (by kernel_rfl) (by kernel_rfl) (fun _ _ _ h => h) rfl ?_ (by assumption) ?_
            · intro V hV
              obtain ⟨_, _, _, _, _, _, _, _, _, _, _⟩ := hV
              go_simp
            simp only [Act.put, List.setIfInBounds_toArray, List.set_cons_zero, List.set_cons_succ]
            refine any_take (i := 7) (d := 42) (v := .int .i64 a) rfl rfl (by kernel_rfl) (by kernel_rfl) (by kernel_rfl) (fun _ _ _ h => h) rfl ?_ (by assumption) ?_
            · intro V hV
              obtain ⟨_, _, _, _, _, _, _, _, _, _, _⟩ := hV
              go_simp
            simp only [Act.put, List.setIfInBounds_toArray, List.set_cons_zero, List.set_cons_succ]
            refine wpAnyH_ready (rs := [8]) (by kernel_rfl) (by simp) ?_
            refine AllReadyH.cons rfl (fun K hK => ?_) AllReadyH.nil
            go_simp
            obtain ⟨_, _, _, _, _, _, _, _, _, _, k3⟩ := hHeld
            refine (KN.out _).mono ?_
            rintro _ w5 ⟨rfl, hb5⟩
            have hby := k3.trans (hb5.mono k3.size)
            go_wp2_with fail
            refine hK.out _ _ ?_ (fun hHeld => ?_)
            · exact SS _ hby
            clear hK K
            refine any_take (i := 9) (d := 44) (v := .bool false) rfl rfl (by kernel_rfl) (by kernel_rfl) (by kernel_rfl) (fun _ _ _ h => h) rfl ?_ (by assumption) ?_
            · intro V hV
              obtain ⟨_, _, _, _, _, _, _, _, _, _, _⟩ := hV
              go_simp
            simp only [Act.put, List.setIfInBounds_toArray, List.set_cons_zero, List.set_cons_succ]
            refine any_take (i := 10) (d := 45) (v := .bool false) rfl rfl (by kernel_rfl) (by kernel_rfl) (by kernel_rfl) (fun _ _ _ h => h) rfl ?_ (by assumption) ?_
            · intro V hV
              obtain ⟨_, _, _, _, _, _, _, _, _, _, _⟩ := hV
              go_simp
            simp only [Act.put, List.setIfInBounds_toArray, List.set_cons_zero, List.set_cons_succ]
            refine any_take (i := 11) (d := 46) (v := .bool true) rfl rfl (by kernel_rfl) (by kernel_rfl) (by kernel_rfl) (fun _ _ _ h => h) rfl ?_ (by assumption) ?_
            · intro V hV
              obtain ⟨_, _, _, _, _, _, _, _, _, _, _⟩ := hV
              go_simp
            simp only [Act.put, List.setIfInBounds_toArray, List.set_cons_zero, List.set_cons_succ]
            refine any_take (i := 12) (d := 47) (v := .bool false) rfl rfl (by kernel_rfl) (by kernel_rfl) (by kernel_rfl) (fun _ _ _ h => h) rfl ?_ (by assumption) ?_
            · intro V hV
              obtain ⟨_, _, _, _, _, _, _, _, _, _, _⟩ := hV
              go_simp
            simp only [Act.put, List.setIfInBounds_toArray, List.set_cons_zero, List.set_cons_succ]
            refine any_take (i := 13) (d := 48) (v := .bool false) rfl rfl (by kernel_rfl) (by kernel_rfl) (by kernel_rfl) (fun _ _ _ h => h) rfl ?_ (by assumption) ?_
            · intro V hV
              obtain ⟨_, _, _, _, _, _, _, _, _, _, _⟩ := hV
              go_simp
            simp only [Act.put, List.setIfInBounds_toArray, List.set_cons_zero, List.set_cons_succ]
            refine any_skip2 (i := 14) (d := 49) rfl rfl (by kernel_rfl) (by kernel_rfl) (by kernel_rfl) (fun _ _ _ h => h) rfl (by assumption) ?_
            simp only [Act.put, List.setIfInBounds_toArray, List.set_cons_zero, List.set_cons_succ]
            refine any_skip2 (i := 15) (d := 50) rfl rfl (by kernel_rfl) (by kernel_rfl) (by kernel_rfl) (fun _ _ _ h => h) rfl (by assumption) ?_
            simp only [Act.put, List.setIfInBounds_toArray, List.set_cons_zero, List.set_cons_succ]
            refine any_skip2 (i := 16) (d := 51) rfl rfl (by kernel_rfl) (by kernel_rfl) (by kernel_rfl) (fun _ _ _ h => h) rfl (by assumption) ?_
            simp only [Act.put, List.setIfInBounds_toArray, List.set_cons_zero, List.set_cons_succ]
            refine any_skip2 (i := 17) (d := 52) rfl rfl (by kernel_rfl) (by kernel_rfl) (by kernel_rfl) (fun _ _ _ h => h) rfl (by assumption) ?_
            simp only [Act.put, List.setIfInBounds_toArray, List.set_cons_zero, List.set_cons_succ]
            refine any_skip2 (i := 18) (d := 53) rfl rfl (by kernel_rfl) (by kernel_rfl) (by kernel_rfl) (fun _ _ _ h => h) rfl (by assumption) ?_
            simp only [Act.put, List.setIfInBounds_toArray, List.set_cons_zero, List.set_cons_succ]
            refine any_skip2 (i := 19) (d := 54) rfl rfl (by kernel_rfl) (by kernel_rfl) (by kernel_rfl) (fun _ _ _ h => h) rfl (by assumption) ?_
            simp only [Act.put, List.setIfInBounds_toArray, List.set_cons_zero, List.set_cons_succ]
            refine any_skip2 (i := 20) (d := 55) rfl rfl (by kernel_rfl) (by kernel_rfl) (by kernel_rfl) (fun _ _ _ h => h) rfl (by assumption) ?_
            simp only [Act.put, List.setIfInBounds_toArray, List.set_cons_zero, List.set_cons_succ]
            refine any_take (i := 21) (d := 56) (v := .bool false) rfl rfl (by kernel_rfl) (by kernel_rfl) (by kernel_rfl) (fun _ _ _ h => h) rfl ?_ (by assumption) ?_
            · intro V hV
              obtain ⟨_, _, _, _, _, _, _, _, _, _, _⟩ := hV
              go_simp
            simp only [Act.put, List.setIfInBounds_toArray, List.set_cons_zero, List.set_cons_succ]
            refine any_take (i := 22) (d := 57) (v := .bool false) rfl rfl (by kernel_rfl) (by kernel_rfl) (by kernel_rfl) (fun _ _ _ h => h) rfl ?_ (by assumption) ?_
            · intro V hV
              obtain ⟨_, _, _, _, _, _, _, _, _, _, _⟩ := hV
              go_simp
            simp only [Act.put, List.setIfInBounds_toArray, List.set_cons_zero, List.set_cons_succ]
            refine wpAnyH_done (by kernel_rfl) ?_ _
            go_wp2_with fail
            go_meet
            exact ⟨rfl, hby⟩
        | false =>
          have hr2 : nextP (y0, y1, y2, y3, y4) (v0, v1, v2, v3, v4) a = r := hr
          rw [hr2] at KM
          clear hr hr2
          cases r with
          | true =>
            refine wp_region_held_drew (S := fun V => V.cell? ⟨vb, 0, none⟩ = some (.int .i64 y0) ∧ V.cell? ⟨vb, 1, none⟩ = some (.int .i64 y1) ∧ V.cell? ⟨vb, 2, none⟩ = some (.int .i64 y2) ∧ V.cell? ⟨vb, 3, none⟩ = some (.int .i64 y3) ∧ V.cell? ⟨vb, 4, none⟩ = some (.int .i64 y4) ∧ V.cell? ⟨g, k * 5, none⟩ = some (.int .i64 v0) ∧ V.cell? ⟨g, k * 5 + 1, none⟩ = some (.int .i64 v1) ∧ V.cell? ⟨g, k * 5 + 2, none⟩ = some (.int .i64 v2) ∧ V.cell? ⟨g, k * 5 + 3, none⟩ = some (.int .i64 v3) ∧ V.cell? ⟨g, k * 5 + 4, none⟩ = some (.int .i64 v4) ∧ Below W.heap.size W V) (by kernel_rfl) (SS _ hdr) (fun hHeld => ?_)
            refine any_take (i := 0) (d := 35) (v := .bool false) rfl rfl (by kernel_rfl) (by kernel_rfl) (by kernel_rfl) (fun _ _ _ h => h) rfl ?_ (by assumption) ?_
            · intro V hV
              obtain ⟨_, _, _, _, _, _, _, _, _, _, _⟩ := hV
              go_simp
            simp only [Act.put, List.setIfInBounds_toArray, List.set_cons_zero, List.set_cons_succ]
            refine any_take (i := 1) (d := 36) (v := .bool false) rfl rfl (by kernel_rfl) (by kernel_rfl) (by kernel_rfl) (fun _ _ _ h => h) rfl ?_ (by assumption) ?_
            · intro V hV
              obtain ⟨_, _, _, _, _, _, _, _, _, _, _⟩ := hV
              go_simp
            simp only [Act.put, List.setIfInBounds_toArray, List.set_cons_zero, List.set_cons_succ]
            refine any_skip2 (i := 2) (d := 37) rfl rfl (by kernel_rfl) (by kernel_rfl) (by kernel_rfl) (fun _ _ _ h => h) rfl (by assumption) ?_
            simp only [Act.put, List.setIfInBounds_toArray, List.set_cons_zero, List.set_cons_succ]
            refine any_skip2 (i := 3) (d := 38) rfl rfl (by kernel_rfl) (by kernel_rfl) (by kernel_rfl) (fun _ _ _ h => h) rfl (by assumption) ?_
            simp only [Act.put, List.setIfInBounds_toArray, List.set_cons_zero, List.set_cons_succ]
            refine any_skip2 (i := 4) (d := 39) rfl rfl (by kernel_rfl) (by kernel_rfl) (by kernel_rfl) (fun _ _ _ h => h) rfl (by assumption) ?_
            simp only [Act.put, List.setIfInBounds_toArray, List.set_cons_zero, List.set_cons_succ]
            refine any_skip2 (i := 5) (d := 40) rfl rfl (by kernel_rfl) (by kernel_rfl) (by kernel_rfl) (fun _ _ _ h => h) rfl (by assumption) ?_
            simp only [Act.put, List.setIfInBounds_toArray, List.set_cons_zero, List.set_cons_succ]
            refine any_skip2 (i := 6) (d := 41) rfl rfl (by kernel_rfl) (by kernel_rfl) (by kernel_rfl) (fun _ _ _ h => h) rfl (by assumption) ?_
            simp only [Act.put, List.setIfInBounds_toArray, List.set_cons_zero, List.set_cons_succ]
            refine any_skip2 (i := 7) (d := 42) rfl rfl (by kernel_rfl) (by kernel_rfl) (by kernel_rfl) (fun _ _ _ h => h) rfl (by assumption) ?_
            simp only [Act.put, List.setIfInBounds_toArray, List.set_cons_zero, List.set_cons_succ]
            refine any_skip2 (i := 8) (d := 43) rfl rfl (by kernel_rfl) (by kernel_rfl) (by kernel_rfl) (fun _ _ _ h => h) rfl (by assumption) ?_
            simp only [Act.put, List.setIfInBounds_toArray, List.set_cons_zero, List.set_cons_succ]
            refine any_take (i := 9) (d := 44) (v := .bool false) rfl rfl (by kernel_rfl) (by kernel_rfl) (by kernel_rfl) (fun _ _ _ h => h) rfl ?_ (by assumption) ?_
            · intro V hV
              obtain ⟨_, _, _, _, _, _, _, _, _, _, _⟩ := hV
              go_simp
            simp only [Act.put, List.setIfInBounds_toArray, List.set_cons_zero, List.set_cons_succ]
            refine any_take (i := 10) (d := 45) (v := .bool false) rfl rfl (by kernel_rfl) (by kernel_rfl) (by kernel_rfl) (fun _ _ _ h => h) rfl ?_ (by assumption) ?_
            · intro V hV
              obtain ⟨_, _, _, _, _, _, _, _, _, _, _⟩ := hV
              go_simp
            simp only [Act.put, List.setIfInBounds_toArray, List.set_cons_zero, List.set_cons_succ]
            refine any_take (i := 11) (d := 46) (v := .bool false) rfl rfl (by kernel_rfl) (by kernel_rfl) (by kernel_rfl) (fun _ _ _ h => h) rfl ?_ (by assumption) ?_
            · intro V hV
              obtain ⟨_, _, _, _, _, _, _, _, _, _, _⟩ := hV
              go_simp
            simp only [Act.put, List.setIfInBounds_toArray, List.set_cons_zero, List.set_cons_succ]
            refine any_take (i := 12) (d := 47) (v := .bool true) rfl rfl (by kernel_rfl) (by kernel_rfl) (by kernel_rfl) (fun _ _ _ h => h) rfl ?_ (by assumption) ?_
            · intro V hV
              obtain ⟨_, _, _, _, _, _, _, _, _, _, _⟩ := hV
              go_simp
            simp only [Act.put, List.setIfInBounds_toArray, List.set_cons_zero, List.set_cons_succ]
            refine any_take (i := 13) (d := 48) (v := .bool true) rfl rfl (by kernel_rfl) (by kernel_rfl) (by kernel_rfl) (fun _ _ _ h => h) rfl ?_ (by assumption) ?_
            · intro V hV
              obtain ⟨_, _, _, _, _, _, _, _, _, _, _⟩ := hV
              go_simp
            simp only [Act.put, List.setIfInBounds_toArray, List.set_cons_zero, List.set_cons_succ]
            refine any_take (i := 14) (d := 49) (v := .agg #[.int .i64 y0, .int .i64 y1, .int .i64 y2, .int .i64 y3, .int .i64 y4]) rfl rfl (by kernel_rfl) (by kernel_rfl) (by kernel_rfl) (fun _ _ _ h => h) rfl ?_ (by assumption) ?_
            · intro V hV
              obtain ⟨_, _, _, _, _, _, _, _, _, _, _⟩ := hV
              go_simp
            simp only [Act.put, List.setIfInBounds_toArray, List.set_cons_zero, List.set_cons_succ]
            refine any_take (i := 15) (d := 50) (v := .slice (some ⟨g, 0, none⟩) l.length cc) rfl rfl (by kernel_rfl) (by kernel_rfl) (by kernel_rfl) (fun _ _ _ h => h) rfl ?_ (by assumption) ?_
            · intro V hV
              obtain ⟨_, _, _, _, _, _, _, _, _, _, _⟩ := hV
              go_simp
            simp only [Act.put, List.setIfInBounds_toArray, List.set_cons_zero, List.set_cons_succ]
            refine any_take (i := 16) (d := 51) (v := .int .i64 (k : Int)) rfl rfl (by kernel_rfl) (by kernel_rfl) (by kernel_rfl) (fun _ _ _ h => h) rfl ?_ (by assumption) ?_
            · intro V hV
              obtain ⟨_, _, _, _, _, _, _, _, _, _, _⟩ := hV
              go_simp
            simp only [Act.put, List.setIfInBounds_toArray, List.set_cons_zero, List.set_cons_succ]
            refine any_take (i := 17) (d := 52) (v := .pointer (some ⟨g, k * 5, none⟩)) rfl rfl (by kernel_rfl) (by kernel_rfl) (by kernel_rfl) (fun _ _ _ h => h) rfl ?_ (by assumption) ?_
            · intro V hV
              obtain ⟨_, _, _, _, _, _, _, _, _, _, _⟩ := hV
              go_simp
            simp only [Act.put, List.setIfInBounds_toArray, List.set_cons_zero, List.set_cons_succ]
            refine any_take (i := 18) (d := 53) (v := .agg #[.int .i64 v0, .int .i64 v1, .int .i64 v2, .int .i64 v3, .int .i64 v4]) rfl rfl (by kernel_rfl) (by kernel_rfl) (by kernel_rfl) (fun _ _ _ h => h) rfl ?_ (by assumption) ?_
            · intro V hV
              obtain ⟨_, _, _, _, _, _, _, _, _, _, _⟩ := hV
              go_simp
            simp only [Act.put, List.setIfInBounds_toArray, List.set_cons_zero, List.set_cons_succ]
            refine any_take (i := 19) (d := 54) (v := .int .i64 a) rfl rfl (by kernel_rfl) (by kernel_rfl) (by kernel_rfl) (fun _ _ _ h => h) rfl ?_ (by assumption) ?_
            · intro V hV
              obtain ⟨_, _, _, _, _, _, _, _, _, _, _⟩ := hV
              go_simp
            simp only [Act.put, List.setIfInBounds_toArray, List.set_cons_zero, List.set_cons_succ]
            refine wpAnyH_ready (rs := [20]) (by kernel_rfl) (by simp) ?_
            refine AllReadyH.cons rfl (fun K hK => ?_) AllReadyH.nil
            go_simp
            obtain ⟨_, _, _, _, _, _, _, _, _, _, k3⟩ := hHeld
            refine (KM.out _).mono ?_
            rintro _ w5 ⟨rfl, hb5⟩
            have hby := k3.trans (hb5.mono k3.size)
            go_wp2_with fail
            refine hK.out _ _ ?_ (fun hHeld => ?_)
            · exact SS _ hby
            clear hK K
            refine any_take (i := 21) (d := 56) (v := .bool true) rfl rfl (by kernel_rfl) (by kernel_rfl) (by kernel_rfl) (fun _ _ _ h => h) rfl ?_ (by assumption) ?_
            · intro V hV
              obtain ⟨_, _, _, _, _, _, _, _, _, _, _⟩ := hV
              go_simp
            simp only [Act.put, List.setIfInBounds_toArray, List.set_cons_zero, List.set_cons_succ]
            refine any_take (i := 22) (d := 57) (v := .bool true) rfl rfl (by kernel_rfl) (by kernel_rfl) (by kernel_rfl) (fun _ _ _ h => h) rfl ?_ (by assumption) ?_
            · intro V hV
              obtain ⟨_, _, _, _, _, _, _, _, _, _, _⟩ := hV
              go_simp
            simp only [Act.put, List.setIfInBounds_toArray, List.set_cons_zero, List.set_cons_succ]
            refine wpAnyH_done (by kernel_rfl) ?_ _
            go_wp2_with fail
            go_meet
            exact ⟨rfl, hby⟩
          | false =>
            refine wp_region_held_drew (S := fun V => V.cell? ⟨vb, 0, none⟩ = some (.int .i64 y0) ∧ V.cell? ⟨vb, 1, none⟩ = some (.int .i64 y1) ∧ V.cell? ⟨vb, 2, none⟩ = some (.int .i64 y2) ∧ V.cell? ⟨vb, 3, none⟩ = some (.int .i64 y3) ∧ V.cell? ⟨vb, 4, none⟩ = some (.int .i64 y4) ∧ V.cell? ⟨g, k * 5, none⟩ = some (.int .i64 v0) ∧ V.cell? ⟨g, k * 5 + 1, none⟩ = some (.int .i64 v1) ∧ V.cell? ⟨g, k * 5 + 2, none⟩ = some (.int .i64 v2) ∧ V.cell? ⟨g, k * 5 + 3, none⟩ = some (.int .i64 v3) ∧ V.cell? ⟨g, k * 5 + 4, none⟩ = some (.int .i64 v4) ∧ Below W.heap.size W V) (by kernel_rfl) (SS _ hdr) (fun hHeld => ?_)
            refine any_take (i := 0) (d := 35) (v := .bool false) rfl rfl (by kernel_rfl) (by kernel_rfl) (by kernel_rfl) (fun _ _ _ h => h) rfl ?_ (by assumption) ?_
            · intro V hV
              obtain ⟨_, _, _, _, _, _, _, _, _, _, _⟩ := hV
              go_simp
            simp only [Act.put, List.setIfInBounds_toArray, List.set_cons_zero, List.set_cons_succ]
            refine any_take (i := 1) (d := 36) (v := .bool false) rfl rfl (by kernel_rfl) (by kernel_rfl) (by kernel_rfl) (fun _ _ _ h => h) rfl ?_ (by assumption) ?_
            · intro V hV
              obtain ⟨_, _, _, _, _, _, _, _, _, _, _⟩ := hV
              go_simp
            simp only [Act.put, List.setIfInBounds_toArray, List.set_cons_zero, List.set_cons_succ]
            refine any_skip2 (i := 2) (d := 37) rfl rfl (by kernel_rfl) (by kernel_rfl) (by kernel_rfl) (fun _ _ _ h => h) rfl (by assumption) ?_
            simp only [Act.put, List.setIfInBounds_toArray, List.set_cons_zero, List.set_cons_succ]
            refine any_skip2 (i := 3) (d := 38) rfl rfl (by kernel_rfl) (by kernel_rfl) (by kernel_rfl) (fun _ _ _ h => h) rfl (by assumption) ?_
            simp only [Act.put, List.setIfInBounds_toArray, List.set_cons_zero, List.set_cons_succ]
            refine any_skip2 (i := 4) (d := 39) rfl rfl (by kernel_rfl) (by kernel_rfl) (by kernel_rfl) (fun _ _ _ h => h) rfl (by assumption) ?_
            simp only [Act.put, List.setIfInBounds_toArray, List.set_cons_zero, List.set_cons_succ]
            refine any_skip2 (i := 5) (d := 40) rfl rfl (by kernel_rfl) (by kernel_rfl) (by kernel_rfl) (fun _ _ _ h => h) rfl (by assumption) ?_
            simp only [Act.put, List.setIfInBounds_toArray, List.set_cons_zero, List.set_cons_succ]
            refine any_skip2 (i := 6) (d := 41) rfl rfl (by kernel_rfl) (by kernel_rfl) (by kernel_rfl) (fun _ _ _ h => h) rfl (by assumption) ?_
            simp only [Act.put, List.setIfInBounds_toArray, List.set_cons_zero, List.set_cons_succ]
            refine any_skip2 (i := 7) (d := 42) rfl rfl (by kernel_rfl) (by kernel_rfl) (by kernel_rfl) (fun _ _ _ h => h) rfl (by assumption) ?_
            simp only [Act.put, List.setIfInBounds_toArray, List.set_cons_zero, List.set_cons_succ]
            refine any_skip2 (i := 8) (d := 43) rfl rfl (by kernel_rfl) (by kernel_rfl) (by kernel_rfl) (fun _ _ _ h => h) rfl (by assumption) ?_
            simp only [Act.put, List.setIfInBounds_toArray, List.set_cons_zero, List.set_cons_succ]
            refine any_take (i := 9) (d := 44) (v := .bool false) rfl rfl (by kernel_rfl) (by kernel_rfl) (by kernel_rfl) (fun _ _ _ h => h) rfl ?_ (by assumption) ?_
            · intro V hV
              obtain ⟨_, _, _, _, _, _, _, _, _, _, _⟩ := hV
              go_simp
            simp only [Act.put, List.setIfInBounds_toArray, List.set_cons_zero, List.set_cons_succ]
            refine any_take (i := 10) (d := 45) (v := .bool false) rfl rfl (by kernel_rfl) (by kernel_rfl) (by kernel_rfl) (fun _ _ _ h => h) rfl ?_ (by assumption) ?_
            · intro V hV
              obtain ⟨_, _, _, _, _, _, _, _, _, _, _⟩ := hV
              go_simp
            simp only [Act.put, List.setIfInBounds_toArray, List.set_cons_zero, List.set_cons_succ]
            refine any_take (i := 11) (d := 46) (v := .bool false) rfl rfl (by kernel_rfl) (by kernel_rfl) (by kernel_rfl) (fun _ _ _ h => h) rfl ?_ (by assumption) ?_
            · intro V hV
              obtain ⟨_, _, _, _, _, _, _, _, _, _, _⟩ := hV
              go_simp
            simp only [Act.put, List.setIfInBounds_toArray, List.set_cons_zero, List.set_cons_succ]
            refine any_take (i := 12) (d := 47) (v := .bool true) rfl rfl (by kernel_rfl) (by kernel_rfl) (by kernel_rfl) (fun _ _ _ h => h) rfl ?_ (by assumption) ?_
            · intro V hV
              obtain ⟨_, _, _, _, _, _, _, _, _, _, _⟩ := hV
              go_simp
            simp only [Act.put, List.setIfInBounds_toArray, List.set_cons_zero, List.set_cons_succ]
            refine any_take (i := 13) (d := 48) (v := .bool true) rfl rfl (by kernel_rfl) (by kernel_rfl) (by kernel_rfl) (fun _ _ _ h => h) rfl ?_ (by assumption) ?_
            · intro V hV
              obtain ⟨_, _, _, _, _, _, _, _, _, _, _⟩ := hV
              go_simp
            simp only [Act.put, List.setIfInBounds_toArray, List.set_cons_zero, List.set_cons_succ]
            refine any_take (i := 14) (d := 49) (v := .agg #[.int .i64 y0, .int .i64 y1, .int .i64 y2, .int .i64 y3, .int .i64 y4]) rfl rfl (by kernel_rfl) (by kernel_rfl) (by kernel_rfl) (fun _ _ _ h => h) rfl ?_ (by assumption) ?_
            · intro V hV
              obtain ⟨_, _, _, _, _, _, _, _, _, _, _⟩ := hV
              go_simp
            simp only [Act.put, List.setIfInBounds_toArray, List.set_cons_zero, List.set_cons_succ]
            refine any_take (i := 15) (d := 50) (v := .slice (some ⟨g, 0, none⟩) l.length cc) rfl rfl (by kernel_rfl) (by kernel_rfl) (by kernel_rfl) (fun _ _ _ h => h) rfl ?_ (by assumption) ?_
            · intro V hV
              obtain ⟨_, _, _, _, _, _, _, _, _, _, _⟩ := hV
              go_simp
            simp only [Act.put, List.setIfInBounds_toArray, List.set_cons_zero, List.set_cons_succ]
            refine any_take (i := 16) (d := 51) (v := .int .i64 (k : Int)) rfl rfl (by kernel_rfl) (by kernel_rfl) (by kernel_rfl) (fun _ _ _ h => h) rfl ?_ (by assumption) ?_
            · intro V hV
              obtain ⟨_, _, _, _, _, _, _, _, _, _, _⟩ := hV
              go_simp
            simp only [Act.put, List.setIfInBounds_toArray, List.set_cons_zero, List.set_cons_succ]
            refine any_take (i := 17) (d := 52) (v := .pointer (some ⟨g, k * 5, none⟩)) rfl rfl (by kernel_rfl) (by kernel_rfl) (by kernel_rfl) (fun _ _ _ h => h) rfl ?_ (by assumption) ?_
            · intro V hV
              obtain ⟨_, _, _, _, _, _, _, _, _, _, _⟩ := hV
              go_simp
            simp only [Act.put, List.setIfInBounds_toArray, List.set_cons_zero, List.set_cons_succ]
            refine any_take (i := 18) (d := 53) (v := .agg #[.int .i64 v0, .int .i64 v1, .int .i64 v2, .int .i64 v3, .int .i64 v4]) rfl rfl (by kernel_rfl) (by kernel_rfl) (by kernel_rfl) (fun _ _ _ h => h) rfl ?_ (by assumption) ?_
            · intro V hV
              obtain ⟨_, _, _, _, _, _, _, _, _, _, _⟩ := hV
              go_simp
            simp only [Act.put, List.setIfInBounds_toArray, List.set_cons_zero, List.set_cons_succ]
            refine any_take (i := 19) (d := 54) (v := .int .i64 a) rfl rfl (by kernel_rfl) (by kernel_rfl) (by kernel_rfl) (fun _ _ _ h => h) rfl ?_ (by assumption) ?_
            · intro V hV
              obtain ⟨_, _, _, _, _, _, _, _, _, _, _⟩ := hV
              go_simp
            simp only [Act.put, List.setIfInBounds_toArray, List.set_cons_zero, List.set_cons_succ]
            refine wpAnyH_ready (rs := [20]) (by kernel_rfl) (by simp) ?_
            refine AllReadyH.cons rfl (fun K hK => ?_) AllReadyH.nil
            go_simp
            obtain ⟨_, _, _, _, _, _, _, _, _, _, k3⟩ := hHeld
            refine (KM.out _).mono ?_
            rintro _ w5 ⟨rfl, hb5⟩
            have hby := k3.trans (hb5.mono k3.size)
            go_wp2_with fail
            refine hK.out _ _ ?_ (fun hHeld => ?_)
            · exact SS _ hby
            clear hK K
            refine any_take (i := 21) (d := 56) (v := .bool false) rfl rfl (by kernel_rfl) (by kernel_rfl) (by kernel_rfl) (fun _ _ _ h => h) rfl ?_ (by assumption) ?_
            · intro V hV
              obtain ⟨_, _, _, _, _, _, _, _, _, _, _⟩ := hV
              go_simp
            simp only [Act.put, List.setIfInBounds_toArray, List.set_cons_zero, List.set_cons_succ]
            refine any_take (i := 22) (d := 57) (v := .bool false) rfl rfl (by kernel_rfl) (by kernel_rfl) (by kernel_rfl) (fun _ _ _ h => h) rfl ?_ (by assumption) ?_
            · intro V hV
              obtain ⟨_, _, _, _, _, _, _, _, _, _, _⟩ := hV
              go_simp
            simp only [Act.put, List.setIfInBounds_toArray, List.set_cons_zero, List.set_cons_succ]
            refine wpAnyH_done (by kernel_rfl) ?_ _
            go_wp2_with fail
            go_meet
            exact ⟨rfl, hby⟩
      case rest =>
        obtain ⟨rfl, hb1⟩ := hcut
        have h1 := Y.out.only (Only.of_below (F := []) hb1) (by simp)
        have c0 : wc.cell? ⟨vb, 0, none⟩ = some (.int .i64 y0) := h1.cell 0
        have HBC := Lib.hid (HBA.out.trans (hb1.mono HBA.out.size))
        clear h1 hb1 SS KN KM Y Z HRr hdr
        cases r with
        | true =>
          have HV := Lib.hid (HHit.out rfl)
          have HF := Lib.hid (HB2.out.trans (HBC.out.mono HB2.out.size))
          go_wp2_with fail
          go_ret
          exact ⟨by rw [HV.out]; rfl, HF.out⟩
        | false =>
          have HM := Lib.hid (HMiss.out rfl)
          go_wp2_with fail
          go_roundw
          case rel => exact ⟨j + 1, HJ.out, by go_num, HM.out, HBC.out⟩
          case measure => have := HJ.out; simp [intOf]; omega
    · have hj1 : ¬ (j : Int) < (l.length : Int) := by omega
      have HV := Lib.hid (show R = 0 by
        rw [HR.out, besideP, beside_none (fun i hi => hno.out i hi (by omega))])
      have HF := Lib.hid (HB2.out.trans (hbl.out.mono HB2.out.size))
      clear hno hbl
      go_wp2_with fail
      go_ret
      exact ⟨by rw [HV.out]; rfl, HF.out⟩
end Go.Proofs.YtkanglfpiahecaaDoor.Lyt
/- What boxes tell: panes, each once; sizes that may be. -/
namespace Go.Proofs.YtkanglfpiahecaaDoor.Lyt
open Go.RowKit

theorem flatMap_flat {α : Type} (g : Nat → List α) (h : α → Int) (L : List (List Int)) (hL : ∀ (i : Nat) ps, L[i]? = some ps → (g i).map h = ps) : ((List.range L.length).flatMap g).map h = L.flatten := by
  induction L generalizing g with
  | nil => simp
  | cons c L ih =>
    rw [List.length_cons, List.range_succ_eq_map, List.flatMap_cons, List.map_append, List.flatMap_map, hL 0 c rfl, List.flatten_cons, ih (fun i => g (i + 1)) fun i d hd => hL (i + 1) d (by simpa using hd)]
theorem F.bxl_ids : ∀ (f : F) (x y : Int) (i : Nat) (l : List Bx) (ps : List Int), (f.bxl x y)[i]? = some l → f.pns[i]? = some ps → l.map (·.1) = ps
  | .nil, _, _, _, _, _, h, _ => by simp [F.bxl] at h
  | .leaf _ p s0 s1 r, x, y, i, l, ps, h, hc => by
    cases i with
    | zero =>
      obtain rfl : [(p, x, y, s0, s1)] = l := by simpa [F.bxl] using h
      obtain rfl : [p] = ps := by simpa [F.pns] using hc
      rfl
    | succ i => exact F.bxl_ids r x y i l ps (by simpa [F.bxl] using h) (by simpa [F.pns] using hc)
  | .node _ _ _ al ks r, x, y, i, l, ps, h, hc => by
    cases i with
    | zero =>
      obtain rfl : ((List.range ks.len).flatMap fun i => (ks.bxl (ks.kx al x y i).1 (ks.kx al x y i).2).getD i []) = l := by simpa [F.bxl] using h
      obtain rfl : ks.pns.flatten = ps := by simpa [F.pns] using hc
      rw [← F.pns_len ks]
      refine flatMap_flat _ _ _ fun i d hd => ?_
      have hi : i < ks.len := by
        rw [← F.pns_len ks]
        exact (List.getElem?_eq_some_iff.1 hd).1
      refine F.bxl_ids ks (ks.kx al x y i).1 (ks.kx al x y i).2 i _ d ?_ hd
      rw [List.getD_eq_getElem?_getD, List.getElem?_eq_getElem (by rw [F.bxl_len]; exact hi)]
      rfl
    | succ i => exact F.bxl_ids r x y i l ps (by simpa [F.bxl] using h) (by simpa [F.pns] using hc)
theorem F.bxl_all {P : Int → Int → Int → Prop} : ∀ (f : F) (x y : Int) (i : Nat) (l : List Bx), f.all P → (f.bxl x y)[i]? = some l → ∀ b ∈ l, P b.1 b.2.2.2.1 b.2.2.2.2
  | .nil, _, _, _, _, _, h => by simp [F.bxl] at h
  | .leaf _ p s0 s1 r, x, y, i, l, ha, h => by
    cases i with
    | zero =>
      obtain rfl : [(p, x, y, s0, s1)] = l := by simpa [F.bxl] using h
      intro b hb
      obtain rfl := List.mem_singleton.1 hb
      exact ha.1
    | succ i => exact F.bxl_all r x y i l ha.2 (by simpa [F.bxl] using h)
  | .node _ _ _ al ks r, x, y, i, l, ha, h => by
    cases i with
    | zero =>
      obtain rfl : ((List.range ks.len).flatMap fun i => (ks.bxl (ks.kx al x y i).1 (ks.kx al x y i).2).getD i []) = l := by simpa [F.bxl] using h
      intro b hb
      obtain ⟨j, hj, hbj⟩ := List.mem_flatMap.1 hb
      have hjl : j < (ks.bxl (ks.kx al x y j).1 (ks.kx al x y j).2).length := by rw [F.bxl_len]; exact List.mem_range.1 hj
      rw [List.getD_eq_getElem?_getD, List.getElem?_eq_getElem hjl] at hbj
      exact F.bxl_all ks (ks.kx al x y j).1 (ks.kx al x y j).2 j _ ha.1 (List.getElem?_eq_getElem hjl) b hbj
    | succ i => exact F.bxl_all r x y i l ha.2 (by simpa [F.bxl] using h)
theorem F.pns_num (q : Int) : ∀ f : F, f.pns.flatten.count q = f.num q
  | .nil => rfl
  | .leaf _ p _ _ r => by
    simp only [F.pns, F.num, List.flatten_cons, List.count_append, F.pns_num q r, List.count_cons, List.count_nil]
    by_cases h : p = q <;> simp [h]
  | .node _ _ _ _ ks r => by simp only [F.pns, F.num, List.flatten_cons, List.count_append, F.pns_num q r, F.pns_num q ks]
section
variable {w0 wr w' : World} {tb m M : Nat} {T : F}
theorem TS.ids (h : TS w0 tb m M T wr) {l : List Bx} (hl : (T.bxl 0 0)[0]? = some l) : (l.map (·.1)).Nodup ∧ ∀ b ∈ l, (1 ≤ b.1 ∧ b.1 ≤ 1000000) ∧ T.inP b.1 ∧ (0 ≤ b.2.2.2.1 ∧ b.2.2.2.1 ≤ 10000 ∧ 0 ≤ b.2.2.2.2 ∧ b.2.2.2.2 ≤ 10000) := by
  obtain ⟨ps, e⟩ := one_of ((F.pns_len T).trans h.one)
  have h1 := F.bxl_ids T 0 0 0 l ps hl (by rw [e]; rfl)
  have h2 := fun q => F.pns_num q T
  rw [e] at h2
  simp only [List.flatten_cons, List.flatten_nil, List.append_nil] at h2
  refine ⟨?_, fun b hb => ?_⟩
  · rw [h1, List.nodup_iff_count]
    intro q
    rw [h2 q]
    exact h.uni q
  · have h3 := F.bxl_all T 0 0 0 l h.siz hl b hb
    have h4 := F.bxl_all T 0 0 0 l h.pns hl b hb
    have h5 : b.1 ∈ ps := by rw [← h1]; exact List.mem_map.2 ⟨b, hb, rfl⟩
    have h6 := h.lim
    refine ⟨⟨h4.1, by omega⟩, num_in.2 ?_, h3⟩
    rw [← h2 b.1]
    exact List.count_pos_iff.2 h5
theorem id_inj {l : List Bx} (h : (l.map (·.1)).Nodup) {i j : Nat} (hi : i < l.length) (hj : j < l.length) (he : l[i].1 = l[j].1) : i = j := by
  have hp := List.pairwise_iff_getElem.1 h
  rcases Nat.lt_trichotomy i j with hc | hc | hc
  · have q := hp i j (by rw [List.length_map]; exact hi) (by rw [List.length_map]; exact hj) hc
    rw [List.getElem_map, List.getElem_map] at q
    exact absurd he q
  · exact hc
  · have q := hp j i (by rw [List.length_map]; exact hj) (by rw [List.length_map]; exact hi) hc
    rw [List.getElem_map, List.getElem_map] at q
    exact absurd he.symm q
end
theorem next_self {d : Bx} {a : Int} (h : 0 ≤ d.2.2.2.1 ∧ d.2.2.2.1 ≤ 10000 ∧ 0 ≤ d.2.2.2.2 ∧ d.2.2.2.2 ≤ 10000) : nextP d d a = false := by
  unfold nextP
  have h1 : (wrap64 ((rchP d a).2 + 1) == (rchP d a).1) = false := by
    rw [beq_eq_false_iff_ne]
    unfold rchP
    split
    · simp only [wrap64]; omega
    · simp only [wrap64]; omega
  rw [h1]
  rfl
theorem beside_mem {b : Bx} {l : List Bx} {a : Int} {on : Bool} : besideP b l a on = 0 ∧ l.find? (sideP b a on) = none ∨ ∃ j, ∃ h : j < l.length, besideP b l a on = l[j].1 ∧ sideP b a on l[j] = true := by
  unfold besideP
  cases hf : l.find? (sideP b a on) with
  | none => exact .inl ⟨rfl, rfl⟩
  | some x =>
    refine .inr ?_
    obtain ⟨j, hj, rfl⟩ := List.mem_iff_getElem.1 (List.mem_of_find?_eq_some hf)
    exact ⟨j, hj, rfl, List.find?_some hf⟩
/-- Whom one has on a side has one on the other side. -/
theorem beside_back {l : List Bx} {a : Int} {on : Bool} {i j : Nat} (hi : i < l.length) (hj : j < l.length) (h : sideP l[i] a on l[j] = true) (hid : ∀ b ∈ l, 1 ≤ b.1) : besideP l[j] l a (!on) ≠ 0 := by
  have h2 : sideP l[j] a (!on) l[i] = true := by
    cases on <;> exact h
  rcases beside_mem (b := l[j]) (l := l) (a := a) (on := !on) with ⟨-, h3⟩ | ⟨k, hk, h3, -⟩
  · exfalso
    rw [List.find?_eq_none] at h3
    exact h3 _ (List.getElem_mem hi) h2
  · rw [h3]
    have := hid _ (List.getElem_mem hk)
    omega
end Go.Proofs.YtkanglfpiahecaaDoor.Lyt
