/- One Do: its action's numbers, what it answers. -/
import Derived.Test.YtjklnnklgkihlaaGreatDoorPad
import Derived.Test.YtjklnnklgkihlaaGreatDoorPaf
import Derived.Lib.AppendStr
namespace Go.Proofs.YtjklnnklgkihlaaGreatDoor.Scr
open Go.RowKit Cel Sty Grd

/-- What one Do has at hand. -/
def dgL (sb : Nat) (a : Vt.Ac) (pv av : Value) : List Value := [.pointer (some ⟨sb, 0, none⟩), .int .i64 a.k, .int .i32 a.r, .int .u8 a.b, pv, .string (Vt.bs a.it), .string (Vt.bs a.tx), av]
abbrev dgB (w : World) (d sb : Nat) (a : Vt.Ac) (pv av : Value) : Prop := BL w d 103 (dgL sb a pv av)
/-- A number of an action, or what it is by default. -/
def parP (l : List Int) (i : Nat) (d : Int) : Int := if i < l.length ∧ 0 ≤ l.getD i 0 then min (l.getD i 0) 9999 else d
theorem getD_at {α : Type} {l : List α} {i : Nat} (h : i < l.length) (d : α) : l.getD i d = l[i] := by simp [List.getD, h]
section
variable {w : World} {d sb : Nat} {a : Vt.Ac} {pv av : Value} {B2 : Nat}
set_option maxRecDepth 100000 in
set_option maxHeartbeats 1000000 in
theorem param_at (hD : dgB w d sb a pv av) (hp : Vt.Ints w B2 pv a.ps) (hb : ∀ x ∈ a.ps, -9223372036854775808 ≤ x ∧ x ≤ 9223372036854775807) (i : Nat) (hi : i ≤ 1000) (df : Int) :
    Calls Tryz.prog 190 #[ptrV d, .int .i64 (i : Int), .int .i64 df] w fun e w' => e = .returned (.int .i64 (parP a.ps i df)) ∧ w = w' := by
  have e4 : w.cell? ⟨d, 4, none⟩ = some pv := hD.cell 4
  obtain ⟨A, c, rfl⟩ := Vt.own_slice hp
  unfold parP
  unfold ptrV
  by_cases hlt : i < a.ps.length
  · obtain ⟨g, rfl⟩ := Vt.own_addr hp (by omega)
    have hx : w.cell? ⟨g, i, none⟩ = some (.int .i64 (a.ps.getD i 0)) := by
      have h1 := Vt.ints_cell hp i _ (List.getElem?_eq_getElem hlt)
      rw [getD_at hlt _]
      exact h1
    have hbi := hb _ (List.getElem_mem hlt)
    rw [← getD_at hlt 0] at hbi
    generalize a.ps.getD i 0 = x at *
    generalize a.ps.length = n at *
    have i1 : ¬ (n : Int) ≤ (i : Int) := by omega
    have i2 : (i : Int) < (n : Int) := by omega
    have i0 : (0 : Int) ≤ (i : Int) := by omega
    clear hD hp hb
    by_cases h0 : 0 ≤ x
    · rw [if_pos ⟨hlt, h0⟩]
      have i3 : ¬ x < 0 := by omega
      go_enter Tryz.func190, Tryz.ntmps190
      go_wp2_with fail
      all_goals go_ret
      all_goals exact ⟨by simp <;> omega, rfl⟩
    · rw [if_neg (fun h => h0 h.2)]
      have i3 : x < 0 := by omega
      go_enter Tryz.func190, Tryz.ntmps190
      go_wp2_with fail
      go_ret
      exact ⟨rfl, rfl⟩
  · rw [if_neg (fun h => hlt h.1)]
    generalize a.ps.length = n at *
    have i1 : (n : Int) ≤ (i : Int) := by omega
    clear hD hp hb
    go_enter Tryz.func190, Tryz.ntmps190
    go_wp2_with fail
    go_ret
    exact ⟨rfl, rfl⟩
set_option maxRecDepth 100000 in
theorem ordinal_at (hD : dgB w d sb a pv av) (hp : Vt.Ints w B2 pv a.ps) (hb : ∀ x ∈ a.ps, -9223372036854775808 ≤ x ∧ x ≤ 9223372036854775807) (i : Nat) (hi : i ≤ 1000) :
    Calls Tryz.prog 209 #[ptrV d, .int .i64 (i : Int)] w fun e w' => e = .returned (.int .i64 (max (parP a.ps i 1) 1)) ∧ w = w' := by
  have k := Lib.hid (param_at hD hp hb i hi 1)
  clear hD hp hb
  unfold ptrV at *
  go_enter Tryz.func209, Tryz.ntmps209
  go_wp2_with fail
  refine k.out.mono ?_
  rintro _ w1 ⟨rfl, rfl⟩
  go_wp2_with fail
  all_goals go_ret
  all_goals exact ⟨by simp <;> omega, rfl⟩
theorem kept_only {F : List Nat} {a b : World} (h : Only F a b) : Kept a b (· ∈ F) := ⟨h.os, h.tape, h.output, h.size, h.block⟩
theorem ints_only {w w' : World} {l : List Int} {F : List Nat} (h : Vt.Ints w B2 pv l) (ho : Only F w w') (hn : ∀ k, pv.ownBlock = some k → k ∉ F) : Vt.Ints w' B2 pv l := (kept_only ho).owns h hn
theorem ints_below {w w' : World} {l : List Int} (h : Vt.Ints w B2 pv l) (hb : Below w.heap.size w w') : Vt.Ints w' B2 pv l := ints_only h (F := []) (Only.of_below hb) (by simp)
theorem own_only {w w' : World} {e : TypeId} {size n : Nat} {xs : List Value} {F : List Nat} (h : w.ownsRow B2 e size pv n xs) (ho : Only F w w') (hn : ∀ k, pv.ownBlock = some k → k ∉ F) : w'.ownsRow B2 e size pv n xs := (kept_only ho).owns h hn
/-- What is answered is a slice of the call's own. -/
def AnsAt (w : World) (base : Nat) (av : Value) (l : List UInt8) : Prop := w.ownsRow base 5 1 av l.length (l.map fun u => Value.int .u8 (u.toNat : Int))
end
end Go.Proofs.YtjklnnklgkihlaaGreatDoor.Scr
/- Which step a CSI is: H, n, m. -/
namespace Go.Proofs.YtjklnnklgkihlaaGreatDoor.Scr
open Go.RowKit Cel Sty Grd

/-- The steps of H, n, m. -/
def stepF (b : Int) : FuncId := if b = 72 then 169 else if b = 110 then 183 else 186
section
variable {w : World} {d sb : Nat} {a : Vt.Ac} {pv av : Value} {B2 : Nat}
set_option maxRecDepth 100000 in
set_option maxHeartbeats 1000000 in
theorem move_72 (hD : dgB w d sb a pv av) (hb : a.b = 72) :
    Calls Tryz.prog 131 #[ptrV d] w fun e w' => e = .returned (.func (.func 169) #[ptrV d] #[]) ∧ w = w' := by
  have e3 : w.cell? ⟨d, 3, none⟩ = some (.int .u8 a.b) := hD.cell 3
  rw [hb] at e3
  have hmf : ∀ (fn : Fn) (first cap : Array Value) (w : World), (Instr.makeFunc fn first cap).run Tryz.prog w = .ok (.func fn first cap) w := fun _ _ _ _ => rfl
  clear hD
  unfold ptrV
  go_enter Tryz.func131, Tryz.ntmps131
  go_wp2_with fail
  go_ret
  exact ⟨rfl, rfl⟩
set_option maxRecDepth 100000 in
set_option maxHeartbeats 1000000 in
theorem move_none (hD : dgB w d sb a pv av) (hb : a.b = 110 ∨ a.b = 109) :
    Calls Tryz.prog 131 #[ptrV d] w fun e w' => e = .returned .nilFunc ∧ w = w' := by
  have e3 : w.cell? ⟨d, 3, none⟩ = some (.int .u8 a.b) := hD.cell 3
  clear hD
  unfold ptrV
  rcases hb with hb | hb
  all_goals
    rw [hb] at e3
    go_enter Tryz.func131, Tryz.ntmps131
    go_wp2_with fail
    go_ret
    exact ⟨rfl, rfl⟩
set_option maxRecDepth 100000 in
set_option maxHeartbeats 1000000 in
theorem change_none (hD : dgB w d sb a pv av) (hb : a.b = 110 ∨ a.b = 109) :
    Calls Tryz.prog 132 #[ptrV d] w fun e w' => e = .returned .nilFunc ∧ w = w' := by
  have e3 : w.cell? ⟨d, 3, none⟩ = some (.int .u8 a.b) := hD.cell 3
  clear hD
  unfold ptrV
  rcases hb with hb | hb
  all_goals
    rw [hb] at e3
    go_enter Tryz.func132, Tryz.ntmps132
    go_wp2_with fail
    go_ret
    exact ⟨rfl, rfl⟩
set_option maxRecDepth 100000 in
set_option maxHeartbeats 1000000 in
theorem other_some (hD : dgB w d sb a pv av) (hb : a.b = 110 ∨ a.b = 109) :
    Calls Tryz.prog 133 #[ptrV d] w fun e w' => e = .returned (.func (.func (stepF a.b)) #[ptrV d] #[]) ∧ w = w' := by
  have e3 : w.cell? ⟨d, 3, none⟩ = some (.int .u8 a.b) := hD.cell 3
  have hmf : ∀ (fn : Fn) (first cap : Array Value) (w : World), (Instr.makeFunc fn first cap).run Tryz.prog w = .ok (.func fn first cap) w := fun _ _ _ _ => rfl
  clear hD
  unfold ptrV
  rcases hb with hb | hb
  all_goals
    rw [hb] at e3 ⊢
    go_enter Tryz.func133, Tryz.ntmps133
    go_wp2_with fail
    go_ret
    exact ⟨rfl, rfl⟩
set_option maxRecDepth 100000 in
set_option maxHeartbeats 1000000 in
theorem csi_at (hD : dgB w d sb a pv av) (hb : a.b = 72 ∨ a.b = 110 ∨ a.b = 109) (hi : a.it = []) :
    Calls Tryz.prog 90 #[ptrV d] w fun e w' => e = .returned (.func (.func (stepF a.b)) #[ptrV d] #[]) ∧ w = w' := by
  have e5 : w.cell? ⟨d, 5, none⟩ = some (.string (Vt.bs a.it)) := hD.cell 5
  rw [hi, show Vt.bs [] = { data := #[] } from rfl] at e5
  have hn1 : ∀ w : World, Sem.run Tryz.prog (binOp BinOp.neq 1 Value.nilFunc Value.nilFunc) w = .ok (.bool false) w := fun _ => rfl
  have hn2 : ∀ (f : FuncId) (p : Value) (w : World), Sem.run Tryz.prog (binOp BinOp.neq 1 (.func (.func f) #[p] #[]) Value.nilFunc) w = .ok (.bool true) w := fun _ _ _ => rfl
  rcases hb with hb | hb
  · have k1 := Lib.hid (move_72 hD hb)
    rw [hb]
    clear hD hb
    unfold ptrV at *
    go_enter Tryz.func90, Tryz.ntmps90
    go_wp2_with fail
    refine k1.out.mono ?_
    rintro _ w1 ⟨rfl, rfl⟩
    go_wp2_with fail
    go_ret
    exact ⟨rfl, rfl⟩
  · have k1 := Lib.hid (move_none hD hb)
    have k2 := Lib.hid (change_none hD hb)
    have k3 := Lib.hid (other_some hD hb)
    clear hD hb
    unfold ptrV at *
    go_enter Tryz.func90, Tryz.ntmps90
    go_wp2_with fail
    refine k1.out.mono ?_
    rintro _ w1 ⟨rfl, rfl⟩
    go_wp2_with fail
    refine k2.out.mono ?_
    rintro _ w1 ⟨rfl, rfl⟩
    go_wp2_with fail
    refine k3.out.mono ?_
    rintro _ w1 ⟨rfl, rfl⟩
    go_wp2_with fail
    go_ret
    exact ⟨rfl, rfl⟩
end
end Go.Proofs.YtjklnnklgkihlaaGreatDoor.Scr
/- A text is answered. -/
namespace Go.Proofs.YtjklnnklgkihlaaGreatDoor.Scr
open Go.RowKit Cel Sty Grd

theorem info_u8 : (Tryz.prog.info? 5).map (fun i => (i.zero, i.size, i.bytes)) = some (some (.int .u8 0), 1, 1) := by kernel_rfl
def bytV (l : List UInt8) : List Value := l.map fun u => Value.int .u8 (u.toNat : Int)
theorem strCells_bs (l : List UInt8) : Lib.strCells (Vt.bs l) = bytV l := by
  unfold Lib.strCells bytV Vt.bs
  simp
section
variable {ops : Array Oper} {rest : List Oper} {op : Oper} {a : Act} {w : World} {Q : Exit → Act → World → Prop}
set_option maxRecDepth 100000 in
/-- A text appended to bytes of the call's own. -/
theorem wpList_append_txt (hgd : op.guard = none) (s x : Operand) (ho : op.op = .call { callee := .builtin .append, args := #[s, x], argTypes := #[28, 9] }) (base : Nat) (v : Value) (L : List UInt8) (hs : a.eval s = v) (hown : w.ownsRow base 5 1 v L.length (bytV L)) (t : List UInt8) (hx : a.eval x = .string (Vt.bs t))
    (hl : L.length + t.length ≤ 1000000) (hbase : base ≤ w.heap.size)
    (h : ∀ v' w', w'.ownsRow base 5 1 v' (L ++ t).length (bytV (L ++ t)) → w.grownBy w' v.ownBlock → wpList Tryz.prog ops Q rest (a.put op.dst v') w') : wpList Tryz.prog ops Q (op :: rest) a w := by
  have hi := info_u8
  cases hq : Tryz.prog.info? 5 with
  | none => simp [hq] at hi
  | some i =>
    simp only [hq, Option.map_some, Option.some.injEq, Prod.mk.injEq] at hi
    obtain ⟨hz, hs1, hby⟩ := hi
    have hts : (Vt.bs t).size = t.length := Vt.bs_size t
    refine Lib.wpList_append_own_string w hgd s x 28 9 ho base 5 i Tryz.underlying28 Tryz.underlying9 hq hz hs1 hby v L.length (bytV L) hs hown (Vt.bs t) hx (by rw [hts]; unfold maxLen; omega) (by rw [hts]; omega) hbase fun v1 w1 hown1 hgr1 _ => h v1 w1 ?_ hgr1
    rw [hts, strCells_bs] at hown1
    rw [List.length_append]
    unfold bytV at hown1 ⊢
    rw [List.map_append]
    exact hown1
end
section
variable {w : World} {sb d : Nat} {a : Vt.Ac} {pv av : Value} {base : Nat} {L : List UInt8}
set_option maxRecDepth 100000 in
set_option maxHeartbeats 1000000 in
theorem tell_at (hD : dgB w d sb a pv av) (hA : AnsAt w base av L) (hbase : base ≤ w.heap.size) (t : List UInt8) (hl : L.length + t.length ≤ 1000000) :
    Calls Tryz.prog 94 #[ptrV d, .string (Vt.bs t)] w fun e w' => e = .returned (.tuple #[]) ∧ ∃ av2, dgB w' d sb a pv av2 ∧ AnsAt w' base av2 (L ++ t) ∧ (∀ F, (∀ k, av.ownBlock = some k → k ∈ F) → Only (d :: F) w w') := by
  have e7 : w.cell? ⟨d, 7, none⟩ = some av := hD.cell 7
  obtain ⟨A, cA, rfl⟩ := Vt.own_slice hA
  have hfar : some d ≠ (Value.slice A L.length cA).ownBlock := fun e => Vt.own_far hA (show Blk w d 103 _ from hD) (by decide) e.symm
  have hlt := hD.lt
  obtain ⟨n2, hn2⟩ : ∃ n2, (L ++ t).length = n2 := ⟨_, rfl⟩
  have HN := Lib.hid hn2
  clear hn2
  have HD := Lib.hid hD
  have HA := Lib.hid hA
  clear hD hA
  unfold ptrV
  go_enter Tryz.func94, Tryz.ntmps94
  go_wp2_with (at_builtin; refine wpList_append_txt rfl (.tmp 8) (.tmp 9) rfl base (.slice A L.length cA) L rfl HA.out t rfl hl hbase ?_; intro v1 w1 hown1 hgr1; rw [HN.out] at hown1; obtain ⟨A1, c1, rfl⟩ := Vt.own_slice hown1; have hD1 : dgB w1 d sb a pv (.slice A L.length cA) := (hgr1.block d hlt hfar).trans HD.out; have q7 : w1.cell? ⟨d, 7, none⟩ = some (.slice A L.length cA) := hD1.cell 7; have q7f := hD1.frozen 7)
  have hO : ∀ F, (∀ k, (Value.slice A L.length cA).ownBlock = some k → k ∈ F) → Only (d :: F) w (w1.setCell ⟨d, 7, none⟩ (.slice A1 n2 c1)) := fun F hF =>
    (show Only (d :: F) w w1 from ⟨hgr1.os, hgr1.tape, hgr1.output, hgr1.size, fun i hi hn => hgr1.block i hi fun e => hn (.tail _ (hF i e.symm))⟩).setCell (.inl (.head _)) _
  have hD2 := hD1.set_ 7 (.slice A1 n2 c1)
  have hA2 := own_only hown1 (one_set w1 d 7 (.slice A1 n2 c1)) fun k hk e => Vt.own_far hown1 (show Blk w1 d 103 _ from hD1) (by decide) (by rw [List.mem_singleton] at e; rw [← e]; exact hk)
  exact body_end rfl rfl ⟨rfl, _, hD2, by unfold AnsAt; rw [HN.out]; exact hA2, hO⟩
end
end Go.Proofs.YtjklnnklgkihlaaGreatDoor.Scr
/- A place is gone to. -/
namespace Go.Proofs.YtjklnnklgkihlaaGreatDoor.Scr
open Go.RowKit Cel Sty Grd

def ScP.goTo (S : ScP) (x y : Int) : ScP := { S with now := { S.now with x := x, y := y, wait := false } }
/-- The place on the grid that is nearest. -/
def nearP (n x : Int) : Int := max (min x (n - 1)) 0
section
variable {w : World} {sb g : Nat} {pp tv : Value} {S : ScP} {c r : Nat}
/-- The grid's size, in each world that has but the screen's own block changed. -/
def Sized (w : World) (sb g c r : Nat) : Prop := ∀ V, Only [sb] w V → Calls Tryz.prog 14 #[.pointer (some ⟨g, 0, none⟩)] V (fun e w' => e = .returned (.int .i64 (c : Int)) ∧ V = w') ∧ Calls Tryz.prog 15 #[.pointer (some ⟨g, 0, none⟩)] V (fun e w' => e = .returned (.int .i64 (r : Int)) ∧ V = w')
set_option maxRecDepth 100000 in
set_option maxHeartbeats 4000000 in
theorem place_at (h : scB w sb pp g none tv S) (hz : Sized w sb g c r) (hc1 : 1 ≤ c) (hc2 : c ≤ 250) (hr1 : 1 ≤ r) (hr2 : r ≤ 120) (x y : Int) :
    Calls Tryz.prog 160 #[.pointer (some ⟨sb, 3, none⟩), .agg #[.int .i64 x, .int .i64 y], .pointer (some ⟨g, 0, none⟩)] w fun e w' => e = .returned (.tuple #[]) ∧ scB w' sb pp g none tv (S.goTo (nearP c x) (nearP r y)) ∧ Only [sb] w w' := by
  have hlt := h.lt
  have j1 : IntKind.i64.wrap ((c : Int) - 1) = (c : Int) - 1 := IntWalk.i64_in _ ⟨by omega, by omega⟩
  have j2 : IntKind.i64.wrap ((r : Int) - 1) = (r : Int) - 1 := IntWalk.i64_in _ ⟨by omega, by omega⟩
  have hb0 : Below w.heap.size w (w.alloc (.cells #[.int .i64 x, .int .i64 y] 53)) := (Below.refl _ _).alloc (Nat.le_refl _) _
  have hP := BL.new w 53 [.int .i64 x, .int .i64 y]
  have o0 : Only [] w (w.alloc (.cells #[.int .i64 x, .int .i64 y] 53)) := Only.of_below hb0
  have hW := h.only o0 (by simp)
  have oW : Only [sb] w (w.alloc (.cells #[.int .i64 x, .int .i64 y] 53)) := Only.of_below hb0
  have hbs : w.heap.size ≠ sb := by omega
  have HZ := Lib.hid hz
  clear h hz hb0 o0
  go_enter Tryz.func160, Tryz.ntmps160
  go_upto_region 1 with fail
  generalize w.alloc (.cells #[.int .i64 x, .int .i64 y] 53) = W at *
  obtain ⟨bx, hbx⟩ : ∃ bx, w.heap.size = bx := ⟨_, rfl⟩
  rw [hbx] at hP hbs ⊢
  have od : Only [] W W.drew := (Only.refl _ _).drew
  have hPd := hP.only od (by simp)
  have hWd := hW.only od (by simp)
  have q0 : W.drew.cell? ⟨bx, 0, none⟩ = some (.int .i64 x) := hPd.cell 0
  have q3 : W.drew.cell? ⟨sb, 3, none⟩ = some (.int .i64 S.now.x) := hWd.cell 3
  have q3f : W.drew.frozen? ⟨sb, 3, none⟩ = false := hWd.frozen 3
  have kc := (HZ.out W.drew (oW.trans (od.mono (by simp)))).1
  go_region_law
    (first
      | (go_simp; go_at_call 14; refine kc.mono ?_; rintro _ w4 ⟨rfl, rfl⟩))
  all_goals
    have hX := scB.x (o := none) hW (nearP c x)
    have oX := oW.trans (one_set W sb 3 (.int .i64 (nearP c x)))
    have hPx := hP.only (one_set W sb 3 (.int .i64 (nearP c x))) (by simpa using hbs)
    rw [show max (min x ((c : Int) - 1)) 0 = nearP c x from rfl]
    clear q0 q3 q3f kc hWd hPd od
    generalize W.setCell ⟨sb, 3, none⟩ (.int .i64 (nearP c x)) = W1 at *
    have hP2 := hPx.only (Only.refl [] W1).drew (by simp)
    have hX2 : scB W1.drew sb pp g none tv (S.setX (nearP c x)) := hX.only (Only.refl [] W1).drew (by simp)
    have oX2 := oX.drew
    clear hX oX hPx
    generalize W1.drew = W2 at *
    have hPd := hP2.only (Only.refl [] W2).drew (by simp)
    have hWd : scB W2.drew sb pp g none tv (S.setX (nearP c x)) := hX2.only (Only.refl [] W2).drew (by simp)
    have q1 : W2.drew.cell? ⟨bx, 1, none⟩ = some (.int .i64 y) := hPd.cell 1
    have q4 : W2.drew.cell? ⟨sb, 4, none⟩ = some (.int .i64 S.now.y) := hWd.cell 4
    have q4f : W2.drew.frozen? ⟨sb, 4, none⟩ = false := hWd.frozen 4
    have kr := (HZ.out W2.drew oX2.drew).2
    go_wp2_with fail
    go_region_law
      (first
        | (go_simp; go_at_call 15; refine kr.mono ?_; rintro _ w4 ⟨rfl, rfl⟩))
  all_goals
    have hY := scB.y (o := none) hX2 (nearP r y)
    have oY := oX2.trans (one_set W2 sb 4 (.int .i64 (nearP r y)))
    rw [show max (min y ((r : Int) - 1)) 0 = nearP r y from rfl]
    clear q1 q4 q4f kr hWd hPd hP2
    generalize W2.setCell ⟨sb, 4, none⟩ (.int .i64 (nearP r y)) = W3 at *
    have hY2 : scB W3.drew sb pp g none tv ((S.setX (nearP c x)).setY (nearP r y)) := hY.only (Only.refl [] W3).drew (by simp)
    have oY2 := oY.drew
    have q5 : W3.drew.cell? ⟨sb, 5, none⟩ = some (.bool S.now.wait) := hY2.cell 5
    have q5f := hY2.frozen 5
    have HF := Lib.hid (scB.wait (o := none) hY2 false)
    have HO := Lib.hid (oY2.trans (one_set _ sb 5 (.bool false)))
    clear hY oY hY2 oY2 hX2 oX2 hP hW
    go_wp2_with fail
    exact body_end rfl rfl ⟨rfl, HF.out, HO.out⟩
set_option maxRecDepth 100000 in
set_option maxHeartbeats 1000000 in
theorem goTo_at (h : scB w sb pp g none tv S) (hz : Sized w sb g c r) (hc1 : 1 ≤ c) (hc2 : c ≤ 250) (hr1 : 1 ≤ r) (hr2 : r ≤ 120) (x y : Int) :
    Calls Tryz.prog 129 #[ptrV sb, .int .i64 x, .int .i64 y] w fun e w' => e = .returned (.tuple #[]) ∧ scB w' sb pp g none tv (S.goTo (nearP c x) (nearP r y)) ∧ Only [sb] w w' := by
  have od : Only [] w w.drew := (Only.refl _ _).drew
  have hd := h.only od (by simp)
  have od1 : Only [sb] w w.drew := od.mono (by simp)
  have q1 : w.drew.cell? ⟨sb, 1, none⟩ = some (.pointer (some ⟨g, 0, none⟩)) := hd.cell 1
  have kp := place_at hd (fun V hV => hz V (od1.trans hV)) hc1 hc2 hr1 hr2 x y
  have HK := Lib.hid kp
  clear kp hd h hz
  unfold ptrV
  go_enter Tryz.func129, Tryz.ntmps129
  go_wp2_with fail
  go_region_law
    (first
      | (go_simp; go_at_call 160; refine HK.out.mono ?_; rintro _ w4 ⟨rfl, hb4, ho4⟩))
  all_goals go_wp2_with fail
  all_goals exact body_end rfl rfl ⟨rfl, hb4, od1.trans ho4⟩
set_option maxRecDepth 100000 in
set_option maxHeartbeats 1000000 in
theorem goToLine_at (h : scB w sb pp g none tv S) (hz : Sized w sb g c r) (hc1 : 1 ≤ c) (hc2 : c ≤ 250) (hr1 : 1 ≤ r) (hr2 : r ≤ 120) (ho : S.now.origin = false) (x y : Int) :
    Calls Tryz.prog 208 #[ptrV sb, .int .i64 x, .int .i64 y] w fun e w' => e = .returned (.tuple #[]) ∧ scB w' sb pp g none tv (S.goTo (nearP c x) (nearP r y)) ∧ Only [sb] w w' := by
  have q9 : w.cell? ⟨sb, 9, none⟩ = some (.bool S.now.origin) := h.cell 9
  rw [ho] at q9
  have HK := Lib.hid (goTo_at h hz hc1 hc2 hr1 hr2 x y)
  clear h hz ho
  unfold ptrV at *
  go_enter Tryz.func208, Tryz.ntmps208
  go_wp2_with fail
  refine HK.out.mono ?_
  rintro _ w4 ⟨rfl, hb4, ho4⟩
  go_wp2_with fail
  exact body_end rfl rfl ⟨rfl, hb4, ho4⟩
end
end Go.Proofs.YtjklnnklgkihlaaGreatDoor.Scr
