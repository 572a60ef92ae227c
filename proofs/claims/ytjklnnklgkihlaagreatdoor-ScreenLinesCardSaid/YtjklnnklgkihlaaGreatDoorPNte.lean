/- A text is answered. -/
import Derived.Test.YtjklnnklgkihlaaGreatDoorPNcd
namespace Go.Proofs.YtjklnnklgkihlaaGreatDoor.Scr
open Go.RowKit Cel Sty Grd

theorem info_u8 : (Tryz.prog.info? 5).map (fun i => (i.zero, i.size, i.bytes)) = some (some (.int .u8 0), 1, 1) := by kernel_rfl
def bytV (l : List UInt8) : List Value := l.map fun u => Value.int .u8 (u.toNat : Int)
theorem strCells_bs (l : List UInt8) : Lib.strCells (Vt.bs l) = bytV l := by
  unfold Lib.strCells bytV Vt.bs
  simp
section
variable {ops : Array Oper} {rest : List Oper} {op : Oper} {a : Act} {w : World} {Q : Exit → Act → World → Prop}
set_option maxRecDepth 100000 in
/-- A text appended to bytes of the call's own. -/
theorem wpList_append_txt (hgd : op.guard = none) (s x : Operand) (ho : op.op = .call { callee := .builtin .append, args := #[s, x], argTypes := #[28, 9] }) (base : Nat) (v : Value) (L : List UInt8) (hs : a.eval s = v) (hown : w.ownsRow base 5 1 v L.length (bytV L)) (t : List UInt8) (hx : a.eval x = .string (Vt.bs t))
    (hl : L.length + t.length ≤ 1000000) (hbase : base ≤ w.heap.size)
    (h : ∀ v' w', w'.ownsRow base 5 1 v' (L ++ t).length (bytV (L ++ t)) → w.grownBy w' v.ownBlock → wpList Tryz.prog ops Q rest (a.put op.dst v') w') : wpList Tryz.prog ops Q (op :: rest) a w := by
  have hi := info_u8
  cases hq : Tryz.prog.info? 5 with
  | none => simp [hq] at hi
  | some i =>
    simp only [hq, Option.map_some, Option.some.injEq, Prod.mk.injEq] at hi
    obtain ⟨hz, hs1, hby⟩ := hi
    have hts : (Vt.bs t).size = t.length := Vt.bs_size t
    refine Lib.wpList_append_own_string w hgd s x 28 9 ho base 5 i Tryz.underlying28 Tryz.underlying9 hq hz hs1 hby v L.length (bytV L) hs hown (Vt.bs t) hx (by rw [hts]; unfold maxLen; omega) (by rw [hts]; omega) hbase fun v1 w1 hown1 hgr1 _ => h v1 w1 ?_ hgr1
    rw [hts, strCells_bs] at hown1
    rw [List.length_append]
    unfold bytV at hown1 ⊢
    rw [List.map_append]
    exact hown1
end
section
variable {w : World} {sb d : Nat} {a : Vt.Ac} {pv av : Value} {base : Nat} {L : List UInt8}
set_option maxRecDepth 100000 in
set_option maxHeartbeats 1000000 in
theorem tell_at (hD : dgB w d sb a pv av) (hA : AnsAt w base av L) (hbase : base ≤ w.heap.size) (t : List UInt8) (hl : L.length + t.length ≤ 1000000) :
    Calls Tryz.prog 94 #[ptrV d, .string (Vt.bs t)] w fun e w' => e = .returned (.tuple #[]) ∧ ∃ av2, dgB w' d sb a pv av2 ∧ AnsAt w' base av2 (L ++ t) ∧ (∀ F, (∀ k, av.ownBlock = some k → k ∈ F) → Only (d :: F) w w') := by
  have e7 : w.cell? ⟨d, 7, none⟩ = some av := hD.cell 7
  obtain ⟨A, cA, rfl⟩ := Vt.own_slice hA
  have hfar : some d ≠ (Value.slice A L.length cA).ownBlock := fun e => Vt.own_far hA (show Blk w d 103 _ from hD) (by decide) e.symm
  have hlt := hD.lt
  obtain ⟨n2, hn2⟩ : ∃ n2, (L ++ t).length = n2 := ⟨_, rfl⟩
  have HN := Lib.hid hn2
  clear hn2
  have HD := Lib.hid hD
  have HA := Lib.hid hA
  clear hD hA
  unfold ptrV
  go_enter Tryz.func94, Tryz.ntmps94
  go_wp2_with (at_builtin; refine wpList_append_txt rfl (.tmp 8) (.tmp 9) rfl base (.slice A L.length cA) L rfl HA.out t rfl hl hbase ?_; intro v1 w1 hown1 hgr1; rw [HN.out] at hown1; obtain ⟨A1, c1, rfl⟩ := Vt.own_slice hown1; have hD1 : dgB w1 d sb a pv (.slice A L.length cA) := (hgr1.block d hlt hfar).trans HD.out; have q7 : w1.cell? ⟨d, 7, none⟩ = some (.slice A L.length cA) := hD1.cell 7; have q7f := hD1.frozen 7)
  have hO : ∀ F, (∀ k, (Value.slice A L.length cA).ownBlock = some k → k ∈ F) → Only (d :: F) w (w1.setCell ⟨d, 7, none⟩ (.slice A1 n2 c1)) := fun F hF =>
    (show Only (d :: F) w w1 from ⟨hgr1.os, hgr1.tape, hgr1.output, hgr1.size, fun i hi hn => hgr1.block i hi fun e => hn (.tail _ (hF i e.symm))⟩).setCell (.inl (.head _)) _
  have hD2 := hD1.set_ 7 (.slice A1 n2 c1)
  have hA2 := own_only hown1 (one_set w1 d 7 (.slice A1 n2 c1)) fun k hk e => Vt.own_far hown1 (show Blk w1 d 103 _ from hD1) (by decide) (by rw [List.mem_singleton] at e; rw [← e]; exact hk)
  exact body_end rfl rfl ⟨rfl, _, hD2, by unfold AnsAt; rw [HN.out]; exact hA2, hO⟩
end
end Go.Proofs.YtjklnnklgkihlaaGreatDoor.Scr
