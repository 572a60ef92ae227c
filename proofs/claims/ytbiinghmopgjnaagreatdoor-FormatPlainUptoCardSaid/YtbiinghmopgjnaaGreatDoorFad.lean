/- format: a text that grows; rows of texts. -/
import Derived.Test.YtbiinghmopgjnaaGreatDoorFou
import Derived.Lib.AppendStr
import Derived.Lib.AppendIntMem
namespace Go.Proofs.YtbiinghmopgjnaaGreatDoor.Fmt
open Go.RowKit

theorem info_parts {t : TypeId} {z : Value} {s b : Nat} (h : (Tryz.prog.info? t).map (fun i => (i.zero, i.size, i.bytes)) = some (some z, s, b)) : ∃ i, Tryz.prog.info? t = some i ∧ i.zero = some z ∧ i.size = s ∧ i.bytes = b := by
  cases hq : Tryz.prog.info? t with
  | none => simp [hq] at h
  | some i =>
    simp only [hq, Option.map_some, Option.some.injEq, Prod.mk.injEq] at h
    exact ⟨i, rfl, h.1, h.2.1, h.2.2⟩
theorem info_u8 : (Tryz.prog.info? 5).map (fun i => (i.zero, i.size, i.bytes)) = some (some (.int .u8 0), 1, 1) := by kernel_rfl
theorem info_str : (Tryz.prog.info? 9).map (fun i => (i.zero, i.size, i.bytes)) = some (some (.string ⟨#[]⟩), 1, 16) := by kernel_rfl
def bytV (l : Tx) : List Value := l.map fun u => Value.int .u8 (u.toNat : Int)
def strL (l : List Tx) : List Value := l.map fun x => .string (bs x)
theorem strL_app (l : List Tx) (x : Tx) : strL (l ++ [x]) = strL l ++ [.string (bs x)] := by simp [strL]
theorem strCells_bs (l : Tx) : Lib.strCells (bs l) = bytV l := by
  unfold Lib.strCells bytV bs
  simp
section
variable {ops : Array Oper} {rest : List Oper} {op : Oper} {a : Act} {w : World} {Q : Exit → Act → World → Prop}
set_option maxRecDepth 100000 in
/-- A text appended to bytes of the call's own. -/
theorem wpList_append_txt (hgd : op.guard = none) (s x : Operand) (ho : op.op = .call { callee := .builtin .append, args := #[s, x], argTypes := #[27, 9] }) (base : Nat) (v : Value) (L : Tx) (hs : a.eval s = v) (hown : w.ownsRow base 5 1 v L.length (bytV L)) (t : Tx) (hx : a.eval x = .string (bs t))
    (hl : L.length + t.length ≤ 1000000) (hbase : base ≤ w.heap.size)
    (h : ∀ v' w', w'.ownsRow base 5 1 v' (L ++ t).length (bytV (L ++ t)) → w.grownBy w' v.ownBlock → wpList Tryz.prog ops Q rest (a.put op.dst v') w') : wpList Tryz.prog ops Q (op :: rest) a w := by
  obtain ⟨i, hq, hz, hs1, hby⟩ := info_parts info_u8
  have hts : (bs t).size = t.length := bs_size t
  refine Lib.wpList_append_own_string w hgd s x 27 9 ho base 5 i Tryz.underlying27 Tryz.underlying9 hq hz hs1 hby v L.length (bytV L) hs hown (bs t) hx (by rw [hts]; unfold maxLen; omega) (by rw [hts]; omega) hbase fun v1 w1 hown1 hgr1 _ => h v1 w1 ?_ hgr1
  rw [hts, strCells_bs] at hown1
  rw [List.length_append]
  unfold bytV at hown1 ⊢
  rw [List.map_append]
  exact hown1
/-- One text appended to a row of the call's own. -/
theorem wpList_app_str (hgd : op.guard = none) (s x : Operand) (ho : op.op = .call { callee := .builtin .append, args := #[s, x], argTypes := #[64, 64] })
    (B : Nat) (v : Value) (l : List Tx) (y : Tx) (hs : a.eval s = v) (hown : w.ownsRow B 9 1 v l.length (strL l)) (g c : Nat) (hx : a.eval x = .slice (some ⟨g, 0, none⟩) 1 c) (hg : BL w g 9 [.string (bs y)]) (hB : B ≤ w.heap.size) (hn : l.length ≤ 100000)
    (h : ∀ v' w', w'.ownsRow B 9 1 v' (l ++ [y]).length (strL (l ++ [y])) → w.grownBy w' v.ownBlock → wpList Tryz.prog ops Q rest (a.put op.dst v') w') :
    wpList Tryz.prog ops Q (op :: rest) a w := by
  obtain ⟨i0, hi0, hz0, hz1, hz2⟩ := info_parts info_str
  refine wpList_append_own_at w hgd s x 64 ho B 9 i0 _ 1 16 Tryz.underlying64 hi0 hz0 hz1 hz2 rfl (by decide) v l.length (strL l) hs hown ⟨g, 0, none⟩ 1 c [.string (bs y)] hx rfl
    (fun j u hj => by rw [Addr.add_mid, Nat.zero_add, hg.cell j]; exact hj) (by simp [Value.oneCell']) (by unfold maxLen; omega) (by omega) hB ?_
  intro v' w' h2 h3 _ _
  refine h v' w' ?_ h3
  rw [strL_app, List.length_append]
  exact h2
end
set_option maxRecDepth 100000 in
set_option maxHeartbeats 1000000 in
theorem add_any {w : World} {ob base : Nat} {v : Value} {acc t : Tx} (hO : BL w ob 51 [v]) (hA : w.ownsRow base 5 1 v acc.length (bytV acc)) (hbase : base ≤ w.heap.size) (hl : acc.length + t.length ≤ 8192) :
    Calls Tryz.prog 16 #[.pointer (some ⟨ob, 0, none⟩), .string (bs t)] w fun e w' => e = .returned (.tuple #[]) ∧ ∃ v2, BL w' ob 51 [v2] ∧ w'.ownsRow base 5 1 v2 (acc ++ t).length (bytV (acc ++ t)) ∧ (∀ F, (∀ k, v.ownBlock = some k → k ∈ F) → Only (ob :: F) w w') := by
  have e7 : w.cell? ⟨ob, 0, none⟩ = some v := hO.cell 0
  obtain ⟨A, cA, rfl⟩ := own_slice hA
  have hfar : some ob ≠ (Value.slice A acc.length cA).ownBlock := fun e => own_far hA hO (by decide) e.symm
  have hlt := hO.lt
  obtain ⟨n2, hn2⟩ : ∃ n2, (acc ++ t).length = n2 := ⟨_, rfl⟩
  obtain ⟨na, hna⟩ : ∃ na, acc.length = na := ⟨_, rfl⟩
  have hsz : ((bs t).size : Int) = (t.length : Int) := by rw [bs_size]
  have hle : ¬ (8192 : Int) < (na : Int) + (t.length : Int) := by omega
  have hw : IntKind.i64.wrap ((na : Int) + (t.length : Int)) = (na : Int) + (t.length : Int) := IntWalk.i64_in _ ⟨by omega, by omega⟩
  have HN := Lib.hid hn2
  have HD := Lib.hid hO
  have HA := Lib.hid hA
  have HNA := Lib.hid hna
  have hl2 : acc.length + t.length ≤ 1000000 := by omega
  have HL2 := Lib.hid hl2
  rw [hna] at e7 hfar
  clear hn2 hO hA hna hl2 hl
  go_enter Tryz.func16, Tryz.ntmps16
  go_wp2_with (at_builtin; refine wpList_append_txt rfl (.tmp 18) (.tmp 19) rfl base (.slice A na cA) acc rfl (by rw [← HNA.out]; exact HA.out) t rfl HL2.out hbase ?_; intro v1 w1 hown1 hgr1; rw [HN.out] at hown1; obtain ⟨A1, c1, rfl⟩ := own_slice hown1; have hD1 : BL w1 ob 51 [.slice A na cA] := (hgr1.block ob hlt hfar).trans (by rw [← HNA.out]; exact HD.out); have q7 : w1.cell? ⟨ob, 0, none⟩ = some (.slice A na cA) := hD1.cell 0; have q7f := hD1.frozen 0)
  have hO : ∀ F, (∀ k, (Value.slice A acc.length cA).ownBlock = some k → k ∈ F) → Only (ob :: F) w (w1.setCell ⟨ob, 0, none⟩ (.slice A1 n2 c1)) := fun F hF =>
    (show Only (ob :: F) w w1 from ⟨hgr1.os, hgr1.tape, hgr1.output, hgr1.size, fun i hi hn => hgr1.block i hi fun e => hn (.tail _ (hF i (by rw [HNA.out]; exact e.symm)))⟩).setCell (.inl (.head _)) _
  have hD2 := hD1.set_ 0 (.slice A1 n2 c1)
  have hA2 := own_only hown1 (one_set w1 ob 0 (.slice A1 n2 c1)) fun k hk e => own_far hown1 hD1 (by decide) (by rw [List.mem_singleton] at e; rw [← e]; exact hk)
  exact body_end rfl rfl ⟨rfl, _, hD2, by rw [← List.length_append, HN.out]; exact hA2, hO⟩
end Go.Proofs.YtbiinghmopgjnaaGreatDoor.Fmt
