/- What a walk over the table tells, option by option. -/
import Derived.Test.YtgnlfikkmomghaaGreatDoorOsp
namespace Go.Proofs.YtgnlfikkmomghaaGreatDoor.Opt
open Go.RowKit Go.Shelf
attribute [local go_sem] Oper.semAt_some

section
variable {F : Fence} {n : Nat} {P : Program} {ops : Array Oper} {rest : List Oper} {op : Oper} {a : Act} {w : World} {Q : Exit → Act → World → Prop}
theorem wpListIn_load_mid (hgd : op.guard = none) (ty : TypeId) (x : Operand) (ho : op.op = .load ty x)
    (b o : Nat) (hx : a.eval x = .pointer (some ⟨b, o, none⟩)) (cs : List Value) (d : TypeDesc) (hc : w.rangeAt b o cs)
    (hu : P.underlying ty = some d) (hd : d.isRow = true) (hi : (P.info? ty).map (·.size) = some cs.length)
    (h : wpListIn F n P ops Q rest (a.put op.dst (.agg cs.toArray)) w) : wpListIn F n P ops Q (op :: rest) a w := by
  refine wpListIn_plain hgd fun K' hK' => ?_
  unfold Oper.wpIn
  refine ⟨by simp [Oper.about, ho], ?_⟩
  rw [Oper.semAt_plain F _ _ (by rw [ho]; intro c hc'; cases hc')]
  simp only [execOp, ho, hx, Instr.loadAt, Instr.sureAddr, Sem.run_bind, Sem.run_pure, Result.andThen_ok, run_loadVar_mid w b o ty cs d hc hu hd hi]
  exact hK' _ _ h
end

theorem room_of_none {F : Fence} (hd : F.depth = none) (k : Nat) : F.room k := fun d h => by rw [hd] at h; cases h
theorem RoundIn.anyDepth {F : Fence} (hd : F.depth = none) {m m' : Nat} {P : Program} {l : Nat} {f : FuncId} {tmps : Array Value} {assign body : Code} {w : World} {R : Ending → World → Prop}
    (h : RoundIn F m P l f tmps assign body w R) : RoundIn F m' P l f tmps assign body w R := ⟨h.1, fun c cs _ => h.2 c cs (room_of_none hd _)⟩
theorem YieldAt.anyDepth {F : Fence} (hd : F.depth = none) {m : Nat} (m' : Nat) {P : Program} {l : Nat} {args : Array Value} {W : World} {R : Ending → World → Prop} (h : YieldAt F m P l args W R) : YieldAt F m' P l args W R := by
  obtain ⟨fn, tmps, assign, body, hy, hR⟩ := h
  exact ⟨fn, tmps, assign, body, hy, RoundIn.anyDepth hd hR⟩

/-- What a round keeps: every block whose second cell is nought. -/
structure KT (A B : World) : Prop where
  size : A.heap.size ≤ B.heap.size
  same : ∀ b t xs, BL A b t xs → xs[1]? = some (.int .i64 0) → BL B b t xs
theorem KT.refl (A : World) : KT A A := ⟨Nat.le_refl _, fun _ _ _ h _ => h⟩
theorem KT.trans {A B C : World} (h : KT A B) (k : KT B C) : KT A C := ⟨Nat.le_trans h.size k.size, fun b t xs hb h0 => k.same b t xs (h.same b t xs hb h0) h0⟩
theorem KT.only {A B : World} (h : Only [] A B) : KT A B := ⟨h.size, fun _ _ _ hb _ => hb.only h (by simp)⟩
theorem KT.putObj (W : World) (l : Nat) (o o' : Obj) (h : W.heap[l]? = some o) (hc : o.isCells = false) : KT W (W.putObj l o') :=
  ⟨by simp, fun b t xs hb _ => (World.putObj_heap_other (by
    intro e; subst e; unfold BL at hb; rw [h] at hb; cases hb; cases hc)).trans hb⟩

theorem Only.grownBy {A B : World} (h : Only [] A B) : A.grownBy B none := ⟨h.os, h.tape, h.output, h.size, fun k hk _ => h.block k hk (by simp)⟩

set_option maxRecDepth 100000 in
set_option maxHeartbeats 2000000 in
theorem each_in (n l N B0 : Nat) (J Jx : List Op8 → World → Prop) (hJ : AbidesFrom B0 J)
    (hY : ∀ m pre x W, x.scope ≠ 0 → J pre W → pre.length < N → YieldAt Fence.wide m Tryz.prog l #[optV x] W fun e W' =>
      (e = .returned (.bool true) ∧ J (pre ++ [x]) W' ∧ KT W W') ∨ (e = .returned (.bool false) ∧ Jx (pre ++ [x]) W'))
    (sc : Int) (hs0 : sc ≠ 0) (os : List Op8) (hsc : ∀ o ∈ os, o.scope = sc) (b : Nat) (t : TypeId) (pre : List Op8) (W : World) (hrow : BL W b t (rowsC os)) (h0 : J pre W) (hN : pre.length + os.length ≤ N) (hos : 0 < os.length) (hbig : os.length ≤ 1000) :
    CallsIn Fence.wide n Tryz.prog 175 #[.int .i64 sc, .slice (some ⟨b, 0, none⟩) os.length os.length, .func (.yield l) #[] #[]] W fun e W' =>
      (e = .returned (.bool true) ∧ J (pre ++ os) W') ∨ (e = .returned (.bool false) ∧ ∃ q, q <+: os ∧ Jx (pre ++ q) W') := by
  have HJ := Lib.hid hJ
  have HY := Lib.hid hY
  have HSC := Lib.hid hsc
  have HR := Lib.hid hrow
  have HH := Lib.hid h0
  have HN := Lib.hid hN
  have HS0 := Lib.hid hs0
  clear hs0 hJ hY hsc hrow h0 hN
  refine callsIn_of_wp Tryz.func175 rfl trivial ?_ rfl
  simp only [Tryz.ntmps175, List.size_toArray, List.length_cons, List.length_nil, Nat.reduceAdd, Nat.reduceSub, Array.replicate_succ, Array.replicate_zero, List.push_toArray, List.append_toArray, List.nil_append, List.cons_append]
  gi_wp2
  gi_loopw [11] (fun i wr => ∃ j : Nat, j ≤ os.length ∧ i = .int .i64 (j : Int) ∧ BL wr b t (rowsC os) ∧ J (pre ++ os.take j) wr) (fun i _ => os.length - (intOf i).toNat)
  case atStart => exact ⟨0, Nat.zero_le _, rfl, HR.out, by simpa using HH.out⟩
  case round =>
    obtain ⟨j, hj, rfl, hbl, hI⟩ := hrel
    have HB := Lib.hid hbl
    have HI := Lib.hid hI
    clear hbl hI
    have j0 : (0 : Int) ≤ (j : Int) := Int.natCast_nonneg _
    by_cases hlt : j < os.length
    · have j1 : (j : Int) < (os.length : Int) := by omega
      obtain ⟨x, hx⟩ : ∃ x, x = os[j] := ⟨_, rfl⟩
      have hra : wr.rangeAt b (j * 7) (opt0 x) := HB.out.range (fun k v hk => by
        have h7 : k < 7 := by rw [← opt0_len x]; exact (List.getElem?_eq_some_iff.1 hk).1
        rw [show j * 7 + k = 7 * j + k by omega, rowsC_at hlt k h7, ← hx]; exact hk)
      have HRA := Lib.hid hra
      have hsx : x.scope = sc := HSC.out x (hx ▸ List.getElem_mem _)
      have HX := Lib.hid hx
      clear hra hx
      obtain ⟨nm, scp, kd, fi, le, mo, ch⟩ := x
      dsimp only at hsx
      subst hsx
      dsimp only [opt0] at HRA
      have hA : (wr.alloc (.cells #[.string (bs nm), .int .i64 scp, .string (bs kd), .string (bs fi), .int .i64 le, .int .i64 mo, .string (bs ch)] 93)).rangeAt wr.heap.size 0 [.string (bs nm), .int .i64 scp, .string (bs kd), .string (bs fi), .int .i64 le, .int .i64 mo, .string (bs ch)] := (BL.new wr 93 [.string (bs nm), .int .i64 scp, .string (bs kd), .string (bs fi), .int .i64 le, .int .i64 mo, .string (bs ch)]).range (fun k v hk => by simpa using hk)
      have hJ2 : J (pre ++ os.take j) (wr.alloc (.cells #[.string (bs nm), .int .i64 scp, .string (bs kd), .string (bs fi), .int .i64 le, .int .i64 mo, .string (bs ch)] 93)) := HJ.out _ _ _ none HI.out (World.grownBy_alloc _ _ none) (fun r e => by cases e)
      have hlN : (pre ++ os.take j).length < N := by have := HN.out; rw [List.length_append, List.length_take]; omega
      have hB2 := HB.out.alloc (.cells #[.string (bs nm), .int .i64 scp, .string (bs kd), .string (bs fi), .int .i64 le, .int .i64 mo, .string (bs ch)] 93)
      have HA := Lib.hid hA
      obtain ⟨fn, tmps, assign, body, hy, hR⟩ := HY.out (n - 1) _ ⟨nm, scp, kd, fi, le, mo, ch⟩ _ HS0.out hJ2 hlN
      dsimp only [optV, optL] at hy
      have HRR := Lib.hid hR
      have HB2 := Lib.hid hB2
      clear hA hJ2 hlN hB2 hR
      gi_wp2_with (first
        | (refine wpListIn_load_mid rfl 93 _ rfl b (j * 7) rfl [.string (bs nm), .int .i64 0, .string (bs kd), .string (bs fi), .int .i64 le, .int .i64 mo, .string (bs ch)] _ HRA.out Tryz.underlying93 rfl (by kernel_rfl) ?_)
        | (refine wpListIn_load_mid rfl 93 _ rfl wr.heap.size 0 rfl [.string (bs nm), .int .i64 scp, .string (bs kd), .string (bs fi), .int .i64 le, .int .i64 mo, .string (bs ch)] _ HA.out Tryz.underlying93 rfl (by kernel_rfl) ?_))
      refine ⟨fun h => (by cases h), ?_⟩
      refine HRR.out.mono ?_
      clear HRR hy
      rintro e W3 (⟨rfl, hJ3, hk3⟩ | ⟨rfl, hJx3⟩)
      · have hb3 := hk3.same b t _ HB2.out (by have := rowsC_at hos 1 (by omega); rw [show 7 * 0 + 1 = 1 from rfl] at this; rw [this]; rfl)
        have HB3 := Lib.hid hb3
        have HJ3 := Lib.hid hJ3
        clear hb3 hJ3 hk3
        gi_wp2
        go_roundw
        case rel => exact ⟨j + 1, by omega, by go_num, HB3.out, by rw [List.take_succ_eq_append_getElem hlt, ← HX.out, ← List.append_assoc]; exact HJ3.out⟩
        case measure => simp [intOf]; omega
      · have HJ3 := Lib.hid hJx3
        clear hJx3
        gi_wp2
        exact bodyPost_ret (results_tmp rfl _ _ _) rfl (.inr ⟨rfl, os.take (j + 1), List.take_prefix _ _, by rw [List.take_succ_eq_append_getElem hlt, ← HX.out, ← List.append_assoc]; exact HJ3.out⟩)
    · obtain rfl : j = os.length := by omega
      gi_wp2
      exact bodyPost_ret (results_tmp rfl _ _ _) rfl (.inl ⟨rfl, by have := HI.out; rwa [List.take_length] at this⟩)
end Go.Proofs.YtgnlfikkmomghaaGreatDoor.Opt
