/- The table, scope by scope. -/
import Derived.Test.YtgnlfikkmomghaaGreatDoorOea
namespace Go.Proofs.YtgnlfikkmomghaaGreatDoor.Opt
open Go.RowKit Go.Shelf

/-- What tells options: they are told one by one, behind what has come; or a round says 'no more'. -/
def Tells (J Jx : List Op8 → World → Prop) (pre os : List Op8) (e : Ending) (W' : World) : Prop :=
  (e = .returned (.bool true) ∧ J (pre ++ os) W') ∨ (e = .returned (.bool false) ∧ ∃ q, q <+: os ∧ Jx (pre ++ q) W')
theorem calls_at {P : Program} {f : FuncId} {args : Array Value} {w w' : World} {R : Ending → World → Prop} (e : w = w') (h : Calls P f args w R) : Calls P f args w' R := e ▸ h
theorem info_opt : ∃ ie z, Tryz.prog.info? 93 = some ie ∧ ie.zero = some z ∧ ie.size = 7 ∧ z.cells = #[.string (bs []), .int .i64 0, .string (bs []), .string (bs []), .int .i64 0, .int .i64 0, .string (bs [])] := by
  have h : (Tryz.prog.info? 93).map (fun i => (i.zero.map (·.cells), i.size)) = some (some #[.string (bs []), .int .i64 0, .string (bs []), .string (bs []), .int .i64 0, .int .i64 0, .string (bs [])], 7) := by kernel_rfl
  cases hi : Tryz.prog.info? 93 with
  | none => rw [hi] at h; cases h
  | some ie =>
    rw [hi] at h
    simp only [Option.map_some, Option.some.injEq, Prod.mk.injEq] at h
    cases hz : ie.zero with
    | none => rw [hz] at h; simp at h
    | some z => rw [hz] at h; simp only [Option.map_some, Option.some.injEq] at h; exact ⟨ie, z, rfl, hz, h.2, h.1⟩
theorem wpList_opts {ops : Array Oper} {rest : List Oper} {o : Oper} {a : Act} {w : World} {Q : Exit → Act → World → Prop} (hg : o.guard = none) (len : Nat) (parts : Array (Nat × Operand)) (ho : o.op = .buildSlice 100 len parts)
    (cells : Array Value) (hl : 0 < len) (hl2 : len ≤ 1000)
    (hf : Instr.fill (fun i => some (i * 7, 7)) ((Array.range (len * 7)).map ((#[.string (bs []), .int .i64 0, .string (bs []), .string (bs []), .int .i64 0, .int .i64 0, .string (bs [])] : Array Value)[· % 7]!)) (parts.map fun (i, x) => (i, a.eval x)).toList = some cells)
    (h : wpList Tryz.prog ops Q rest (a.put o.dst (.slice (some ⟨w.heap.size, 0, none⟩) len len)) (w.alloc (.cells cells 93))) : wpList Tryz.prog ops Q (o :: rest) a w := by
  obtain ⟨ie, z, h1, h2, h3, h4⟩ := info_opt
  exact wpList_buildSlice hg 100 93 len parts ho cells ie z Tryz.underlying100 h1 h2 (by rw [h3]; omega) (by rw [h3]; omega) (by rw [h3, h4]; exact hf) h
def Rounds (l N : Nat) (J Jx : List Op8 → World → Prop) : Prop :=
  ∀ m pre x W, x.scope ≠ 0 → J pre W → pre.length < N → YieldAt Fence.wide m Tryz.prog l #[optV x] W fun e W' =>
      (e = .returned (.bool true) ∧ J (pre ++ [x]) W' ∧ KT W W') ∨ (e = .returned (.bool false) ∧ Jx (pre ++ [x]) W')

set_option maxRecDepth 100000 in
set_option maxHeartbeats 8000000 in
theorem ofPane_at (l N B0 : Nat) (J Jx : List Op8 → World → Prop) (hJ : AbidesFrom B0 J) (hY : Rounds l N J Jx) (pre : List Op8) (W : World) (h0 : J pre W) (hN : pre.length + 6 ≤ N) :
    Calls Tryz.prog 133 #[.func (.yield l) #[] #[]] W fun e W' => Tells J Jx pre panL e W' := by
  have HB := Lib.hid (BL.new W 93 (rowsC panL))
  have H0 := Lib.hid (hJ _ _ _ none h0 (World.grownBy_alloc W (.cells (rowsC panL).toArray 93) none) (fun r e => by cases e))
  have HY := Lib.hid hY
  have HJ := Lib.hid hJ
  clear hJ hY h0
  go_enter Tryz.func133, Tryz.ntmps133
  go_wp2_with (refine wpList_opts rfl 6 _ rfl (rowsC panL).toArray (by decide) (by decide) (by kernel_rfl) ?_)
  refine (callsIn_wide.1 (each_in 0 l N B0 J Jx HJ.out HY.out 4 (by decide) panL (by decide) W.heap.size 93 pre _ HB.out H0.out hN (by decide) (by decide))).mono ?_
  clear HB H0 HY HJ
  rintro e W3 (⟨rfl, h⟩ | ⟨rfl, h⟩)
  · have H := Lib.hid h
    clear h
    go_wp2_with fail
    exact bodyPost_ret (results_tmp rfl _ _ _) rfl (.inl ⟨rfl, H.out⟩)
  · have H := Lib.hid h
    clear h
    go_wp2_with fail
    exact bodyPost_ret (results_tmp rfl _ _ _) rfl (.inr ⟨rfl, H.out⟩)

set_option maxRecDepth 100000 in
set_option maxHeartbeats 8000000 in
theorem ofServer_at (l N B0 : Nat) (J Jx : List Op8 → World → Prop) (hJ : AbidesFrom B0 J) (hY : Rounds l N J Jx) (pre : List Op8) (W : World) (h0 : J pre W) (hN : pre.length + 10 ≤ N) :
    Calls Tryz.prog 130 #[.func (.yield l) #[] #[]] W fun e W' => Tells J Jx pre srvL e W' := by
  have HB := Lib.hid (BL.new W 93 (rowsC srvL))
  have H0 := Lib.hid (hJ _ _ _ none h0 (World.grownBy_alloc W (.cells (rowsC srvL).toArray 93) none) (fun r e => by cases e))
  have HY := Lib.hid hY
  have HJ := Lib.hid hJ
  clear hJ hY h0
  go_enter Tryz.func130, Tryz.ntmps130
  go_wp2_with (refine wpList_opts rfl 10 _ rfl (rowsC srvL).toArray (by decide) (by decide) (by kernel_rfl) ?_)
  refine (callsIn_wide.1 (each_in 0 l N B0 J Jx HJ.out HY.out 1 (by decide) srvL (by decide) W.heap.size 93 pre _ HB.out H0.out hN (by decide) (by decide))).mono ?_
  clear HB H0 HY HJ
  rintro e W3 (⟨rfl, h⟩ | ⟨rfl, h⟩)
  · have H := Lib.hid h
    clear h
    go_wp2_with fail
    exact bodyPost_ret (results_tmp rfl _ _ _) rfl (.inl ⟨rfl, H.out⟩)
  · have H := Lib.hid h
    clear h
    go_wp2_with fail
    exact bodyPost_ret (results_tmp rfl _ _ _) rfl (.inr ⟨rfl, H.out⟩)

set_option maxRecDepth 100000 in
set_option maxHeartbeats 8000000 in
theorem ofWindow_at (l N B0 : Nat) (J Jx : List Op8 → World → Prop) (hJ : AbidesFrom B0 J) (hY : Rounds l N J Jx) (pre : List Op8) (W : World) (h0 : J pre W) (hN : pre.length + 19 ≤ N) :
    Calls Tryz.prog 132 #[.func (.yield l) #[] #[]] W fun e W' => Tells J Jx pre winL e W' := by
  have HB := Lib.hid (BL.new W 93 (rowsC winL))
  have H0 := Lib.hid (hJ _ _ _ none h0 (World.grownBy_alloc W (.cells (rowsC winL).toArray 93) none) (fun r e => by cases e))
  have HY := Lib.hid hY
  have HJ := Lib.hid hJ
  clear hJ hY h0
  go_enter Tryz.func132, Tryz.ntmps132
  go_wp2_with (refine wpList_opts rfl 19 _ rfl (rowsC winL).toArray (by decide) (by decide) (by kernel_rfl) ?_)
  refine (callsIn_wide.1 (each_in 0 l N B0 J Jx HJ.out HY.out 3 (by decide) winL (by decide) W.heap.size 93 pre _ HB.out H0.out hN (by decide) (by decide))).mono ?_
  clear HB H0 HY HJ
  rintro e W3 (⟨rfl, h⟩ | ⟨rfl, h⟩)
  · have H := Lib.hid h
    clear h
    go_wp2_with fail
    exact bodyPost_ret (results_tmp rfl _ _ _) rfl (.inl ⟨rfl, H.out⟩)
  · have H := Lib.hid h
    clear h
    go_wp2_with fail
    exact bodyPost_ret (results_tmp rfl _ _ _) rfl (.inr ⟨rfl, H.out⟩)

set_option maxRecDepth 100000 in
set_option maxHeartbeats 8000000 in
theorem ofSession_at (l N B0 : Nat) (J Jx : List Op8 → World → Prop) (hJ : AbidesFrom B0 J) (hY : Rounds l N J Jx) (pre : List Op8) (W : World) (h0 : J pre W) (hN : pre.length + 28 ≤ N) :
    Calls Tryz.prog 131 #[.func (.yield l) #[] #[]] W fun e W' => Tells J Jx pre sesL e W' := by
  have HB := Lib.hid (BL.new W 93 (rowsC sesL))
  have H0 := Lib.hid (hJ _ _ _ none h0 (World.grownBy_alloc W (.cells (rowsC sesL).toArray 93) none) (fun r e => by cases e))
  have HY := Lib.hid hY
  have HJ := Lib.hid hJ
  clear hJ hY h0
  go_enter Tryz.func131, Tryz.ntmps131
  go_wp2_with (refine wpList_opts rfl 28 _ rfl (rowsC sesL).toArray (by decide) (by decide) (by kernel_rfl) ?_)
  refine (callsIn_wide.1 (each_in 0 l N B0 J Jx HJ.out HY.out 2 (by decide) sesL (by decide) W.heap.size 93 pre _ HB.out H0.out hN (by decide) (by decide))).mono ?_
  clear HB H0 HY HJ
  rintro e W3 (⟨rfl, h⟩ | ⟨rfl, h⟩)
  · have H := Lib.hid h
    clear h
    go_wp2_with fail
    exact bodyPost_ret (results_tmp rfl _ _ _) rfl (.inl ⟨rfl, H.out⟩)
  · have H := Lib.hid h
    clear h
    go_wp2_with fail
    exact bodyPost_ret (results_tmp rfl _ _ _) rfl (.inr ⟨rfl, H.out⟩)
end Go.Proofs.YtgnlfikkmomghaaGreatDoor.Opt
