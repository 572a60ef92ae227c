/- CalcOrder: for every three floats the program's order is one; no condition beyond strconv's own tables, tied to its text. -/
import Derived.Test.YtmljdclmcoedfaaGreatDoorLos
import Derived.Test.YtmljdclmcoedfaaGreatDoorLai
namespace Go.Proofs.YtmljdclmcoedfaaGreatDoor.Cal
open Go.RowKit Go.ChangeShapes Go.WideShapes Go.ChangeAt

theorem ne_test (a b : Nat) (ha : a < 2 ^ 64) (hb : b < 2 ^ 64) : (FloatKind.f64.format.order a b != some Ordering.eq) = !Flt.eq a b := by
  show (!(Ieee.double.order a b == some .eq)) = _
  rw [Flt.order_same a b ha hb]
theorem self_test (a : Nat) (ha : a < 2 ^ 64) : (FloatKind.f64.format.order a a == some Ordering.eq) = !Flt.isNaN a := by
  rw [eq_test a a ha ha _ rfl]
  unfold Flt.eq
  cases Flt.isNaN a <;> simp
theorem lawOrder_walk {B : Nat} (a b c : Nat) (w : World) (ht : Tabs B w) (hB : B ≤ w.heap.size) (ha : a < 2 ^ 64) (hb : b < 2 ^ 64) (hc : c < 2 ^ 64) :
    Calls Tryz.prog 8 #[.float .f64 a, .float .f64 b, .float .f64 c] w fun e w' => e = .returned (.bool true) ∧ Below w.heap.size w w' := by
  obtain ⟨l1, l2, l3, l4⟩ := order_law a b c
  exact order_steps a b c w ht hB _ _ _ _ _ _ (Flt.eq a b) (Flt.isNaN a) (Flt.isNaN b) (fun w1 => less_any a b w1 ha hb) (fun w1 => less_any b a w1 hb ha) (fun w1 => less_any b c w1 hb hc) (fun w1 => less_any a c w1 ha hc) (fun w1 => same_any a b w1 ha hb)
    (lt_test a b ha hb _ rfl) (ne_test a b ha hb) (self_test a ha) (self_test b hb) l1 l2 l3 l4

namespace LawCalcOrder
set_option maxRecDepth 100000 in
theorem contract (H : Type) (enc : TypeId × Value → H) (W : World) (base : Nat) (args : Array Value) (ds gs : List (DataW H)) (before : List MemPlace)
    (hval : ∀ (j : Nat) t v, Tryz.f8.params[j]? = some t → args[j]? = some v → Value.okWide Tryz.prog W .any base t v)
    (hW : DataW.Whole enc Tryz.prog Tryz.f8.params.toList Rows.calcOrderSpec.vars false W args.toList ds gs before) (hL : laidMetH Tryz.prog Rows.calcOrderRow.laid W) :
    Calls Tryz.prog 8 args W fun e W' => ∃ v, e = .returned v ∧ Rows.calcOrderSpec.post enc Tryz.prog Tryz.f8 false true false false W args v W' := by
  have hW' := hW
  obtain ⟨p, q, hA0, hV, hbefore, hfz, hnd⟩ := hW
  have hA : DataW.TrodAll enc Tryz.prog W 0 (fun _ => true) true Tryz.f8.params.toList args.toList ds p := hA0
  rw [Tryz.params8] at hA hval
  obtain ⟨v0, vs0, d0, ds0, p0, q0, hargs, rfl, rfl, h0, r0⟩ := trodAll_cons hA
  obtain ⟨v1, vs1, d1, ds1, p1, q1, rfl, rfl, rfl, h1, r1⟩ := trodAll_cons r0
  obtain ⟨v2, vs2, d2, ds2, p2, q2, rfl, rfl, rfl, h2, r2⟩ := trodAll_cons r1
  obtain ⟨rfl, rfl, rfl⟩ := trodAll_nil r2
  obtain rfl : args = #[v0, v1, v2] := by cases args; simp_all
  obtain ⟨rfl, rfl⟩ := trodVars_none hV
  have fin : ∀ W' : World, Below W.heap.size W W' → Rows.calcOrderSpec.post enc Tryz.prog Tryz.f8 false true false false W #[v0, v1, v2] (.bool true) W' := fun W' hb =>
    Post.law_post (by kernel_rfl) (by kernel_rfl) rfl (by kernel_rfl) Tryz.underlying4 hW' rfl hb
  obtain ⟨x0, rfl, rfl, rfl, wx0⟩ := open_float Tryz.underlying23 (hval 0 23 v0 rfl rfl) h0
  have hx0 : x0 < 2 ^ 64 := of_decide_eq_true wx0
  obtain ⟨x1, rfl, rfl, rfl, wx1⟩ := open_float Tryz.underlying23 (hval 1 23 v1 rfl rfl) h1
  have hx1 : x1 < 2 ^ 64 := of_decide_eq_true wx1
  obtain ⟨x2, rfl, rfl, rfl, wx2⟩ := open_float Tryz.underlying23 (hval 2 23 v2 rfl rfl) h2
  have hx2 : x2 < 2 ^ 64 := of_decide_eq_true wx2
  clear hA0 hA
  refine (lawOrder_walk x0 x1 x2 W (tabs_of hL) (Nat.le_refl _) hx0 hx1 hx2).mono fun e W' ⟨he, hg⟩ => ?_
  subst he
  exact ⟨_, rfl, fin W' hg⟩

theorem reads (os : Os) {H : Type} (enc : TypeId × Value → H) : ∃ places, DataW.whole enc Tryz.prog ((laidWorld os).forCall (fun _ _ => 0) ⟨#[], #[.float .f64 0, .float .f64 0, .float .f64 0], []⟩).memory Tryz.f8.params.toList Rows.calcOrderSpec.vars false #[.float .f64 0, .float .f64 0, .float .f64 0].toList 8 = some ([.lit (.float .f64 0), .lit (.float .f64 0), .lit (.float .f64 0)], [], places) :=
  ⟨[], by kernel_rfl⟩

set_option maxRecDepth 100000 in
theorem lifted (os : Os) (started : os.Started) (H : Type) (enc : TypeId × Value → H) (F : Stop.Interp) :
    ReturnsInHanded {} Tryz.checked os 8 .any ((OpenSpec.ofChange Rows.calcOrderSpec).preRow enc Tryz.prog Tryz.f8 Rows.calcOrderRow.domain false Rows.calcOrderRow.laid) (((OpenSpec.ofChange Rows.calcOrderSpec).at F).post enc Tryz.prog Tryz.f8 false true false false) := by
  obtain ⟨places, hx⟩ := reads os enc
  refine returnsInHanded_of_row (C := Tryz.checked) (s := OpenSpec.ofChange Rows.calcOrderSpec) own started (by kernel_rfl) Tryz.func8
    (witness_row_shaped (enc := enc) (C := Tryz.checked) (laidWorld os) #[.float .f64 0, .float .f64 0, .float .f64 0] (World.laidAll_os _ _ _) (shaped os _) (by kernel_rfl)
      (OpenSpec.preRow_of_cond 8 hx (by kernel_rfl) (fun k hk => by cases hk) (by kernel_rfl) (laid_met os _))) ?_
  intro W base args ds gs before hval hW _ _ _ hL _ _
  exact contract H enc W base args ds gs before hval hW hL

theorem said : Rows.CalcOrderSaid :=
  OpenClaim.holds_of_cond 8 Tryz.f8 rfl rfl rfl rfl rfl rfl rfl ⟨rfl, rfl, rfl, rfl, rfl⟩ rfl rfl rfl rfl rfl (by kernel_rfl) Tryz.func8 (by kernel_rfl)
    (of_decide_eq_true (by kernel_rfl)) (by unfold Func.isWrapper; first | (rw [if_pos (by decide +kernel)]; kernel_rfl) | (rw [if_neg (by decide +kernel)]; exact ⟨rfl, rfl⟩))
    (fun os started H enc _ F => by rw [OpenClaim.pre_eq_preRow]; exact lifted os started H enc F)

/-- No parameter wants a stand-in; the program's own looks are off. -/
theorem plain (f : FuncId) (fn : Func) (hf : Tryz.pinned.checked.prog.funcNamed Rows.calcOrderRow.func = some f) (hfn : Tryz.pinned.checked.prog.funcs[f]? = some fn) :
    true = Tryz.pinned.checked.prog.looks [] ∧ ∀ (j : Nat) t, fn.params[j]? = some t → Tryz.pinned.checked.prog.wantsStandIn t = false := by
  obtain rfl : f = 8 := Option.some.inj ((show Tryz.prog.funcNamed Rows.calcOrderRow.func = some 8 by kernel_rfl).symm.trans hf) |>.symm
  obtain rfl : fn = Tryz.f8 := (Option.some.inj (Tryz.func8.symm.trans hfn)).symm
  refine ⟨by kernel_rfl, fun j t ht => ?_⟩
  rw [Tryz.params8] at ht
  have hm : t ∈ [23, 23, 23] := by simpa using Array.mem_of_getElem? ht
  have hall : ([23, 23, 23].all fun u => !Tryz.prog.wantsStandIn u) = true := by kernel_rfl
  exact (show Tryz.prog.wantsStandIn t = false by simpa using List.all_eq_true.1 hall t hm)

theorem card : Rows.CalcOrderCardSaid :=
  Claim7.holds_tied_plain_at .later [] _ _ _ _ said (fun _ h => by cases h) (by kernel_rfl) (fun _ h => by cases h) calcOrder_row_tie rfl ⟨rfl, rfl⟩ (by kernel_rfl) rfl plain (by kernel_rfl)
end LawCalcOrder
end Go.Proofs.YtmljdclmcoedfaaGreatDoor.Cal
