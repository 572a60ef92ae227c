/- LexTwo: its card. No condition beyond the listed variables, tied to the text. -/
import Derived.Test.YtigpingkfinmiaaDoorQt0
import Derived.Test.YtigpingkfinmiaaDoorQli
namespace Go.Proofs.YtigpingkfinmiaaDoor.Lex
open Go.RowKit Go.ChangeShapes Go.WideShapes Go.ChangeAt Go.ChangeMaps

namespace LawLexTwo
set_option maxRecDepth 100000 in
theorem contract (H : Type) (enc : TypeId × Value → H) (W : World) (base : Nat) (args : Array Value) (ds gs : List (DataW H)) (before : List MemPlace)
    (hval : ∀ (j : Nat) t v, Tryd.f5.params[j]? = some t → args[j]? = some v → Value.okWide Tryd.prog W .any base t v)
    (hW : DataW.Whole enc Tryd.prog Tryd.f5.params.toList Rows.lexTwoSpec.vars false W args.toList ds gs before) (_hL : laidMetH Tryd.prog Rows.lexTwoRow.laid W) (_hsh : W.ShapedOpen Tryd.prog) (hk : (DataW.weightsEach Tryd.prog [9, 9, 27] (ds ++ gs)).all (· ≤ reachBytes) = true) :
    Calls Tryd.prog 5 args W fun e W' => ∃ v, e = .returned v ∧ Rows.lexTwoSpec.post enc Tryd.prog Tryd.f5 false true false false W args v W' := by
  have hW' := hW
  obtain ⟨p, q, hA0, hV, hbefore, hfz, hnd⟩ := hW
  have hA : DataW.TrodAll enc Tryd.prog W 0 (fun _ => true) true Tryd.f5.params.toList args.toList ds p := hA0
  rw [Tryd.params5] at hA hval
  obtain ⟨v0, vs0, d0, ds0, p0, q0, hargs, rfl, rfl, h0, r0⟩ := trodAll_cons hA
  obtain ⟨v1, vs1, d1, ds1, p1, q1, rfl, rfl, rfl, h1, r1⟩ := trodAll_cons r0
  obtain ⟨v2, vs2, d2, ds2, p2, q2, rfl, rfl, rfl, h2, r2⟩ := trodAll_cons r1
  obtain ⟨rfl, rfl, rfl⟩ := trodAll_nil r2
  obtain rfl : args = #[v0, v1, v2] := by cases args; simp_all
  obtain ⟨rfl, rfl⟩ := trodVars_none hV
  have fin : ∀ W' : World, Below W.heap.size W W' → Rows.lexTwoSpec.post enc Tryd.prog Tryd.f5 false true false false W #[v0, v1, v2] (.bool true) W' := fun W' hb =>
    Post.law_post (by kernel_rfl) (by kernel_rfl) rfl (by kernel_rfl) Tryd.underlying4 hW' rfl hb
  have hre : reachBytes = 140737488351232 := rfl
  have hk0 : ∀ n ∈ d0.weights Tryd.prog 9, n ≤ 140737488351232 := fun n hn => by
    rw [← hre]
    exact of_decide_eq_true (List.all_eq_true.1 hk n (by
      simp only [DataW.weightsEach, List.cons_append, List.nil_append, List.mem_append]
      simp [hn]))
  have hk1 : ∀ n ∈ d1.weights Tryd.prog 9, n ≤ 140737488351232 := fun n hn => by
    rw [← hre]
    exact of_decide_eq_true (List.all_eq_true.1 hk n (by
      simp only [DataW.weightsEach, List.cons_append, List.nil_append, List.mem_append]
      simp [hn]))
  have hk2 : ∀ n ∈ d2.weights Tryd.prog 27, n ≤ 140737488351232 := fun n hn => by
    rw [← hre]
    exact of_decide_eq_true (List.all_eq_true.1 hk n (by
      simp only [DataW.weightsEach, List.cons_append, List.nil_append, List.mem_append]
      simp [hn]))
  obtain ⟨x0, rfl, rfl, rfl, hx0⟩ := open_string Tryd.underlying9 (hval 0 9 v0 rfl rfl) h0
  obtain ⟨l0, rfl⟩ : ∃ l, x0 = bs l := ⟨_, bs_of x0⟩
  obtain ⟨x1, rfl, rfl, rfl, hx1⟩ := open_string Tryd.underlying9 (hval 1 9 v1 rfl rfl) h1
  obtain ⟨l1, rfl⟩ : ∃ l, x1 = bs l := ⟨_, bs_of x1⟩
  obtain ⟨A2, c2, env2, rfl, hp2, hev2⟩ := open_pairs (hval 2 27 v2 rfl rfl) h2 hk2
  have hl0 : l0.length ≤ 140737488351232 := hk0 _ (by simp [DataW.weights, bs_list])
  have hl1 : l1.length ≤ 140737488351232 := hk1 _ (by simp [DataW.weights, bs_list])
  clear hA0 hA
  refine (two_walk l0 l1 env2 A2 c2 W hp2 hev2 (by omega) (by omega)).mono fun e W' ⟨he, hg⟩ => ?_
  subst he
  exact ⟨_, rfl, fin W' hg⟩

theorem reads (os : Os) {H : Type} (enc : TypeId × Value → H) : ∃ places, DataW.whole enc Tryd.prog ((laidWorld os).forCall (fun _ _ => 0) ⟨#[], #[.string { data := #[] }, .string { data := #[] }, .slice none 0 0], []⟩).memory Tryd.f5.params.toList Rows.lexTwoSpec.vars false #[.string { data := #[] }, .string { data := #[] }, .slice none 0 0].toList 8 = some ([.lit (.string []), .lit (.string []), .nil], [], places) :=
  ⟨[], by kernel_rfl⟩

set_option maxRecDepth 100000 in
theorem lifted (os : Os) (started : os.Started) (H : Type) (enc : TypeId × Value → H) (F : Stop.Interp) :
    ReturnsInHanded {} Tryd.checked os 5 .any ((OpenSpec.ofChange Rows.lexTwoSpec).preRow enc Tryd.prog Tryd.f5 Rows.lexTwoRow.domain false Rows.lexTwoRow.laid) (((OpenSpec.ofChange Rows.lexTwoSpec).at F).post enc Tryd.prog Tryd.f5 false true false false) := by
  obtain ⟨places, hx⟩ := reads os enc
  refine returnsInHanded_of_row (C := Tryd.checked) (s := OpenSpec.ofChange Rows.lexTwoSpec) own started (by kernel_rfl) Tryd.func5
    (witness_row_shaped (enc := enc) (C := Tryd.checked) (laidWorld os) #[.string { data := #[] }, .string { data := #[] }, .slice none 0 0] (World.laidAll_os _ _ _) (shaped os _) (by kernel_rfl)
      (OpenSpec.preRow_of_cond 8 hx (by kernel_rfl) (fun k hk => by cases hk) (by kernel_rfl) (laid_met os _))) ?_
  intro W base args ds gs before hval hW _ _ hwt hL hsh _
  exact contract H enc W base args ds gs before hval hW hL hsh hwt

theorem said : Rows.LexTwoSaid :=
  OpenClaim.holds_of_cond 5 Tryd.f5 rfl rfl rfl rfl rfl rfl rfl ⟨rfl, rfl, rfl, rfl, rfl⟩ rfl rfl rfl rfl rfl (by kernel_rfl) Tryd.func5 (by kernel_rfl)
    (of_decide_eq_true (by kernel_rfl)) (by unfold Func.isWrapper; first | (rw [if_pos (by decide +kernel)]; kernel_rfl) | (rw [if_neg (by decide +kernel)]; exact ⟨rfl, rfl⟩))
    (fun os started H enc _ F => by rw [OpenClaim.pre_eq_preRow]; exact lifted os started H enc F)

/-- No parameter wants a stand-in; the program's own looks. -/
theorem plain (f : FuncId) (fn : Func) (hf : Tryd.pinned.checked.prog.funcNamed Rows.lexTwoRow.func = some f) (hfn : Tryd.pinned.checked.prog.funcs[f]? = some fn) :
    true = Tryd.pinned.checked.prog.looks [] ∧ ∀ (j : Nat) t, fn.params[j]? = some t → Tryd.pinned.checked.prog.wantsStandIn t = false := by
  obtain rfl : f = 5 := Option.some.inj ((show Tryd.prog.funcNamed Rows.lexTwoRow.func = some 5 by kernel_rfl).symm.trans hf) |>.symm
  obtain rfl : fn = Tryd.f5 := (Option.some.inj (Tryd.func5.symm.trans hfn)).symm
  refine ⟨by kernel_rfl, fun j t ht => ?_⟩
  rw [Tryd.params5] at ht
  have hm : t ∈ [9, 9, 27] := by simpa using Array.mem_of_getElem? ht
  have hall : ([9, 9, 27].all fun u => !Tryd.prog.wantsStandIn u) = true := by kernel_rfl
  exact (show Tryd.prog.wantsStandIn t = false by simpa using List.all_eq_true.1 hall t hm)

theorem card : Rows.LexTwoCardSaid :=
  Claim7.holds_tied_plain_at .later [] _ _ _ _ said (fun _ h => by cases h) (by kernel_rfl) (fun _ h => by cases h) lexTwo_row_tie rfl ⟨rfl, rfl⟩ (by kernel_rfl) rfl plain (by kernel_rfl)
end LawLexTwo
end Go.Proofs.YtigpingkfinmiaaDoor.Lex
