/- CalcShares: for every size and every two percents a share is a part, more percent is no less, a hundred is all, none is nothing; no condition beyond strconv's own tables, tied to its text. -/
import Derived.Test.YtmljdclmcoedfaaGreatDoorSho
import Derived.Test.YtmljdclmcoedfaaGreatDoorMon
import Derived.Test.YtmljdclmcoedfaaGreatDoorLai
namespace Go.Proofs.YtmljdclmcoedfaaGreatDoor.Cal
open Go.RowKit Go.ChangeShapes Go.WideShapes Go.ChangeAt

theorem le_test (p q : Nat) (hp : p < 2 ^ 64) (hq : q < 2 ^ 64) : (FloatKind.f64.format.order p q == some Ordering.lt || FloatKind.f64.format.order p q == some Ordering.eq) = (Flt.lt p q || Flt.eq p q) := by
  rw [lt_test p q hp hq _ rfl, eq_test p q hp hq _ rfl]
theorem le_of_test {p q : Nat} (h : (Flt.lt p q || Flt.eq p q) = true) : Flt.isNaN p = false ∧ Flt.isNaN q = false ∧ Flt.sv p ≤ Flt.sv q := by
  unfold Flt.lt Flt.eq at h
  cases np : Flt.isNaN p <;> cases nq : Flt.isNaN q <;> simp [np, nq] at h ⊢
  omega
theorem share_none (s : Int) (p : Nat) (h : s < 1) : share s p = 0 := by unfold share; rw [if_pos (Or.inl h)]
set_option maxRecDepth 100000 in
set_option maxHeartbeats 2000000 in
theorem lawShares_walk {B : Nat} (x : Int) (p q : Nat) (w : World) (ht : Tabs B w) (hB : B ≤ w.heap.size) (hp : p < 2 ^ 64) (hq : q < 2 ^ 64) (h0 : -9223372036854775808 ≤ x) (h1 : x ≤ 9223372036854775807) :
    Calls Tryz.prog 10 #[.int .i64 x, .float .f64 p, .float .f64 q] w fun e w' => e = .returned (.bool true) ∧ Below w.heap.size w w' := by
  by_cases hx : 0 ≤ x
  · obtain ⟨s, hs⟩ : ∃ s : Int, s = x % 1099511627776 := ⟨_, rfl⟩
    have hs0 : 0 ≤ s := by omega
    have hs1 : s < 1099511627776 := by omega
    have c1 := fun w => share_any s p w (by omega) (by omega) hp
    have c2 := fun w => share_any s q w (by omega) (by omega) hq
    by_cases hlt : s < 1
    · rw [share_none s p hlt] at c1
      rw [share_none s q hlt] at c2
      have hs2 : x % 1099511627776 = s := hs.symm
      clear hp hq hs
      go_enter Tryz.func10, Tryz.ntmps10
      go_wp2_with fail
      refine (shown_any w ht hB).mono ?_
      rintro e w1 ⟨rfl, hb1⟩
      go_wp2_with fail
      refine (c1 _).mono ?_
      rintro e w' ⟨rfl, rfl⟩
      go_wp2_with fail
      refine (c2 _).mono ?_
      rintro e w' ⟨rfl, rfl⟩
      go_wp2_with fail
      go_ret
      exact ⟨rfl, hb1⟩
    · have c3 := fun w => share_any s 4636737291354636288 w (by omega) (by omega) (by omega)
      have c4 := fun w => share_any s 0 w (by omega) (by omega) (by omega)
      rw [share_all s (by omega) hs1] at c3
      rw [share_zero s 0 (by omega) (by omega) (by decide +kernel)] at c4
      obtain ⟨a0, a1⟩ := share_bd s p hs0
      obtain ⟨b0, b1⟩ := share_bd s q hs0
      have hle := le_test p q hp hq
      have hm : (Flt.lt p q || Flt.eq p q) = true → share s p ≤ share s q := fun h => by
        obtain ⟨np, nq, hsv⟩ := le_of_test h
        exact share_mono s p q (by omega) hp hq np nq hsv (by omega)
      generalize share s p = a at *
      generalize share s q = b at *
      have hs2 : x % 1099511627776 = s := hs.symm
      clear hp hq hs
      cases hl : (Flt.lt p q || Flt.eq p q)
      · rw [hl] at hle
        clear hm hl
        go_enter Tryz.func10, Tryz.ntmps10
        go_wp2_with fail
        refine (shown_any w ht hB).mono ?_
        rintro e w1 ⟨rfl, hb1⟩
        go_wp2_with fail
        refine (c1 _).mono ?_
        rintro e w' ⟨rfl, rfl⟩
        go_wp2_with fail
        refine (c2 _).mono ?_
        rintro e w' ⟨rfl, rfl⟩
        go_wp2_with fail
        refine (c3 _).mono ?_
        rintro e w' ⟨rfl, rfl⟩
        go_wp2_with fail
        refine (c4 _).mono ?_
        rintro e w' ⟨rfl, rfl⟩
        go_wp2_with fail
        go_ret
        exact ⟨rfl, hb1⟩
      · rw [hl] at hle
        have hab := hm hl
        clear hm hl
        go_enter Tryz.func10, Tryz.ntmps10
        go_wp2_with fail
        refine (shown_any w ht hB).mono ?_
        rintro e w1 ⟨rfl, hb1⟩
        go_wp2_with fail
        refine (c1 _).mono ?_
        rintro e w' ⟨rfl, rfl⟩
        go_wp2_with fail
        refine (c2 _).mono ?_
        rintro e w' ⟨rfl, rfl⟩
        go_wp2_with fail
        refine (c3 _).mono ?_
        rintro e w' ⟨rfl, rfl⟩
        go_wp2_with fail
        refine (c4 _).mono ?_
        rintro e w' ⟨rfl, rfl⟩
        go_wp2_with fail
        go_ret
        exact ⟨rfl, hb1⟩
  · obtain ⟨s, hs⟩ : ∃ s : Int, s = x.tmod 1099511627776 := ⟨_, rfl⟩
    have hs0 : s ≤ 0 ∧ -1099511627776 < s := by
      have e : x.tmod 1099511627776 = -((-x) % 1099511627776) := by
        have := Int.neg_tmod (-x) 1099511627776
        rw [Int.neg_neg] at this
        rw [this, Int.tmod_eq_emod_of_nonneg (by omega)]
      rw [hs, e]; omega
    have c1 := fun w => share_any s p w (by omega) (by omega) hp
    have c2 := fun w => share_any s q w (by omega) (by omega) hq
    rw [share_none s p (by omega)] at c1
    rw [share_none s q (by omega)] at c2
    have hs2 : x.tmod 1099511627776 = s := hs.symm
    have hs3 := hs0.1
    have hs4 := hs0.2
    clear hp hq hs hs0
    go_enter Tryz.func10, Tryz.ntmps10
    go_wp2_with fail
    refine (shown_any w ht hB).mono ?_
    rintro e w1 ⟨rfl, hb1⟩
    go_wp2_with fail
    refine (c1 _).mono ?_
    rintro e w' ⟨rfl, rfl⟩
    go_wp2_with fail
    refine (c2 _).mono ?_
    rintro e w' ⟨rfl, rfl⟩
    go_wp2_with fail
    go_ret
    exact ⟨rfl, hb1⟩

namespace LawCalcShares
set_option maxRecDepth 100000 in
theorem contract (H : Type) (enc : TypeId × Value → H) (W : World) (base : Nat) (args : Array Value) (ds gs : List (DataW H)) (before : List MemPlace)
    (hval : ∀ (j : Nat) t v, Tryz.f10.params[j]? = some t → args[j]? = some v → Value.okWide Tryz.prog W .any base t v)
    (hW : DataW.Whole enc Tryz.prog Tryz.f10.params.toList Rows.calcSharesSpec.vars false W args.toList ds gs before) (hL : laidMetH Tryz.prog Rows.calcSharesRow.laid W) :
    Calls Tryz.prog 10 args W fun e W' => ∃ v, e = .returned v ∧ Rows.calcSharesSpec.post enc Tryz.prog Tryz.f10 false true false false W args v W' := by
  have hW' := hW
  obtain ⟨p, q, hA0, hV, hbefore, hfz, hnd⟩ := hW
  have hA : DataW.TrodAll enc Tryz.prog W 0 (fun _ => true) true Tryz.f10.params.toList args.toList ds p := hA0
  rw [Tryz.params10] at hA hval
  obtain ⟨v0, vs0, d0, ds0, p0, q0, hargs, rfl, rfl, h0, r0⟩ := trodAll_cons hA
  obtain ⟨v1, vs1, d1, ds1, p1, q1, rfl, rfl, rfl, h1, r1⟩ := trodAll_cons r0
  obtain ⟨v2, vs2, d2, ds2, p2, q2, rfl, rfl, rfl, h2, r2⟩ := trodAll_cons r1
  obtain ⟨rfl, rfl, rfl⟩ := trodAll_nil r2
  obtain rfl : args = #[v0, v1, v2] := by cases args; simp_all
  obtain ⟨rfl, rfl⟩ := trodVars_none hV
  have fin : ∀ W' : World, Below W.heap.size W W' → Rows.calcSharesSpec.post enc Tryz.prog Tryz.f10 false true false false W #[v0, v1, v2] (.bool true) W' := fun W' hb =>
    Post.law_post (by kernel_rfl) (by kernel_rfl) rfl (by kernel_rfl) Tryz.underlying4 hW' rfl hb
  obtain ⟨x0, rfl, rfl, rfl, wx0⟩ := open_int Tryz.underlying3 (hval 0 3 v0 rfl rfl) h0
  have hx0 : -9223372036854775808 ≤ x0 ∧ x0 ≤ 9223372036854775807 := by
    simp [Lit.wf, IntKind.min, IntKind.max, IntKind.signed, IntKind.bits] at wx0
    exact wx0
  obtain ⟨x1, rfl, rfl, rfl, wx1⟩ := open_float Tryz.underlying23 (hval 1 23 v1 rfl rfl) h1
  have hx1 : x1 < 2 ^ 64 := of_decide_eq_true wx1
  obtain ⟨x2, rfl, rfl, rfl, wx2⟩ := open_float Tryz.underlying23 (hval 2 23 v2 rfl rfl) h2
  have hx2 : x2 < 2 ^ 64 := of_decide_eq_true wx2
  clear hA0 hA
  refine (lawShares_walk x0 x1 x2 W (tabs_of hL) (Nat.le_refl _) hx1 hx2 hx0.1 hx0.2).mono fun e W' ⟨he, hg⟩ => ?_
  subst he
  exact ⟨_, rfl, fin W' hg⟩

theorem reads (os : Os) {H : Type} (enc : TypeId × Value → H) : ∃ places, DataW.whole enc Tryz.prog ((laidWorld os).forCall (fun _ _ => 0) ⟨#[], #[.int .i64 0, .float .f64 0, .float .f64 0], []⟩).memory Tryz.f10.params.toList Rows.calcSharesSpec.vars false #[.int .i64 0, .float .f64 0, .float .f64 0].toList 8 = some ([.lit (.int .i64 0), .lit (.float .f64 0), .lit (.float .f64 0)], [], places) :=
  ⟨[], by kernel_rfl⟩

set_option maxRecDepth 100000 in
theorem lifted (os : Os) (started : os.Started) (H : Type) (enc : TypeId × Value → H) (F : Stop.Interp) :
    ReturnsInHanded {} Tryz.checked os 10 .any ((OpenSpec.ofChange Rows.calcSharesSpec).preRow enc Tryz.prog Tryz.f10 Rows.calcSharesRow.domain false Rows.calcSharesRow.laid) (((OpenSpec.ofChange Rows.calcSharesSpec).at F).post enc Tryz.prog Tryz.f10 false true false false) := by
  obtain ⟨places, hx⟩ := reads os enc
  refine returnsInHanded_of_row (C := Tryz.checked) (s := OpenSpec.ofChange Rows.calcSharesSpec) own started (by kernel_rfl) Tryz.func10
    (witness_row_shaped (enc := enc) (C := Tryz.checked) (laidWorld os) #[.int .i64 0, .float .f64 0, .float .f64 0] (World.laidAll_os _ _ _) (shaped os _) (by kernel_rfl)
      (OpenSpec.preRow_of_cond 8 hx (by kernel_rfl) (fun k hk => by cases hk) (by kernel_rfl) (laid_met os _))) ?_
  intro W base args ds gs before hval hW _ _ _ hL _ _
  exact contract H enc W base args ds gs before hval hW hL

theorem said : Rows.CalcSharesSaid :=
  OpenClaim.holds_of_cond 10 Tryz.f10 rfl rfl rfl rfl rfl rfl rfl ⟨rfl, rfl, rfl, rfl, rfl⟩ rfl rfl rfl rfl rfl (by kernel_rfl) Tryz.func10 (by kernel_rfl)
    (of_decide_eq_true (by kernel_rfl)) (by unfold Func.isWrapper; first | (rw [if_pos (by decide +kernel)]; kernel_rfl) | (rw [if_neg (by decide +kernel)]; exact ⟨rfl, rfl⟩))
    (fun os started H enc _ F => by rw [OpenClaim.pre_eq_preRow]; exact lifted os started H enc F)

/-- No parameter wants a stand-in; the program's own looks are off. -/
theorem plain (f : FuncId) (fn : Func) (hf : Tryz.pinned.checked.prog.funcNamed Rows.calcSharesRow.func = some f) (hfn : Tryz.pinned.checked.prog.funcs[f]? = some fn) :
    true = Tryz.pinned.checked.prog.looks [] ∧ ∀ (j : Nat) t, fn.params[j]? = some t → Tryz.pinned.checked.prog.wantsStandIn t = false := by
  obtain rfl : f = 10 := Option.some.inj ((show Tryz.prog.funcNamed Rows.calcSharesRow.func = some 10 by kernel_rfl).symm.trans hf) |>.symm
  obtain rfl : fn = Tryz.f10 := (Option.some.inj (Tryz.func10.symm.trans hfn)).symm
  refine ⟨by kernel_rfl, fun j t ht => ?_⟩
  rw [Tryz.params10] at ht
  have hm : t ∈ [3, 23, 23] := by simpa using Array.mem_of_getElem? ht
  have hall : ([3, 23, 23].all fun u => !Tryz.prog.wantsStandIn u) = true := by kernel_rfl
  exact (show Tryz.prog.wantsStandIn t = false by simpa using List.all_eq_true.1 hall t hm)

theorem card : Rows.CalcSharesCardSaid :=
  Claim7.holds_tied_plain_at .later [] _ _ _ _ said (fun _ h => by cases h) (by kernel_rfl) (fun _ h => by cases h) calcShares_row_tie rfl ⟨rfl, rfl⟩ (by kernel_rfl) rfl plain (by kernel_rfl)
end LawCalcShares
end Go.Proofs.YtmljdclmcoedfaaGreatDoor.Cal
