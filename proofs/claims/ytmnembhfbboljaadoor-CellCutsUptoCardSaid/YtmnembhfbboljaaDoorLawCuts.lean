/- CellCuts, for texts of bulk at most 1048576: a cut is as wide as it may be and no wider, a fill is just so wide and goes on from the cut, each done once more changes nothing; the program's tables are tied to its text. -/
import Derived.Test.YtmnembhfbboljaaDoorShow
import Derived.Test.YtmnembhfbboljaaDoorSpecc
import Derived.Test.YtmnembhfbboljaaDoorPick
import Derived.Test.YtmnembhfbboljaaDoorLaid
import Derived.Test.YtmnembhfbboljaaDoorPost
import Derived.ShutString
namespace Go.Proofs.YtmnembhfbboljaaDoor.Cel
open Go.RowKit Go.ChangeShapes Go.WideShapes Go.ChangeAt
open Go.ChangeMaps (open_string)

set_option maxRecDepth 100000 in
set_option maxHeartbeats 1000000 in
/-- The law behind its first choice, as far as plain facts go. -/
theorem lawCuts_walk (s : ByteArray) (c0 : Int) (w : World) (ht : Tabs w) (hlow : low ≤ w.heap.size) (hs : s.size ≤ 1048576) (hc0 : -9223372036854775808 ≤ c0) (hc1 : c0 ≤ 9223372036854775807) :
    Calls Tryd.prog 7 #[.string s, .int .i64 c0] w fun e w' => e = .returned (.bool true) ∧ Below w.heap.size w w' := by
  have hn := picked_bd c0 300 (by omega)
  have hpick := fun w1 => pick_any c0 300 w1 (by omega) (by omega) hc0 hc1
  generalize picked c0 300 = n at *
  have hgood := runes_good s.data.toList
  have hlen := runes_length s.data.toList
  have hsz : s.data.toList.length = s.size := by rw [Array.length_toList]; rfl
  rw [hsz] at hlen
  have hcutc : ∀ w1, Tabs w1 → low ≤ w1.heap.size → _ := fun w1 h1 h2 => cut_any s n w1 h1 h2 (by omega)
  have hleftc : ∀ w1, Tabs w1 → low ≤ w1.heap.size → _ := fun w1 h1 h2 => cutLeft_any s n w1 h1 h2 (by omega)
  have hcolc : ∀ w1, Tabs w1 → low ≤ w1.heap.size → _ := fun w1 h1 h2 => columns_any s w1 h1 h2 (by omega)
  have hfitc : ∀ w1, Tabs w1 → low ≤ w1.heap.size → _ := fun w1 h1 h2 => fit_any s n w1 h1 h2 (by omega) (by omega) (by omega)
  generalize runes s.data.toList = ns at *
  clear hsz
  have hcg := cut_good hgood n
  have hlg := cutLeft_good hgood n
  have hfg := fitR_good hgood n
  have hfe := fit_bytes ns n (by omega)
  have hfc := fitR_cols ns n hn.1
  have hfl := hfg.2 hn.1
  have hcc := (cut_cols ns n).1 hn.1
  have hlc := cutLeft_le ns n hn.1
  have hpre : ∃ t, fitR ns n = cut ns n ++ t := ⟨_, rfl⟩
  have hway : (cols ns ≤ n ∧ cut ns n = ns ∧ cutLeft ns n = ns) ∨ (n < cols ns ∧ n - 1 ≤ cols (cut ns n) ∧ n - 1 ≤ cols (cutLeft ns n)) := by
    by_cases h : cols ns ≤ n
    · exact .inl ⟨h, cut_all ns n h, cutLeft_all ns n h⟩
    · exact .inr ⟨by omega, cut_low ns n (by omega), cutLeft_low ns n (by omega)⟩
  have hfa := cut_all (fitR ns n) n (by omega)
  have hca := cut_all (cut ns n) n hcc
  have hla := cutLeft_all (cutLeft ns n) n hlc
  rw [hfe] at hfitc
  generalize hC : cut ns n = C at *
  generalize hL : cutLeft ns n = L at *
  generalize hF : fitR ns n = F at *
  clear hC hL hF hfe
  have hCt := text_runes hcg.1
  have hLt := text_runes hlg.1
  have hFt := text_runes hfg.1
  have hCs := text_size C
  have hLs := text_size L
  have hFs := text_size F
  have hcgl := hcg.2
  have hlgl := hlg.2
  have hFl2 : F.length ≤ 1048576 + 300 := by omega
  have hext : (runesBytes F).extract 0 (runesBytes C).size = runesBytes C ∧ (runesBytes C).size ≤ (runesBytes F).size := by
    obtain ⟨t, rfl⟩ := hpre
    have h := extract_head (C ++ t) C.length
    rw [List.take_left'] at h
    · rw [runesBytes_size C]
      refine ⟨h, ?_⟩
      rw [runesBytes_size, bytes_append, List.length_append]
      omega
    · rfl
  rw [← runesBytes_eq] at hfitc
  have hColC : ∀ w1, Tabs w1 → low ≤ w1.heap.size → Calls Tryd.prog 20 #[.string (runesBytes C)] w1 fun e w' => e = .returned (.int .i64 (cols C)) ∧ Below w1.heap.size w1 w' := fun w1 h1 h2 => by
    have h := columns_any (runesBytes C) w1 h1 h2 (by omega); rw [hCt] at h; exact h
  have hColL : ∀ w1, Tabs w1 → low ≤ w1.heap.size → Calls Tryd.prog 20 #[.string (runesBytes L)] w1 fun e w' => e = .returned (.int .i64 (cols L)) ∧ Below w1.heap.size w1 w' := fun w1 h1 h2 => by
    have h := columns_any (runesBytes L) w1 h1 h2 (by omega); rw [hLt] at h; exact h
  have hColF : ∀ w1, Tabs w1 → low ≤ w1.heap.size → Calls Tryd.prog 20 #[.string (runesBytes F)] w1 fun e w' => e = .returned (.int .i64 n) ∧ Below w1.heap.size w1 w' := fun w1 h1 h2 => by
    have h := columns_any (runesBytes F) w1 h1 h2 (by omega); rw [hFt, hfc] at h; exact h
  have hCutC : ∀ w1, Tabs w1 → low ≤ w1.heap.size → Calls Tryd.prog 22 #[.string (runesBytes C), .int .i64 n] w1 fun e w' => e = .returned (.string (runesBytes C)) ∧ Below w1.heap.size w1 w' := fun w1 h1 h2 => by
    have h := cut_any (runesBytes C) n w1 h1 h2 (by omega); rw [hCt, hca] at h; exact h
  have hLeftL : ∀ w1, Tabs w1 → low ≤ w1.heap.size → Calls Tryd.prog 24 #[.string (runesBytes L), .int .i64 n] w1 fun e w' => e = .returned (.string (runesBytes L)) ∧ Below w1.heap.size w1 w' := fun w1 h1 h2 => by
    have h := cutLeft_any (runesBytes L) n w1 h1 h2 (by omega); rw [hLt, hla] at h; exact h
  have hCutF : ∀ w1, Tabs w1 → low ≤ w1.heap.size → Calls Tryd.prog 22 #[.string (runesBytes F), .int .i64 n] w1 fun e w' => e = .returned (.string (runesBytes F)) ∧ Below w1.heap.size w1 w' := fun w1 h1 h2 => by
    have h := cut_any (runesBytes F) n w1 h1 h2 (by omega); rw [hFt, hfa] at h; exact h
  have K1 := Lib.hid hpick
  have K2 := Lib.hid hcutc
  have K3 := Lib.hid hleftc
  have K4 := Lib.hid hcolc
  have K5 := Lib.hid hfitc
  have K6 := Lib.hid hColC
  have K7 := Lib.hid hColL
  have K8 := Lib.hid hColF
  have K9 := Lib.hid hCutC
  have K10 := Lib.hid hLeftL
  have K11 := Lib.hid hCutF
  have hcb := cols_bd ns
  clear hpick hcutc hleftc hcolc hfitc hColC hColL hColF hCutC hLeftL hCutF hCt hLt hFt hfa hca hla hfc hpre hgood hcg hlg hfg
  obtain ⟨hex, hsz2⟩ := hext
  have hn1 := hn.1
  have hn2 := hn.2
  clear hn
  have main : ∀ (a b wc : Int), (hca : cols C = a) → (hla : cols L = b) → (hwc : cols ns = wc) → 0 ≤ wc → wc ≤ 2097152 → a ≤ n → b ≤ n → ((wc < n ∧ a = wc ∧ b = wc) ∨ (wc = n ∧ a = wc ∧ b = wc) ∨ (n < wc ∧ n - 1 ≤ a ∧ n - 1 ≤ b)) →
      Calls Tryd.prog 7 #[.string s, .int .i64 c0] w fun e w' => e = .returned (.bool true) ∧ Below w.heap.size w w' := by
    intro a b wc ha hb hwc q1 q2 q3 q4 q5
    rw [ha] at K6
    rw [hb] at K7
    rw [hwc] at K4
    clear ha hb hwc hcc hlc hway hcb hCs hLs hFs hFl2 hfl hcgl hlgl
    generalize runesBytes C = tC at *
    generalize runesBytes L = tL at *
    generalize runesBytes F = tF at *
    rcases q5 with ⟨q6, rfl, rfl⟩ | ⟨rfl, rfl, rfl⟩ | ⟨q6, q7, q8⟩
    all_goals
      go_enter Tryd.func7, Tryd.ntmps7
      go_wp2_with fail
      refine (shown_any w ht hlow).mono ?_
      rintro e w1 ⟨rfl, hb1⟩
      go_wp2_with fail
      refine (K1.out w1).mono ?_
      rintro e w1' ⟨rfl, rfl⟩
      go_wp2_with fail
      refine (K2.out w1 (ht.below hb1 hlow) (Nat.le_trans hlow hb1.size)).mono ?_
      rintro e w2 ⟨rfl, h2⟩
      have hb2 := hb1.trans (h2.mono hb1.size)
      clear hb1 h2
      go_wp2_with fail
      refine (K3.out w2 (ht.below hb2 hlow) (Nat.le_trans hlow hb2.size)).mono ?_
      rintro e w3 ⟨rfl, h3⟩
      have hb3 := hb2.trans (h3.mono hb2.size)
      clear hb2 h3
      go_wp2_with fail
      refine (K4.out w3 (ht.below hb3 hlow) (Nat.le_trans hlow hb3.size)).mono ?_
      rintro e w4 ⟨rfl, h4⟩
      have hb4 := hb3.trans (h4.mono hb3.size)
      clear hb3 h4
      go_wp2_with fail
      refine (K6.out w4 (ht.below hb4 hlow) (Nat.le_trans hlow hb4.size)).mono ?_
      rintro e w5 ⟨rfl, h5⟩
      have hb5 := hb4.trans (h5.mono hb4.size)
      clear hb4 h5
      go_wp2_with fail
      refine (K7.out w5 (ht.below hb5 hlow) (Nat.le_trans hlow hb5.size)).mono ?_
      rintro e w6 ⟨rfl, h6⟩
      have hb6 := hb5.trans (h6.mono hb5.size)
      clear hb5 h6
      go_wp2_with fail
      refine (K5.out w6 (ht.below hb6 hlow) (Nat.le_trans hlow hb6.size)).mono ?_
      rintro e w7 ⟨rfl, h7⟩
      have hb7 := hb6.trans (h7.mono hb6.size)
      clear hb6 h7
      go_wp2_with fail
      refine (K8.out w7 (ht.below hb7 hlow) (Nat.le_trans hlow hb7.size)).mono ?_
      rintro e w8 ⟨rfl, h8⟩
      have hb8 := hb7.trans (h8.mono hb7.size)
      clear hb7 h8
      go_wp2_with fail
      refine (K9.out w8 (ht.below hb8 hlow) (Nat.le_trans hlow hb8.size)).mono ?_
      rintro e w9 ⟨rfl, h9⟩
      have hb9 := hb8.trans (h9.mono hb8.size)
      clear hb8 h9
      go_wp2_with fail
      refine (K10.out w9 (ht.below hb9 hlow) (Nat.le_trans hlow hb9.size)).mono ?_
      rintro e w10 ⟨rfl, h10⟩
      have hb10 := hb9.trans (h10.mono hb9.size)
      clear hb9 h10
      go_wp2_with fail
      refine (K11.out w10 (ht.below hb10 hlow) (Nat.le_trans hlow hb10.size)).mono ?_
      rintro e w11 ⟨rfl, h11⟩
      have hb11 := hb10.trans (h11.mono hb10.size)
      clear hb10 h11
      go_wp2_with fail
      go_ret
      exact ⟨rfl, hb11⟩
  refine main _ _ _ rfl rfl rfl hcb.1 (by omega) hcc hlc ?_
  rcases hway with ⟨h1, h2, h3⟩ | h
  · by_cases h4 : cols ns = n
    · exact .inr (.inl ⟨h4, by rw [h2], by rw [h3]⟩)
    · exact .inl ⟨by omega, by rw [h2], by rw [h3]⟩
  · exact .inr (.inr h)

namespace LawCellCuts
theorem contract (H : Type) (enc : TypeId × Value → H) (W : World) (base : Nat) (args : Array Value) (ds gs : List (DataW H)) (before : List MemPlace)
    (hval : ∀ (j : Nat) t v, Tryd.f7.params[j]? = some t → args[j]? = some v → Value.okWide Tryd.prog W .any base t v)
    (hW : DataW.Whole enc Tryd.prog Tryd.f7.params.toList Rows.cellCutsSpec.vars false W args.toList ds gs before) (hL : laidMetH Tryd.prog Rows.cellCutsRow.laid W) (hk : Rows.uptoSmall H (ds ++ gs) = true) :
    Calls Tryd.prog 7 args W fun e W' => ∃ v, e = .returned v ∧ Rows.cellCutsSpec.post enc Tryd.prog Tryd.f7 false true false false W args v W' := by
  have hW' := hW
  obtain ⟨p, q, hA0, hV, hbefore, hfz, hnd⟩ := hW
  have hA : DataW.TrodAll enc Tryd.prog W 0 (fun _ => true) true Tryd.f7.params.toList args.toList ds p := hA0
  rw [Tryd.params7] at hA hval
  obtain ⟨v0, vs0, d0, ds0, p0, q0, hargs, rfl, rfl, h0, r0⟩ := trodAll_cons hA
  obtain ⟨v1, vs1, d1, ds1, p1, q1, rfl, rfl, rfl, h1, r1⟩ := trodAll_cons r0
  obtain ⟨rfl, rfl, rfl⟩ := trodAll_nil r1
  obtain rfl : args = #[v0, v1] := by cases args; simp_all
  obtain ⟨rfl, rfl⟩ := trodVars_none hV
  have fin : ∀ W' : World, Below W.heap.size W W' → Rows.cellCutsSpec.post enc Tryd.prog Tryd.f7 false true false false W #[v0, v1] (.bool true) W' := fun W' hb =>
    Post.law_post (by kernel_rfl) (by kernel_rfl) rfl (by kernel_rfl) Tryd.underlying4 hW' rfl hb
  obtain ⟨s, rfl, rfl, rfl, hsm⟩ := open_string Tryd.underlying9 (hval 0 9 v0 rfl rfl) h0
  obtain ⟨n, rfl, rfl, rfl, wn⟩ := open_int Tryd.underlying3 (hval 1 3 v1 rfl rfl) h1
  have hbd : -9223372036854775808 ≤ n ∧ n ≤ 9223372036854775807 := by
    simp [Lit.wf, IntKind.min, IntKind.max, IntKind.signed, IntKind.bits] at wn
    exact wn
  have hsz : s.size ≤ 1048576 := by
    have h : Rows.uptoBulkAll ([DataW.lit (H := H) (.string s.data.toList), .lit (.int .i64 n)] ++ []) ≤ 1048576 := of_decide_eq_true hk
    simp only [List.append_nil, Rows.uptoBulkAll, Rows.uptoBulk] at h
    have e : s.data.toList.length = s.size := by rw [Array.length_toList]; rfl
    omega
  clear hA0 hA
  refine (lawCuts_walk s n W (tabs_of hL).1 (tabs_of hL).2 hsz hbd.1 hbd.2).mono fun e W' ⟨he, hg⟩ => ?_
  subst he
  exact ⟨_, rfl, fin W' hg⟩

theorem laid_met (os : Os) : laidMet Tryd.prog Rows.cellCutsRow.laid ((laidWorld os).forCall (fun _ _ => 0) ⟨#[], #[Value.string .empty, Value.int .i64 0], []⟩).memory :=
  laidMet_of_run' 8 (by kernel_rfl) (by kernel_rfl)
theorem reads (os : Os) {H : Type} (enc : TypeId × Value → H) : ∃ places, DataW.whole enc Tryd.prog ((laidWorld os).forCall (fun _ _ => 0) ⟨#[], #[Value.string .empty, Value.int .i64 0], []⟩).memory Tryd.f7.params.toList Rows.cellCutsSpec.vars false #[Value.string .empty, Value.int .i64 0].toList 8 = some ([.lit (.string []), .lit (.int .i64 0)], [], places) :=
  ⟨[], by kernel_rfl⟩

set_option maxRecDepth 100000 in
theorem lifted (os : Os) (started : os.Started) (H : Type) (enc : TypeId × Value → H) (F : Stop.Interp) :
    ReturnsInHanded {} Tryd.checked os 7 .any ((Rows.OpenSpec.upto Rows.cellCutsSpec).preRow enc Tryd.prog Tryd.f7 Rows.cellCutsUptoRow.domain false Rows.cellCutsUptoRow.laid) (((Rows.OpenSpec.upto Rows.cellCutsSpec).at F).post enc Tryd.prog Tryd.f7 false true false false) := by
  obtain ⟨places, hx⟩ := reads os enc
  refine returnsInHanded_of_row (C := Tryd.checked) (s := Rows.OpenSpec.upto Rows.cellCutsSpec) own started (by kernel_rfl) Tryd.func7
    (witness_row_at (enc := enc) (C := Tryd.checked) false (laidWorld os) #[Value.string .empty, Value.int .i64 0] rfl (by kernel_rfl) (by kernel_rfl) (by kernel_rfl)
      (OpenSpec.preRow_of_cond 8 hx (by kernel_rfl) (fun k hk => by cases hk; kernel_rfl) (by kernel_rfl) (laid_met os))) ?_
  intro W base args ds gs before hval hW _ hcond _ hL _ _
  exact contract H enc W base args ds gs before hval hW hL (hcond _ rfl)

theorem said : Rows.CellCutsUptoSaid :=
  OpenClaim.holds_of_cond 7 Tryd.f7 rfl rfl rfl rfl rfl rfl rfl ⟨rfl, rfl, rfl, rfl, rfl⟩ rfl rfl rfl rfl rfl (by kernel_rfl) Tryd.func7 (by kernel_rfl)
    (of_decide_eq_true (by kernel_rfl)) (by unfold Func.isWrapper; first | (rw [if_pos (by decide +kernel)]; kernel_rfl) | (rw [if_neg (by decide +kernel)]; exact ⟨rfl, rfl⟩))
    (fun os started H enc _ F => by rw [OpenClaim.pre_eq_preRow]; exact lifted os started H enc F)

/-- No parameter wants a stand-in; the program's own looks are off. -/
theorem plain (f : FuncId) (fn : Func) (hf : Tryd.pinned.checked.prog.funcNamed Rows.cellCutsRow.func = some f) (hfn : Tryd.pinned.checked.prog.funcs[f]? = some fn) :
    false = Tryd.pinned.checked.prog.looks [] ∧ ∀ (j : Nat) t, fn.params[j]? = some t → Tryd.pinned.checked.prog.wantsStandIn t = false := by
  obtain rfl : f = 7 := Option.some.inj ((show Tryd.prog.funcNamed Rows.cellCutsRow.func = some 7 by kernel_rfl).symm.trans hf) |>.symm
  obtain rfl : fn = Tryd.f7 := (Option.some.inj (Tryd.func7.symm.trans hfn)).symm
  refine ⟨by kernel_rfl, fun j t ht => ?_⟩
  rw [Tryd.params7] at ht
  have hm : t ∈ [9, 3] := by simpa using Array.mem_of_getElem? ht
  have hall : ([9, 3].all fun u => !Tryd.prog.wantsStandIn u) = true := by kernel_rfl
  exact (show Tryd.prog.wantsStandIn t = false by simpa using List.all_eq_true.1 hall t hm)

theorem card : Rows.CellCutsUptoCardSaid :=
  Claim7.holds_tied_plain_at .later [] _ _ _ _ said (fun _ h => by cases h) (by kernel_rfl) (fun _ h => by cases h) cellCutsUpto_row_tie rfl ⟨rfl, rfl⟩ (by kernel_rfl) rfl plain (by kernel_rfl)
end LawCellCuts
end Go.Proofs.YtmnembhfbboljaaDoor.Cel
