/- CellBack: runes that can be written come back, from a text at once and byte by byte; no condition beyond the program's own tables, tied to its text. -/
import Derived.Test.YtmnembhfbboljaaDoorApp
import Derived.Test.YtmnembhfbboljaaDoorPick
import Derived.Test.YtmnembhfbboljaaDoorLaid
import Derived.Test.YtmnembhfbboljaaDoorPost
namespace Go.Proofs.YtmnembhfbboljaaDoor.Cel
open Go.RowKit Go.ChangeShapes Go.WideShapes Go.ChangeAt

/-- An argument's numbers, one by one. -/
def Nums (w : World) (A : Option Addr) (n : Nat) : Prop := ∀ k, k < n → ∃ (b off : Nat) (z : Int), A = some ⟨b, off, none⟩ ∧ w.cell? ⟨b, off + k, none⟩ = some (.int .i64 z) ∧ -9223372036854775808 ≤ z ∧ z ≤ 9223372036854775807
theorem Nums.below {w w' : World} {A : Option Addr} {n : Nat} (h : Nums w A n) (hb : Below w.heap.size w w') : Nums w' A n := fun k hk => by
  obtain ⟨b, off, z, h1, h2, h3, h4⟩ := h k hk
  exact ⟨b, off, z, h1, (hb.cell (World.block_lt_of_cell? w _ h2)).trans h2, h3, h4⟩

theorem text_sz (L : List Int) : (runesBytes L).size ≤ 4 * L.length := runesBytes_size_le L
theorem text_back (L : List Int) (h : ∀ r ∈ L, good r) : runes (runesBytes L).data.toList = L := by rw [runesBytes_list, runes_bytes L h]
theorem fed_all (L : List Int) (h : ∀ r ∈ L, good r) : run zero (runesBytes L).data.toList = (zero, L) := by
  rw [runesBytes_list]
  have e := run_bytes L [] h
  rw [List.append_nil] at e
  rw [e]
  simp [run]

set_option maxRecDepth 100000 in
set_option maxHeartbeats 2000000 in
theorem lawBack_walk (A : Option Addr) (n c : Nat) (w : World) (ht : Tabs w) (hlow : low ≤ w.heap.size) (hA : Nums w A n) (hn : n ≤ 9223372036854775807) :
    Calls Tryd.prog 6 #[.slice A n c] w fun e w' => e = .returned (.bool true) ∧ Below w.heap.size w w' := by
  go_enter Tryd.func6, Tryd.ntmps6
  go_wp2_with fail
  refine (shown_any w ht hlow).mono ?_
  rintro e w1 ⟨rfl, hb1⟩
  have hs1 := hb1.size
  go_wp2_with fail
  go_loopw [4, 5] (fun v i wr => ∃ (k : Nat) (L : List Int), i = .int .i64 k ∧ L.length = k ∧ k ≤ 300 ∧ k ≤ n ∧ Hid (∀ r ∈ L, good r) ∧ Owns wr w.heap.size v L ∧ Below w.heap.size w wr) (fun _ i _ => 300 - (intOf i).toNat)
  case atStart => exact ⟨0, [], rfl, rfl, by omega, by omega, Lib.hid (fun r hr => by cases hr), owns_nil _ _, hb1⟩
  case round =>
    obtain ⟨k, L, rfl, hLk, hk3, hkn, HG, hown, hb⟩ := hrel
    have hbs := hb.size
    by_cases hdone : k < n ∧ k < 300
    · obtain ⟨hlt, hlt3⟩ := hdone
      obtain ⟨b, off, z, rfl, hc, hz0, hz1⟩ := hA.below hb k hlt
      have hp := picked_bd z 1112064 (by omega)
      have hpick := pick_any z 1112064 wr (by omega) (by omega) hz0 hz1
      generalize picked z 1112064 = p at *
      have hp0 := hp.1
      have hp1 := hp.2
      have hlen : L.length ≤ 1099511627776 := by omega
      have i1 : (0 : Int) ≤ (k : Int) := by omega
      have i2 : (k : Int) < (n : Int) := by omega
      clear hp hA
      by_cases hq : p < 55296
      · go_wp2_with (first
          | (go_at_call 28; refine hpick.mono ?_; rintro e w' ⟨rfl, rfl⟩)
          | (at_builtin; refine wpList_append_rune rfl (.tmp 34) (.tmp 36) rfl w.heap.size _ L p 1 rfl hown rfl hbs hlen ?_; intro v' w2 hown2 hk2 hat2))
        go_roundw
        case rel =>
          refine ⟨k + 1, L ++ [p], by go_num, by rw [List.length_append, hLk]; rfl, by omega, by omega, ?_, hown2, hb.trans (hk2.below hbs fun j hj hh => by have := (hown.lt j hh).1; omega)⟩
          refine Lib.hid fun r hr => ?_
          rcases List.mem_append.1 hr with hr | hr
          · exact HG.out r hr
          · simp at hr; subst hr; unfold good; omega
        case measure => simp [intOf]; omega
      · go_wp2_with (first
          | (go_at_call 28; refine hpick.mono ?_; rintro e w' ⟨rfl, rfl⟩)
          | (at_builtin; refine wpList_append_rune rfl (.tmp 34) (.tmp 36) rfl w.heap.size _ L (p + 2048) 1 rfl hown rfl hbs hlen ?_; intro v' w2 hown2 hk2 hat2))
        go_roundw
        case rel =>
          refine ⟨k + 1, L ++ [p + 2048], by go_num, by rw [List.length_append, hLk]; rfl, by omega, by omega, ?_, hown2, hb.trans (hk2.below hbs fun j hj hh => by have := (hown.lt j hh).1; omega)⟩
          refine Lib.hid fun r hr => ?_
          rcases List.mem_append.1 hr with hr | hr
          · exact HG.out r hr
          · simp at hr; subst hr; unfold good; omega
        case measure => simp [intOf]; omega
    · have hw : (¬ k < n) ∨ (k < n ∧ ¬ k < 300) := by omega
      have hgoodL := HG.out
      have hsz := text_sz L
      have hLl : L.length ≤ 300 := by omega
      have hS := fed_all L hgoodL
      have hR := text_back L hgoodL
      have hcv := convert_owned hown
      obtain ⟨S, hSS⟩ : ∃ S, runesBytes L = S := ⟨_, rfl⟩
      rw [hSS] at hsz hS hR hcv
      have KS := Lib.hid hS
      have KR := Lib.hid hR
      clear hS hR hSS hgoodL HG hA hdone
      obtain ⟨wo, rfl⟩ : ∃ wo : World, wo = wr := ⟨_, rfl⟩
      have hlowr := Nat.le_trans hlow hbs
      have htr : Tabs wo := ht.below hb hlow
      have hnewA : At (wo.alloc (.cells zero.cells 45)) wo.heap.size zero := Blk.new _ _ _
      have hnewB : Below wo.heap.size wo (wo.alloc (.cells zero.cells 45)) := (Below.refl _ _).alloc (Nat.le_refl _) _
      have hnewS : wo.heap.size + 1 ≤ (wo.alloc (.cells zero.cells 45)).heap.size := by simp
      have hSlen : S.data.toList.length = S.size := by rw [Array.length_toList]; rfl
      have KL := Lib.hid hSlen
      clear hSlen
      rcases hw with hlt | ⟨hlt, hlt3⟩
      all_goals
        go_wp2_with (go_at_call 10; refine (new_any wo).mono ?_; rintro e w3 ⟨rfl, hw3⟩; rw [hw3] at hnewA hnewB hnewS; clear hw3)
        go_loopw [9, 10] (fun v i wr => ∃ j : Nat, j ≤ S.size ∧ i = .int .i64 j ∧ At wr wo.heap.size (run zero (S.data.toList.take j)).1 ∧ Owns wr (wo.heap.size + 1) v (run zero (S.data.toList.take j)).2 ∧ Below wo.heap.size wo wr ∧ wo.heap.size + 1 ≤ wr.heap.size) (fun _ i _ => S.size - (intOf i).toNat)
        case atStart => exact ⟨0, Nat.zero_le _, rfl, hnewA, owns_nil _ _, hnewB, hnewS⟩
        case round =>
          obtain ⟨j, hj, rfl, hat, ho, hbj, hlj⟩ := hrel
          have hti := run_inv (S.data.toList.take j) zero inv_zero
          have htc := run_count (S.data.toList.take j) zero inv_zero
          have htl : (S.data.toList.take j).length ≤ j := List.length_take_le _ _
          have hp0 : pend zero = 0 := by simp [pend, zero]
          have htrj : Tabs wr := htr.below hbj hlowr
          by_cases hjs : j < S.size
          · have hby := byte_le S[j]
            have HT : Hid (run zero (S.data.toList.take (j + 1)) = ((step (run zero (S.data.toList.take j)).1 (S[j].toNat : Int)).1, (run zero (S.data.toList.take j)).2 ++ (step (run zero (S.data.toList.take j)).1 (S[j].toNat : Int)).2)) := by
              show _ = _
              rw [take_succ_bytes S j hjs, run_snoc]
            have hsc := step_count (run zero (S.data.toList.take j)).1 (S[j].toNat : Int)
            have hpd : pend (run zero (S.data.toList.take j)).1 ≤ 1 := by unfold pend; split <;> omega
            have hlen2 : (run zero (S.data.toList.take j)).2.length + (step (run zero (S.data.toList.take j)).1 (S[j].toNat : Int)).2.length ≤ 1099511627776 := by omega
            have hg := feed_any _ hti.1 wo.heap.size (S[j].toNat : Int) wr htrj hat (Nat.le_trans hlowr (Nat.le_trans (Nat.le_succ _) hlj)) hlowr hby.1 hby.2
            clear hti htc htl hp0 hsc hpd
            go_wp2_with (first
              | (go_at_call 12; refine hg.mono ?_; rintro e w4 ⟨v4, rfl, h1, h2, h3⟩; have ho4 := h3.owns ho (fun q hq hh => by have := (ho.lt q hq).1; omega); have hs4 := h3.size)
              | (at_builtin; refine wpList_append_list rfl (.tmp 53) (.tmp 58) rfl (wo.heap.size + 1) _ _ v4 _ _ rfl ho4 rfl h2 (Nat.le_trans hlj hs4) hlen2 ?_; intro v5 w5 ho5 hk5 hat5))
            go_roundw
            case rel =>
              refine ⟨j + 1, by omega, by go_num, ?_, by rw [HT.out]; exact ho5, (hbj.trans (h3.below (Nat.le_trans (Nat.le_succ _) hlj) fun q hq hh => by omega)).trans (hk5.below (Nat.le_trans (Nat.le_trans (Nat.le_succ _) hlj) hs4) fun q hq hh => by have := (ho4.lt q hh).1; omega), Nat.le_trans hlj (Nat.le_trans hs4 hk5.size)⟩
              rw [HT.out]
              exact hk5.blk h1 fun hh => by have := (ho4.lt _ hh).1; omega
            case measure => simp [intOf]; omega
          · have HT : Hid (S.data.toList.take j = S.data.toList) := by show _ = _; exact List.take_of_length_le (by rw [KL.out]; omega)
            rw [HT.out, KS.out] at hat ho
            have hbw := hb.trans (hbj.mono hbs)
            have hlow2 := Nat.le_trans hlowr (Nat.le_trans (Nat.le_succ _) hlj)
            have hownL := (below_kept hbj fun _ => False).owns hown fun _ _ h => h
            have hsame := same_owned _ _ _ _ L L wr ho hownL (by omega) true (by simp)
            have hrun := fun w5 (h5 : Below wr.heap.size wr w5) => runes_any S w5 (htrj.below h5 hlow2) (Nat.le_trans hlow2 h5.size) (by omega)
            rw [KR.out] at hrun
            have KU := Lib.hid hrun
            clear hti htc htl hp0 hrun
            go_wp2_with fail
            refine hsame.mono ?_
            rintro e w5 ⟨rfl, h5⟩
            go_wp2_with fail
            refine (KU.out w5 h5).mono ?_
            rintro e w6 ⟨v6, rfl, ho6, h6⟩
            have h56 := h5.trans (h6.mono h5.size)
            have hownL6 := (below_kept h56 fun _ => False).owns hownL fun _ _ h => h
            go_wp2_with fail
            refine (same_owned _ _ _ _ L L w6 ho6 hownL6 (by omega) true (by simp)).mono ?_
            rintro e w7 ⟨rfl, h7⟩
            have h57 := h56.trans (h7.mono h56.size)
            have hat7 := hat.below h57 hat.lt
            go_wp2_with fail
            refine (pending_any wo.heap.size zero w7 hat7).mono ?_
            rintro e w7' ⟨rfl, rfl⟩
            go_wp2_with fail
            refine (end_any zero inv_zero wo.heap.size w7 hat7).mono ?_
            rintro e w8 ⟨v8, rfl, _, ho8, hk8⟩
            obtain ⟨A8, c8, rfl, _, _⟩ := Owns.rd ho8
            have hl0 : (lost zero).length = 0 := rfl
            go_wp2_with fail
            go_ret
            exact ⟨rfl, (hbw.trans (h57.mono hbw.size)).trans (hk8.below (Nat.le_trans hbw.size h57.size) fun q hq hh => by omega)⟩

namespace LawCellBack
theorem contract (H : Type) (enc : TypeId × Value → H) (W : World) (base : Nat) (args : Array Value) (ds gs : List (DataW H)) (before : List MemPlace)
    (hval : ∀ (j : Nat) t v, Tryd.f6.params[j]? = some t → args[j]? = some v → Value.okWide Tryd.prog W .any base t v)
    (hW : DataW.Whole enc Tryd.prog Tryd.f6.params.toList Rows.cellBackSpec.vars false W args.toList ds gs before) (hL : laidMetH Tryd.prog Rows.cellBackRow.laid W) :
    Calls Tryd.prog 6 args W fun e W' => ∃ v, e = .returned v ∧ Rows.cellBackSpec.post enc Tryd.prog Tryd.f6 false true false false W args v W' := by
  have hW' := hW
  obtain ⟨p, q, hA0, hV, hbefore, hfz, hnd⟩ := hW
  have hA : DataW.TrodAll enc Tryd.prog W 0 (fun _ => true) true Tryd.f6.params.toList args.toList ds p := hA0
  rw [Tryd.params6] at hA hval
  obtain ⟨v0, vs0, d0, ds0, p0, q0, hargs, rfl, rfl, h0, r0⟩ := trodAll_cons hA
  obtain ⟨rfl, rfl, rfl⟩ := trodAll_nil r0
  obtain rfl : args = #[v0] := by cases args; simp_all
  obtain ⟨rfl, rfl⟩ := trodVars_none hV
  have fin : ∀ W' : World, Below W.heap.size W W' → Rows.cellBackSpec.post enc Tryd.prog Tryd.f6 false true false false W #[v0] (.bool true) W' := fun W' hb =>
    Post.law_post (by kernel_rfl) (by kernel_rfl) rfl (by kernel_rfl) Tryd.underlying4 hW' rfl hb
  obtain ⟨a0, len, cap, rfl⟩ := okWide_slice Tryd.underlying40 (hval 0 40 v0 rfl rfl)
  obtain ⟨fuel, hf⟩ := h0
  obtain ⟨hnums, hmax⟩ : Nums W a0 len ∧ len ≤ 9223372036854775807 := by
    rcases open_ints Tryd.underlying40 Tryd.underlying3 (by kernel_rfl) hf with ⟨hcs, hx⟩ | ⟨a, len', cap', ys, hcs, _, hl, hm, hz, hx, hcell, hwz⟩
    · simp [Value.cells] at hcs
      obtain ⟨rfl, rfl, rfl⟩ := hcs
      exact ⟨fun k hk => absurd hk (by omega), by omega⟩
    · simp [Value.cells] at hcs
      obtain ⟨rfl, rfl, rfl⟩ := hcs
      have hzl : len ≤ ys.length := by
        rw [hz]; split <;> omega
      unfold maxLen at hm
      refine ⟨fun k hk => ?_, by omega⟩
      obtain ⟨b, off, rfl, hc⟩ := ints_at hcell (show 0 < ys.length by omega)
      refine ⟨b, off, ys.getD k 0, rfl, hc k (by omega), ?_⟩
      have hmem : ys.getD k 0 ∈ ys := by
        rw [List.getD_eq_getElem?_getD, List.getElem?_eq_getElem (by omega), Option.getD_some]
        exact List.getElem_mem _
      have := hwz _ hmem
      simp [Lit.wf, IntKind.min, IntKind.max, IntKind.signed, IntKind.bits] at this
      simpa using this
  clear hA0 hA
  refine (lawBack_walk a0 len cap W (tabs_of hL).1 (tabs_of hL).2 hnums hmax).mono fun e W' ⟨he, hg⟩ => ?_
  subst he
  exact ⟨_, rfl, fin W' hg⟩

theorem laid_met (os : Os) : laidMet Tryd.prog Rows.cellBackRow.laid ((laidWorld os).forCall (fun _ _ => 0) ⟨#[], #[Value.slice none 0 0], []⟩).memory :=
  laidMet_of_run' 8 (by kernel_rfl) (by kernel_rfl)
theorem reads (os : Os) {H : Type} (enc : TypeId × Value → H) : ∃ places, DataW.whole enc Tryd.prog ((laidWorld os).forCall (fun _ _ => 0) ⟨#[], #[Value.slice none 0 0], []⟩).memory Tryd.f6.params.toList Rows.cellBackSpec.vars false #[Value.slice none 0 0].toList 8 = some ([.nil], [], places) :=
  ⟨[], by kernel_rfl⟩

set_option maxRecDepth 100000 in
theorem lifted (os : Os) (started : os.Started) (H : Type) (enc : TypeId × Value → H) (F : Stop.Interp) :
    ReturnsInHanded {} Tryd.checked os 6 .any ((OpenSpec.ofChange Rows.cellBackSpec).preRow enc Tryd.prog Tryd.f6 Rows.cellBackRow.domain false Rows.cellBackRow.laid) (((OpenSpec.ofChange Rows.cellBackSpec).at F).post enc Tryd.prog Tryd.f6 false true false false) := by
  obtain ⟨places, hx⟩ := reads os enc
  refine returnsInHanded_of_row (C := Tryd.checked) (s := OpenSpec.ofChange Rows.cellBackSpec) own started (by kernel_rfl) Tryd.func6
    (witness_row_at (enc := enc) (C := Tryd.checked) false (laidWorld os) #[Value.slice none 0 0] rfl (by kernel_rfl) (by kernel_rfl) (by kernel_rfl)
      (OpenSpec.preRow_of_cond 8 hx (by kernel_rfl) (fun k hk => by cases hk) (by kernel_rfl) (laid_met os))) ?_
  intro W base args ds gs before hval hW _ _ _ hL _ _
  exact contract H enc W base args ds gs before hval hW hL

theorem said : Rows.CellBackSaid :=
  OpenClaim.holds_of_cond 6 Tryd.f6 rfl rfl rfl rfl rfl rfl rfl ⟨rfl, rfl, rfl, rfl, rfl⟩ rfl rfl rfl rfl rfl (by kernel_rfl) Tryd.func6 (by kernel_rfl)
    (of_decide_eq_true (by kernel_rfl)) (by unfold Func.isWrapper; first | (rw [if_pos (by decide +kernel)]; kernel_rfl) | (rw [if_neg (by decide +kernel)]; exact ⟨rfl, rfl⟩))
    (fun os started H enc _ F => by rw [OpenClaim.pre_eq_preRow]; exact lifted os started H enc F)

/-- No parameter wants a stand-in; the program's own looks are off. -/
theorem plain (f : FuncId) (fn : Func) (hf : Tryd.pinned.checked.prog.funcNamed Rows.cellBackRow.func = some f) (hfn : Tryd.pinned.checked.prog.funcs[f]? = some fn) :
    false = Tryd.pinned.checked.prog.looks [] ∧ ∀ (j : Nat) t, fn.params[j]? = some t → Tryd.pinned.checked.prog.wantsStandIn t = false := by
  obtain rfl : f = 6 := Option.some.inj ((show Tryd.prog.funcNamed Rows.cellBackRow.func = some 6 by kernel_rfl).symm.trans hf) |>.symm
  obtain rfl : fn = Tryd.f6 := (Option.some.inj (Tryd.func6.symm.trans hfn)).symm
  refine ⟨by kernel_rfl, fun j t ht => ?_⟩
  rw [Tryd.params6] at ht
  have hm : t ∈ [40] := by simpa using Array.mem_of_getElem? ht
  have hall : ([40].all fun u => !Tryd.prog.wantsStandIn u) = true := by kernel_rfl
  exact (show Tryd.prog.wantsStandIn t = false by simpa using List.all_eq_true.1 hall t hm)

theorem card : Rows.CellBackCardSaid :=
  Claim7.holds_tied_plain_at .later [] _ _ _ _ said (fun _ h => by cases h) (by kernel_rfl) (fun _ h => by cases h) cellBack_row_tie rfl ⟨rfl, rfl⟩ (by kernel_rfl) rfl plain (by kernel_rfl)
end LawCellBack
end Go.Proofs.YtmnembhfbboljaaDoor.Cel
