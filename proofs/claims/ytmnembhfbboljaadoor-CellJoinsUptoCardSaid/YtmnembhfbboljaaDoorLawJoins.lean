/- CellJoins, for arguments of bulk at most 1048576: the runes of two texts, one behind the other, are the runes of both, and so their columns, where the first is made of whole runes; the program's tables are tied to its text. -/
import Derived.Test.YtmnembhfbboljaaDoorApp
import Derived.Test.YtmnembhfbboljaaDoorLaid
import Derived.Test.YtmnembhfbboljaaDoorPost
import Derived.ShutString
namespace Go.Proofs.YtmnembhfbboljaaDoor.Cel
open Go.RowKit Go.ChangeShapes Go.WideShapes Go.ChangeAt
open Go.ChangeMaps (open_string)

theorem bulk_len {H : Type} (k : IntKind) : ∀ ys : List Int, ys.length ≤ Rows.uptoBulkAll (lits (H := H) k ys)
  | [] => by simp [lits]
  | y :: ys => by
    have ih := bulk_len (H := H) k ys
    unfold lits at ih ⊢
    simp only [List.map_cons, Rows.uptoBulkAll, Rows.uptoBulk, List.length_cons]
    omega
theorem bulk_ints {H : Type} (k : IntKind) (xs ys : List Int) : xs.length + 1 ≤ Rows.uptoBulk (DataW.slice (lits (H := H) k xs) (lits k ys)) := by
  have h := bulk_len (H := H) k xs
  simp only [Rows.uptoBulk]
  omega

theorem joins_frame {w w' : World} {o : Obj} (h : Kept (w.alloc o) w' (fun j => (Value.slice (some ⟨w.heap.size, 0, none⟩) 0 0).ownBlock = some j)) : Below w.heap.size w w' :=
  (((Kept.refl w (fun _ => False)).alloc o).trans h fun i hi hj => by simp [Value.ownBlock] at hj; omega).below (Nat.le_refl _) fun _ _ h => h

set_option maxRecDepth 100000 in
set_option maxHeartbeats 1000000 in
theorem lawJoins_walk (va : Value) (ns : List Int) (b : ByteArray) (w : World) (ht : Tabs w) (hlow : low ≤ w.heap.size)
    (hcv : ∀ w', Below w.heap.size w w' → (convert 27 9 va).run Tryd.prog w' = .ok (.string (runesBytes ns)) w') (hns : ns.length ≤ 1048576) (hbs : b.size ≤ 1048576) :
    Calls Tryd.prog 8 #[va, .string b] w fun e w' => e = .returned (.bool true) ∧ Below w.heap.size w w' := by
  obtain ⟨S, hS⟩ : ∃ S, runesBytes ns = S := ⟨_, rfl⟩
  have hSl : S.data.toList = bytes ns := by rw [← hS]; exact runesBytes_list ns
  have hSs : S.size ≤ 4194304 := by rw [← hS]; have := runesBytes_size_le ns; omega
  rw [hS] at hcv
  have hx : runes S.data.toList = ns.map mend := by rw [hSl]; exact runes_any_bytes0 ns
  have hz : runes (S ++ b).data.toList = ns.map mend ++ runes b.data.toList := by
    rw [ByteArray.data_append, Array.toList_append, hSl]
    exact runes_any_bytes ns _
  have hzs : (S ++ b).size ≤ 1099511626000 := by rw [ByteArray.size_append]; omega
  have hyl := runes_length b.data.toList
  have hyl2 : b.data.toList.length = b.size := by rw [Array.length_toList]; rfl
  have hX := Lib.hid hx
  have hZ := Lib.hid hz
  have hCV := Lib.hid hcv
  have hyb : (runes b.data.toList).length ≤ 1048576 := by omega
  have hml : (ns.map mend).length ≤ 1048576 := by rw [List.length_map]; exact hns
  have hcc : cols (runes (S ++ b).data.toList) = cols (runes S.data.toList) + cols (runes b.data.toList) := by rw [hz, hx, cols_append]
  have HCC := Lib.hid hcc
  have hcb1 := cols_bd (ns.map mend)
  have hcb2 := cols_bd (runes b.data.toList)
  clear hx hz hcv hS hSl hyl hyl2 hcc
  go_enter Tryd.func8, Tryd.ntmps8
  go_wp2_with fail
  refine (shown_any w ht hlow).mono ?_
  rintro e w1 ⟨rfl, hb1⟩
  have hcv := hCV.out w1 hb1
  go_wp2_with fail
  refine (runes_any S w1 (ht.below hb1 hlow) (Nat.le_trans hlow hb1.size) (by omega)).mono ?_
  rintro e w2 ⟨vx, rfl, hox, h2⟩
  rw [hX.out] at hox
  have hb2 := hb1.trans (h2.mono hb1.size)
  clear hb1 h2 hcv
  go_wp2_with fail
  refine (runes_any b w2 (ht.below hb2 hlow) (Nat.le_trans hlow hb2.size) (by omega)).mono ?_
  rintro e w3 ⟨vy, rfl, hoy, h3⟩
  have hox3 := (below_kept h3 fun _ => False).owns hox fun _ _ h => h
  have hb3 := hb2.trans (h3.mono hb2.size)
  clear hb2 h3 hox
  go_wp2_with fail
  refine (runes_any (S ++ b) w3 (ht.below hb3 hlow) (Nat.le_trans hlow hb3.size) hzs).mono ?_
  rintro e w4 ⟨vz, rfl, hoz, h4⟩
  rw [hZ.out] at hoz
  have hox4 := (below_kept h4 fun _ => False).owns hox3 fun _ _ h => h
  have hoy4 := (below_kept h4 fun _ => False).owns hoy fun _ _ h => h
  have hb4 := hb3.trans (h4.mono hb3.size)
  have hs4 := hb4.size
  clear hb3 h4 hox3 hoy
  have hemp : Owns (w4.alloc (.cells #[] 21)) w4.heap.size (.slice (some ⟨w4.heap.size, 0, none⟩) 0 0) [] := World.ownsRow_made w4 #[] 0 (Nat.le_refl _) (Nat.zero_le _) rfl
  go_wp2_with (first
    | (at_builtin; refine wpList_append_list rfl (.tmp 23) (.tmp 24) rfl w4.heap.size _ _ vx [] (ns.map mend) rfl hemp rfl (hox4.alloc _) (by simp) (by rw [List.length_nil]; omega) ?_; intro v5 w5 ho5 hk5 hat5; rw [List.nil_append] at ho5; have hb45 := joins_frame hk5; have hs5 := hb45.size; have hoy5 := (below_kept hb45 fun _ => False).owns hoy4 fun _ _ h => h)
    | (at_builtin; refine wpList_append_list rfl (.tmp 25) (.tmp 26) rfl w4.heap.size _ v5 vy (ns.map mend) (runes b.data.toList) rfl ho5 rfl hoy5 hs5 (by omega) ?_; intro v6 w6 ho6 hk6 hat6))
  have hb56 : Below w4.heap.size w5 w6 := hk6.below hs5 fun j hj hh => by
    have := (ho5.lt j hh).1
    omega
  have hb46 := hb45.trans hb56
  have hoz6 := (below_kept hb46 fun _ => False).owns hoz fun _ _ h => h
  have hb6 := hb4.trans (hb46.mono hs4)
  refine (same_owned vz v6 w3.heap.size w4.heap.size _ _ w6 hoz6 ho6 (by rw [List.length_append]; omega) true (by simp)).mono ?_
  rintro e w7 ⟨rfl, h7⟩
  have hb7 := hb6.trans (h7.mono hb6.size)
  clear hb6 h7 hoz6 hb46 hb56 ho6 hk6 hat6 hoy5 hb45 ho5 hk5 hat5 hoz hoy4 hox4 hemp hb4 hs4 hs5
  go_wp2_with fail
  have hc8 := columns_any (S ++ b) w7 (ht.below hb7 hlow) (Nat.le_trans hlow hb7.size) hzs
  rw [HCC.out] at hc8
  refine hc8.mono ?_
  rintro e w8 ⟨rfl, h8⟩
  have hb8 := hb7.trans (h8.mono hb7.size)
  clear hb7 h8 hc8
  go_wp2_with fail
  refine (columns_any S w8 (ht.below hb8 hlow) (Nat.le_trans hlow hb8.size) (by omega)).mono ?_
  rintro e w9 ⟨rfl, h9⟩
  have hb9 := hb8.trans (h9.mono hb8.size)
  clear hb8 h9
  go_wp2_with fail
  refine (columns_any b w9 (ht.below hb9 hlow) (Nat.le_trans hlow hb9.size) (by omega)).mono ?_
  rintro e w10 ⟨rfl, h10⟩
  have hb10 := hb9.trans (h10.mono hb9.size)
  clear hb9 h10
  have q1 := cols_bd (runes S.data.toList)
  have q2 : (runes S.data.toList).length ≤ 1048576 := by rw [hX.out]; exact hml
  go_wp2_with fail
  go_ret
  exact ⟨rfl, hb10⟩

namespace LawCellJoins
theorem contract (H : Type) (enc : TypeId × Value → H) (W : World) (base : Nat) (args : Array Value) (ds gs : List (DataW H)) (before : List MemPlace)
    (hval : ∀ (j : Nat) t v, Tryd.f8.params[j]? = some t → args[j]? = some v → Value.okWide Tryd.prog W .any base t v)
    (hW : DataW.Whole enc Tryd.prog Tryd.f8.params.toList Rows.cellJoinsSpec.vars false W args.toList ds gs before) (hL : laidMetH Tryd.prog Rows.cellJoinsRow.laid W) (hk : Rows.uptoSmall H (ds ++ gs) = true) :
    Calls Tryd.prog 8 args W fun e W' => ∃ v, e = .returned v ∧ Rows.cellJoinsSpec.post enc Tryd.prog Tryd.f8 false true false false W args v W' := by
  have hW' := hW
  obtain ⟨p, q, hA0, hV, hbefore, hfz, hnd⟩ := hW
  have hA : DataW.TrodAll enc Tryd.prog W 0 (fun _ => true) true Tryd.f8.params.toList args.toList ds p := hA0
  rw [Tryd.params8] at hA hval
  obtain ⟨v0, vs0, d0, ds0, p0, q0, hargs, rfl, rfl, h0, r0⟩ := trodAll_cons hA
  obtain ⟨v1, vs1, d1, ds1, p1, q1, rfl, rfl, rfl, h1, r1⟩ := trodAll_cons r0
  obtain ⟨rfl, rfl, rfl⟩ := trodAll_nil r1
  obtain rfl : args = #[v0, v1] := by cases args; simp_all
  obtain ⟨rfl, rfl⟩ := trodVars_none hV
  have fin : ∀ W' : World, Below W.heap.size W W' → Rows.cellJoinsSpec.post enc Tryd.prog Tryd.f8 false true false false W #[v0, v1] (.bool true) W' := fun W' hb =>
    Post.law_post (by kernel_rfl) (by kernel_rfl) rfl (by kernel_rfl) Tryd.underlying4 hW' rfl hb
  obtain ⟨b, rfl, rfl, rfl, hsm⟩ := open_string Tryd.underlying9 (hval 1 9 v1 rfl rfl) h1
  obtain ⟨a0, len, cap, rfl⟩ := okWide_slice Tryd.underlying27 (hval 0 27 v0 rfl rfl)
  obtain ⟨fuel, hf⟩ := h0
  have hbulk : Rows.uptoBulkAll ([d0, DataW.lit (H := H) (.string b.data.toList)] ++ []) ≤ 1048576 := of_decide_eq_true hk
  simp only [List.append_nil, Rows.uptoBulkAll, Rows.uptoBulk] at hbulk
  have e : b.data.toList.length = b.size := by rw [Array.length_toList]; rfl
  obtain ⟨ns, hns, hcv⟩ : ∃ ns : List Int, ns.length ≤ 1048576 ∧ ∀ w', Below W.heap.size W w' → (convert 27 9 (.slice a0 len cap)).run Tryd.prog w' = .ok (.string (runesBytes ns)) w' := by
    rcases open_ints Tryd.underlying27 Tryd.underlying21 (by kernel_rfl) hf with ⟨hcs, hx⟩ | ⟨a, len', cap', ys, hcs, _, hl, hm, hz, hx, hcell, hwz⟩
    · simp [Value.cells] at hcs
      obtain ⟨rfl, rfl, rfl⟩ := hcs
      exact ⟨[], by simp, fun w' _ => run_convert_runes_nil (P := Tryd.prog) w' _ _ 21 0 0 Tryd.underlying27 Tryd.underlying21 Tryd.underlying9⟩
    · simp [Value.cells] at hcs
      obtain ⟨rfl, rfl, rfl⟩ := hcs
      simp only [Prod.mk.injEq] at hx
      obtain ⟨rfl, hpl⟩ := hx
      have hzl : len ≤ ys.length := by
        rw [hz]; split <;> omega
      have hlen : len + 1 ≤ 1048576 := by
        have h1 := bulk_ints (H := H) .i32 (ys.take len) (ys.drop len)
        rw [List.length_take, Nat.min_eq_left hzl] at h1
        omega
      refine ⟨ys.take len, by rw [List.length_take]; omega, fun w' hb => ?_⟩
      refine run_convert_runes (P := Tryd.prog) w' 27 9 21 a len cap ys hzl Tryd.underlying27 Tryd.underlying21 Tryd.underlying9 fun j hj => ?_
      have hc := hcell j hj
      have hblk : (a.add j).block < W.heap.size := World.block_lt_of_cell? W _ hc
      exact (hb.cell hblk).trans hc
  clear hA0 hA
  refine (lawJoins_walk (.slice a0 len cap) ns b W (tabs_of hL).1 (tabs_of hL).2 hcv hns (by omega)).mono fun e W' ⟨he, hg⟩ => ?_
  subst he
  exact ⟨_, rfl, fin W' hg⟩

theorem laid_met (os : Os) : laidMet Tryd.prog Rows.cellJoinsRow.laid ((laidWorld os).forCall (fun _ _ => 0) ⟨#[], #[Value.slice none 0 0, Value.string .empty], []⟩).memory :=
  laidMet_of_run' 8 (by kernel_rfl) (by kernel_rfl)
theorem reads (os : Os) {H : Type} (enc : TypeId × Value → H) : ∃ places, DataW.whole enc Tryd.prog ((laidWorld os).forCall (fun _ _ => 0) ⟨#[], #[Value.slice none 0 0, Value.string .empty], []⟩).memory Tryd.f8.params.toList Rows.cellJoinsSpec.vars false #[Value.slice none 0 0, Value.string .empty].toList 8 = some ([.nil, .lit (.string [])], [], places) :=
  ⟨[], by kernel_rfl⟩

set_option maxRecDepth 100000 in
theorem lifted (os : Os) (started : os.Started) (H : Type) (enc : TypeId × Value → H) (F : Stop.Interp) :
    ReturnsInHanded {} Tryd.checked os 8 .any ((Rows.OpenSpec.upto Rows.cellJoinsSpec).preRow enc Tryd.prog Tryd.f8 Rows.cellJoinsUptoRow.domain false Rows.cellJoinsUptoRow.laid) (((Rows.OpenSpec.upto Rows.cellJoinsSpec).at F).post enc Tryd.prog Tryd.f8 false true false false) := by
  obtain ⟨places, hx⟩ := reads os enc
  refine returnsInHanded_of_row (C := Tryd.checked) (s := Rows.OpenSpec.upto Rows.cellJoinsSpec) own started (by kernel_rfl) Tryd.func8
    (witness_row_at (enc := enc) (C := Tryd.checked) false (laidWorld os) #[Value.slice none 0 0, Value.string .empty] rfl (by kernel_rfl) (by kernel_rfl) (by kernel_rfl)
      (OpenSpec.preRow_of_cond 8 hx (by kernel_rfl) (fun k hk => by cases hk; kernel_rfl) (by kernel_rfl) (laid_met os))) ?_
  intro W base args ds gs before hval hW _ hcond _ hL _ _
  exact contract H enc W base args ds gs before hval hW hL (hcond _ rfl)

theorem said : Rows.CellJoinsUptoSaid :=
  OpenClaim.holds_of_cond 8 Tryd.f8 rfl rfl rfl rfl rfl rfl rfl ⟨rfl, rfl, rfl, rfl, rfl⟩ rfl rfl rfl rfl rfl (by kernel_rfl) Tryd.func8 (by kernel_rfl)
    (of_decide_eq_true (by kernel_rfl)) (by unfold Func.isWrapper; first | (rw [if_pos (by decide +kernel)]; kernel_rfl) | (rw [if_neg (by decide +kernel)]; exact ⟨rfl, rfl⟩))
    (fun os started H enc _ F => by rw [OpenClaim.pre_eq_preRow]; exact lifted os started H enc F)

/-- No parameter wants a stand-in; the program's own looks are off. -/
theorem plain (f : FuncId) (fn : Func) (hf : Tryd.pinned.checked.prog.funcNamed Rows.cellJoinsRow.func = some f) (hfn : Tryd.pinned.checked.prog.funcs[f]? = some fn) :
    false = Tryd.pinned.checked.prog.looks [] ∧ ∀ (j : Nat) t, fn.params[j]? = some t → Tryd.pinned.checked.prog.wantsStandIn t = false := by
  obtain rfl : f = 8 := Option.some.inj ((show Tryd.prog.funcNamed Rows.cellJoinsRow.func = some 8 by kernel_rfl).symm.trans hf) |>.symm
  obtain rfl : fn = Tryd.f8 := (Option.some.inj (Tryd.func8.symm.trans hfn)).symm
  refine ⟨by kernel_rfl, fun j t ht => ?_⟩
  rw [Tryd.params8] at ht
  have hm : t ∈ [27, 9] := by simpa using Array.mem_of_getElem? ht
  have hall : ([27, 9].all fun u => !Tryd.prog.wantsStandIn u) = true := by kernel_rfl
  exact (show Tryd.prog.wantsStandIn t = false by simpa using List.all_eq_true.1 hall t hm)

theorem card : Rows.CellJoinsUptoCardSaid :=
  Claim7.holds_tied_plain_at .later [] _ _ _ _ said (fun _ h => by cases h) (by kernel_rfl) (fun _ h => by cases h) cellJoinsUpto_row_tie rfl ⟨rfl, rfl⟩ (by kernel_rfl) rfl plain (by kernel_rfl)
end LawCellJoins
end Go.Proofs.YtmnembhfbboljaaDoor.Cel
