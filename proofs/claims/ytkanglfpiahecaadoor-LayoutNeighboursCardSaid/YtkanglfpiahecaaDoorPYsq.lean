/- A pane split. -/
import Derived.Test.YtkanglfpiahecaaDoorPYrm
import Derived.Test.YtkanglfpiahecaaDoorPYhx
import Derived.LaidEqlPtr
import Derived.Test.YtkanglfpiahecaaDoorPYat
namespace Go.Proofs.YtkanglfpiahecaaDoor.Lyt
open Go.RowKit

theorem eqnil_some (a : Addr) (n c : Nat) (w : World) : Sem.run Tryd.prog (binOp BinOp.eql 51 (.slice (some a) n c) (.slice none 0 0)) w = .ok (.bool false) w := by kernel_rfl
theorem eqnil_none (w : World) : Sem.run Tryd.prog (binOp BinOp.eql 51 (.slice none 0 0) (.slice none 0 0)) w = .ok (.bool true) w := by kernel_rfl
/-- What a split answers. -/
def splitA (l oth : List Value) (other size room : Int) (n : Nat) : Int :=
  if l = [] then 8 else if ¬ (1 ≤ other ∧ oth = []) ∨ size < 0 then 1 else if 32 ≤ n then 3 else if room < 3 ∨ room - 2 < size then 5 else 0
section
variable {T : F} {w : World} {tb : Nat} {pane other size : Int} {l oth : List Value}
set_option maxRecDepth 100000 in
set_option maxHeartbeats 8000000 in
theorem Split_no1 (ok : T.Ok) (hin : T.In w) (hv : T.ptrs[0]? = some (pV tb)) (hl : (T.ups pane)[0]? = some []) (x y : Bool) :
    Calls Tryd.prog 10 #[pV tb, .int .i64 pane, .int .i64 other, .bool x, .int .i64 size, .bool y] w fun e w' => e = .returned (.int .i64 8) ∧ Below w.heap.size w w' := by
  have ku := up_at (p := pane) T ok.one ok.big w hin 0 _ _ hv hl
  have KU := Lib.hid ku
  clear ku hin hv hl ok
  unfold pV at KU ⊢
  go_enter Tryd.func10, Tryd.ntmps10
  go_wp2_with fail
  refine KU.out.mono ?_
  rintro _ w1 ⟨u, rfl, hp, hb⟩
  obtain rfl := hp.2 rfl
  have hq := eqnil_none w1
  go_wp2_with fail
  go_ret
  exact ⟨rfl, hb⟩
set_option maxRecDepth 100000 in
set_option maxHeartbeats 8000000 in
theorem Split_no2 (ok : T.Ok) (hin : T.In w) (hv : T.ptrs[0]? = some (pV tb)) (hl : (T.ups pane)[0]? = some l) (hne : l ≠ []) (ho : (T.ups other)[0]? = some oth) (hbad : ¬ (1 ≤ other ∧ oth = []) ∨ size < 0) (x y : Bool) :
    Calls Tryd.prog 10 #[pV tb, .int .i64 pane, .int .i64 other, .bool x, .int .i64 size, .bool y] w fun e w' => e = .returned (.int .i64 1) ∧ Below w.heap.size w w' := by
  have ku := up_at (p := pane) T ok.one ok.big w hin 0 _ _ hv hl
  have km := fun V (hV : Below w.heap.size w V) => mayCome_at (p := other) ok.one ok.big (hin.below hV) hv ho
  obtain ⟨d, hd⟩ : ∃ d, decide (1 ≤ other ∧ oth = []) = d := ⟨_, rfl⟩
  rw [hd] at km
  have KU := Lib.hid ku
  have KM := Lib.hid km
  have HD := Lib.hid hd
  have HBAD := Lib.hid hbad
  clear ku hin hv hl ok km hd hbad
  unfold pV at KU KM ⊢
  go_enter Tryd.func10, Tryd.ntmps10
  go_wp2_with fail
  refine KU.out.mono ?_
  rintro _ w1 ⟨u, rfl, hp, hb⟩
  rcases hp.shape with ⟨h, _⟩ | ⟨_, g, c, rfl, hg⟩
  · exact absurd h hne
  have hq := eqnil_some ⟨g, 0, none⟩ l.length c w1
  cases d with
  | false =>
    go_wp2_with fail
    refine (KM.out _ hb).mono ?_
    rintro _ w2 ⟨rfl, hb2⟩
    go_wp2_with fail
    go_ret
    exact ⟨rfl, hb.trans (hb2.mono hb.size)⟩
  | true =>
    have hs : size < 0 := HBAD.out.resolve_left fun h => h (of_decide_eq_true HD.out)
    go_wp2_with fail
    refine (KM.out _ hb).mono ?_
    rintro _ w2 ⟨rfl, hb2⟩
    go_wp2_with fail
    go_ret
    exact ⟨rfl, hb.trans (hb2.mono hb.size)⟩
set_option maxRecDepth 100000 in
set_option maxHeartbeats 8000000 in
theorem Split_no3 (ok : T.Ok) (hin : T.In w) (hv : T.ptrs[0]? = some (pV tb)) (hl : (T.ups pane)[0]? = some l) (hne : l ≠ []) (ho : (T.ups other)[0]? = some oth) (hgood : 1 ≤ other ∧ oth = []) (hs : 0 ≤ size) {ps : List Int} (hps : T.pns[0]? = some ps) (hn : 32 ≤ ps.length) (hpl : ps.length ≤ 1000000) (x y : Bool) :
    Calls Tryd.prog 10 #[pV tb, .int .i64 pane, .int .i64 other, .bool x, .int .i64 size, .bool y] w fun e w' => e = .returned (.int .i64 3) ∧ Below w.heap.size w w' := by
  have ku := up_at (p := pane) T ok.one ok.big w hin 0 _ _ hv hl
  have km := fun V (hV : Below w.heap.size w V) => mayCome_at (p := other) ok.one ok.big (hin.below hV) hv ho
  have kp := fun V (hV : Below w.heap.size w V) => panes_at ok.one (hin.below hV) hv hps hpl
  have hd : decide (1 ≤ other ∧ oth = []) = true := decide_eq_true hgood
  rw [hd] at km
  have h32 : (32 : Int) ≤ (ps.length : Int) := by omega
  have KU := Lib.hid ku
  have KM := Lib.hid km
  have KP := Lib.hid kp
  clear ku hin hv hl ok km hd kp hps
  unfold pV at KU KM KP ⊢
  go_enter Tryd.func10, Tryd.ntmps10
  go_wp2_with fail
  refine KU.out.mono ?_
  rintro _ w1 ⟨u, rfl, hp, hb⟩
  rcases hp.shape with ⟨h, _⟩ | ⟨_, g, c, rfl, hg⟩
  · exact absurd h hne
  have hq := eqnil_some ⟨g, 0, none⟩ l.length c w1
  go_wp2_with fail
  refine (KM.out _ hb).mono ?_
  rintro _ w2 ⟨rfl, hb2⟩
  have hbb2 := hb.trans (hb2.mono hb.size)
  go_wp2_with fail
  refine (KP.out _ hbb2).mono ?_
  rintro _ w3 ⟨u3, rfl, hu3, hb3⟩
  obtain ⟨A3, c3, rfl⟩ := own_slice hu3
  go_wp2_with fail
  go_ret
  exact ⟨rfl, hbb2.trans (hb3.mono hbb2.size)⟩
end
end Go.Proofs.YtkanglfpiahecaaDoor.Lyt
/- Two panes swapped. -/
namespace Go.Proofs.YtkanglfpiahecaaDoor.Lyt
open Go.RowKit

set_option maxRecDepth 100000 in
set_option maxHeartbeats 8000000 in
theorem Swap_two {tb ba bb : Nat} {a b s0 s1 u0 u1 : Int} {la lb ra rb : List Value} {w : World} (hne : ba ≠ bb)
    {IsUp : Int → List Value → Prop} (ia : IsUp a la) (ib : IsUp b lb) (hu : ∀ (p : Int) (l : List Value), IsUp p l → ∀ V, Below w.heap.size w V → Calls Tryd.prog 23 #[pV tb, .int .i64 p] V fun e w' => ∃ x, e = .returned x ∧ PathAt w' w.heap.size x l ∧ Below w.heap.size w w' ∧ Below V.heap.size V w')
    (hla : la = pV ba :: ra) (hlb : lb = pV bb :: rb) (hA : BN w ba (leafC a s0 s1)) (hB : BN w bb (leafC b u0 u1)) :
    Calls Tryd.prog 13 #[pV tb, .int .i64 a, .int .i64 b] w fun e w' => e = .returned (.int .i64 0) ∧ BN w' ba (leafC b s0 s1) ∧ BN w' bb (leafC a u0 u1) ∧ Only [ba, bb] w w' := by
  have hla1 : 0 < la.length := by rw [hla]; simp
  have hlb1 : 0 < lb.length := by rw [hlb]; simp
  have hna : la ≠ [] := by rw [hla]; simp
  have hnb : lb ≠ [] := by rw [hlb]; simp
  have hga : la[0]? = some (pV ba) := by rw [hla]; rfl
  have hgb : lb[0]? = some (pV bb) := by rw [hlb]; rfl
  have KU := Lib.hid hu
  have HGA := Lib.hid hga
  have HGB := Lib.hid hgb
  have HA := Lib.hid hA
  have HB := Lib.hid hB
  clear hu hla hlb hA hB hga hgb
  unfold pV at KU ⊢
  have hdw : Below w.heap.size w w.drew := (Below.refl _ _).drew
  go_enter Tryd.func13, Tryd.ntmps13
  go_upto_region 1 with fail
  go_cut [7, 8] (fun s7 s8 wx => ∃ ga ca gb cb, s7 = .slice (some ⟨ga, 0, none⟩) la.length ca ∧ s8 = .slice (some ⟨gb, 0, none⟩) lb.length cb ∧ wx.cell? ⟨ga, 0, none⟩ = some (pV ba) ∧ wx.cell? ⟨gb, 0, none⟩ = some (pV bb) ∧ w.heap.size ≤ ga ∧ w.heap.size ≤ gb ∧ Below w.heap.size w wx)
  case first =>
    go_region_law
      (first
        | (go_simp; go_at_call 23; refine (KU.out _ _ (by exact ia) _ (by exact hdw)).mono ?_; rintro _ w1 ⟨x1, rfl, hx1, hw1, hb1⟩; obtain ⟨ga, ca, rfl, hga⟩ := own_some hx1.1 hla1; have hcA := hx1.1.cells (g := ga) rfl 0 _ HGA.out; have hlA := (hx1.1.lt ga rfl).2; clear hx1)
        | (go_simp; go_at_call 23; refine (KU.out _ _ (by exact ib) _ (by exact hw1)).mono ?_; rintro _ w2 ⟨x2, rfl, hx2, hw2, hb2⟩; obtain ⟨gb, cb, rfl, hgb⟩ := own_some hx2.1 hlb1; have hcB := hx2.1.cells (g := gb) rfl 0 _ HGB.out; clear hx2))
    all_goals go_wp2_with fail
    all_goals go_meet
    all_goals
      have eA : (⟨ga, 0, none⟩ : Addr).add 0 = ⟨ga, 0, none⟩ := by simp [Addr.add]
      have eB : (⟨gb, 0, none⟩ : Addr).add 0 = ⟨gb, 0, none⟩ := by simp [Addr.add]
      rw [eA] at hcA
      rw [eB] at hcB
      exact ⟨ga, ca, gb, cb, rfl, rfl, (hb2.cell (p := ⟨ga, 0, none⟩) hlA).trans hcA, hcB, hga, hgb, hw2⟩
  case rest =>
    obtain ⟨ga, ca, gb, cb, rfl, rfl, hcA, hcB, hga, hgb, hwx⟩ := hcut
    have q1 := eqnil_some ⟨ga, 0, none⟩ la.length ca wc
    have q2 := eqnil_some ⟨gb, 0, none⟩ lb.length cb wc
    have hA1 := HA.out.only (Only.of_below (F := []) hwx) (by simp)
    have hB1 := HB.out.only (Only.of_below (F := []) hwx) (by simp)
    have dA : wc.drew.cell? ⟨ga, 0, none⟩ = some (.pointer (some ⟨ba, 0, none⟩)) := hcA
    have dB : wc.drew.cell? ⟨gb, 0, none⟩ = some (.pointer (some ⟨bb, 0, none⟩)) := hcB
    have a0 : wc.drew.cell? ⟨ba, 0, none⟩ = some (.int .i64 a) := hA1.cell 0
    have a0f : wc.drew.frozen? ⟨ba, 0, none⟩ = false := hA1.frozen 0
    have o1 : Only [ba] wc (wc.setCell ⟨ba, 0, none⟩ (.int .i64 b)) := (Only.refl _ _).setCell (p := ⟨ba, 0, none⟩) (.inl (by simp)) _
    have hB2 := hB1.only o1 (by simpa using fun e : bb = ba => hne e.symm)
    have b0 : (wc.setCell ⟨ba, 0, none⟩ (.int .i64 b)).cell? ⟨bb, 0, none⟩ = some (.int .i64 b) := hB2.cell 0
    have b0f : (wc.setCell ⟨ba, 0, none⟩ (.int .i64 b)).frozen? ⟨bb, 0, none⟩ = false := hB2.frozen 0
    have o2 : Only [bb] (wc.setCell ⟨ba, 0, none⟩ (.int .i64 b)) ((wc.setCell ⟨ba, 0, none⟩ (.int .i64 b)).setCell ⟨bb, 0, none⟩ (.int .i64 a)) := (Only.refl _ _).setCell (p := ⟨bb, 0, none⟩) (.inl (by simp)) _
    have hfin : BN ((wc.setCell ⟨ba, 0, none⟩ (.int .i64 b)).setCell ⟨bb, 0, none⟩ (.int .i64 a)) ba (leafC b s0 s1) ∧ BN ((wc.setCell ⟨ba, 0, none⟩ (.int .i64 b)).setCell ⟨bb, 0, none⟩ (.int .i64 a)) bb (leafC a u0 u1) ∧ Only [ba, bb] w ((wc.setCell ⟨ba, 0, none⟩ (.int .i64 b)).setCell ⟨bb, 0, none⟩ (.int .i64 a)) :=
      ⟨(hA1.set_ 0 (.int .i64 b)).only o2 (by simpa using hne), hB2.set_ 0 (.int .i64 a), ((Only.of_below hwx).trans (o1.mono (by simp))).trans (o2.mono (by simp))⟩
    have HF := Lib.hid hfin
    clear hA1 hB1 o1 o2 hB2 hfin KU hcA hcB
    go_wp2_with fail
    go_region_law (first | fail)
    all_goals
      clear dA dB a0 a0f b0 b0f q1 q2
      go_wp2_with fail
      go_ret
      first
        | exact ⟨rfl, HF.out.1, HF.out.2.1, HF.out.2.2⟩
        | exact ⟨rfl, HF.out.1, HF.out.2.1, HF.out.2.2.drew⟩
end Go.Proofs.YtkanglfpiahecaaDoor.Lyt
/- A leaf grown, or shrunk; boxes of a tree; where a pointer stands in a row. -/
namespace Go.Proofs.YtkanglfpiahecaaDoor.Lyt
open Go.RowKit

set_option maxRecDepth 100000 in
set_option maxHeartbeats 4000000 in
theorem grow_leaf {a : Int} (ha : a = 0 ∨ a = 1) {b : Nat} {p s0 s1 by_ : Int} {w : World} (hN : BN w b (leafC p s0 s1)) (hb : -1000000000000 ≤ s0 + by_ ∧ s0 + by_ ≤ 1000000000000 ∧ -1000000000000 ≤ s1 + by_ ∧ s1 + by_ ≤ 1000000000000) :
    Calls Tryd.prog 32 #[pV b, .int .i64 a, .int .i64 by_] w fun e w' => e = .returned (.tuple #[]) ∧ BN w' b (leafC p (if a = 0 then s0 + by_ else s0) (if a = 0 then s1 else s1 + by_)) ∧ Only [b] w w' := by
  have hb0 : Below w.heap.size w ((w.alloc (.cells #[.int .i64 a] 50)).alloc (.cells #[.int .i64 by_] 3)) := ((Below.refl _ _).alloc (Nat.le_refl _) _).alloc (by simp) _
  have hA := (BL.new w 50 [.int .i64 a]).alloc (.cells #[.int .i64 by_] 3)
  have hB := BL.new (w.alloc (.cells #[.int .i64 a] 50)) 3 [.int .i64 by_]
  rw [size_alloc] at hB
  have hN2 := hN.only (Only.of_below (F := []) hb0) (by simp)
  have j1 : IntKind.i64.wrap (s0 + by_) = s0 + by_ := IntWalk.i64_in _ ⟨by omega, by omega⟩
  have j2 : IntKind.i64.wrap (s1 + by_) = s1 + by_ := IntWalk.i64_in _ ⟨by omega, by omega⟩
  clear hN
  unfold pV
  rcases ha with rfl | rfl
  · go_enter Tryd.func32, Tryd.ntmps32
    go_upto_region 2 with fail
    generalize ((w.alloc (.cells #[.int .i64 0] 50)).alloc (.cells #[.int .i64 by_] 3)) = X at *
    have c4 : X.cell? ⟨b, 4, none⟩ = some (.slice none 0 0) := hN2.cell 4
    go_wp2_with fail
    refine (isLeaf_at b 0 0 none _ c4).mono ?_
    rintro _ w1 ⟨rfl, rfl⟩
    go_upto_region 3 with fail
    have a0 : X.cell? ⟨w.heap.size, 0, none⟩ = some (.int .i64 0) := hA.cell 0
    have b0 : X.cell? ⟨w.heap.size + 1, 0, none⟩ = some (.int .i64 by_) := hB.cell 0
    have e1 : X.cell? ⟨b, 1, none⟩ = some (.int .i64 s0) := hN2.cell 1
    have f1 : X.frozen? ⟨b, 1, none⟩ = false := hN2.frozen 1
    have HN := Lib.hid hN2
    have HB0 := Lib.hid hb0
    clear hN2 hA hB hb0
    go_region
    go_wp2_with fail
    exact body_end rfl rfl ⟨rfl, HN.out.set_ 1 (.int .i64 (s0 + by_)), ((Only.of_below HB0.out).setCell (p := ⟨b, 1, none⟩) (.inl (by simp)) _).drew⟩
  · go_enter Tryd.func32, Tryd.ntmps32
    go_upto_region 2 with fail
    generalize ((w.alloc (.cells #[.int .i64 1] 50)).alloc (.cells #[.int .i64 by_] 3)) = X at *
    have c4 : X.cell? ⟨b, 4, none⟩ = some (.slice none 0 0) := hN2.cell 4
    go_wp2_with fail
    refine (isLeaf_at b 0 0 none _ c4).mono ?_
    rintro _ w1 ⟨rfl, rfl⟩
    go_upto_region 3 with fail
    have a0 : X.cell? ⟨w.heap.size, 0, none⟩ = some (.int .i64 1) := hA.cell 0
    have b0 : X.cell? ⟨w.heap.size + 1, 0, none⟩ = some (.int .i64 by_) := hB.cell 0
    have e2 : X.cell? ⟨b, 2, none⟩ = some (.int .i64 s1) := hN2.cell 2
    have f2 : X.frozen? ⟨b, 2, none⟩ = false := hN2.frozen 2
    have HN := Lib.hid hN2
    have HB0 := Lib.hid hb0
    clear hN2 hA hB hb0
    go_region
    go_wp2_with fail
    exact body_end rfl rfl ⟨rfl, HN.out.set_ 2 (.int .i64 (s1 + by_)), ((Only.of_below HB0.out).setCell (p := ⟨b, 2, none⟩) (.inl (by simp)) _).drew⟩
set_option maxRecDepth 100000 in
set_option maxHeartbeats 4000000 in
theorem Boxes_at {tb : Nat} {f : F} {w : World} {v0 v1 : Int} {l : List Bx} (ok : f.Ok) (hin : f.In w) (hv : f.ptrs[0]? = some (pV tb)) (h0 : (f.vals 0 (szA 0))[0]? = some v0) (h1 : (f.vals 1 (szA 1))[0]? = some v1) (hl : (f.bxl 0 0)[0]? = some l) (hw : Within 0 0 v0 v1) :
    Calls Tryd.prog 8 #[pV tb] w fun e w' => ∃ u, e = .returned u ∧ w'.ownsRow w.heap.size 30 5 u l.length (l.flatMap bxC) ∧ Below w.heap.size w w' := by
  have hk := boxes_at f ok w hin 0 _ 0 0 v0 v1 l hv h0 h1 hl hw
  obtain ⟨L, hL⟩ : ∃ L, L = l.flatMap bxC := ⟨_, rfl⟩
  rw [← hL] at hk ⊢
  have HK := Lib.hid hk
  clear hk hin hv h0 h1 hl hw ok hL
  unfold pV at HK ⊢
  go_enter Tryd.func8, Tryd.ntmps8
  go_wp2_with fail
  refine HK.out.mono ?_
  rintro _ w1 ⟨u, rfl, hu, hb1⟩
  obtain ⟨A, c, rfl⟩ := own_slice hu
  have HU := Lib.hid hu
  clear hu HK
  go_wp2_with fail
  go_ret
  exact ⟨_, rfl, HU.out, hb1⟩
theorem info_node : (Tryd.prog.info? 53).map (fun i => i.size) = some 5 := by kernel_rfl
theorem eqp_same (b : Nat) (w : World) : Sem.run Tryd.prog (binOp BinOp.eql 63 (.pointer (some ⟨b, 0, none⟩)) (.pointer (some ⟨b, 0, none⟩))) w = .ok (.bool true) w := by
  have hi := info_node
  cases hq : Tryd.prog.info? 53 with
  | none => simp [hq] at hi
  | some i => exact run_eql_ptr_same w _ Tryd.underlying63 hq
theorem eqp_other {b x : Nat} {w : World} {cs ds : List Value} (hne : b ≠ x) (hb : BN w b cs) (hx : BN w x ds) : Sem.run Tryd.prog (binOp BinOp.eql 63 (.pointer (some ⟨b, 0, none⟩)) (.pointer (some ⟨x, 0, none⟩))) w = .ok (.bool false) w := by
  obtain ⟨t1, h1⟩ := hb
  obtain ⟨t2, h2⟩ := hx
  have hi := info_node
  cases hq : Tryd.prog.info? 53 with
  | none => simp [hq] at hi
  | some i =>
    simp only [hq, Option.map_some, Option.some.injEq] at hi
    exact run_eql_ptr_other w Tryd.underlying63 hq (by omega) (fun e => hne (by injection e)) h1 h2
set_option maxRecDepth 100000 in
set_option maxHeartbeats 4000000 in
theorem Index_at {g o c k b : Nat} {bs : List Nat} {w : World} (hc : ∀ (i x : Nat), bs[i]? = some x → w.cell? ⟨g, o + i, none⟩ = some (pV x)) (hk : bs[k]? = some b) (hne : ∀ j, j < k → bs[j]? ≠ some b) (hl : bs.length ≤ 1000000) (hbn : ∀ x ∈ bs, ∃ cs, BN w x cs) :
    Calls Tryd.prog 31 #[.slice (some ⟨g, o, none⟩) bs.length c, pV b] w fun e w' => e = .returned (.int .i64 (k : Int)) ∧ w = w' := by
  have hkl := (List.getElem?_eq_some_iff.1 hk).1
  have HC := Lib.hid hc
  have HK := Lib.hid hk
  have HN := Lib.hid hne
  have HBN := Lib.hid hbn
  clear hc hk hne hbn
  unfold pV
  go_enter Tryd.func31, Tryd.ntmps31
  go_wp2_with fail
  go_loopw [8] (fun i wr => ∃ j : Nat, j ≤ k ∧ i = .int .i64 (j : Int) ∧ wr = w) (fun i _ => bs.length - (intOf i).toNat)
  case atStart => exact ⟨0, Nat.zero_le _, rfl, rfl⟩
  case round =>
    obtain ⟨j, hj, rfl, rfl⟩ := hrel
    have j1 : (j : Int) < (bs.length : Int) := by omega
    by_cases hjk : j = k
    · subst hjk
      have c0 : wr.cell? ⟨g, o + j, none⟩ = some (.pointer (some ⟨b, 0, none⟩)) := HC.out j b HK.out
      have hq := eqp_same b wr
      go_wp2_with fail
      go_ret
      exact ⟨rfl, rfl⟩
    · have hj2 : j < bs.length := by omega
      have hx := List.getElem?_eq_getElem hj2
      have hxb : bs[j] ≠ b := fun e => HN.out j (by omega) (by rw [hx, e])
      have c0 : wr.cell? ⟨g, o + j, none⟩ = some (.pointer (some ⟨bs[j], 0, none⟩)) := HC.out j _ hx
      obtain ⟨cs, hbb⟩ := HBN.out b (List.mem_of_getElem? HK.out)
      obtain ⟨ds, hbd⟩ := HBN.out bs[j] (List.getElem_mem hj2)
      have hq := eqp_other (fun e => hxb e.symm) hbb hbd
      clear hx hxb hbb hbd
      generalize bs[j] = x at *
      go_wp2_with fail
      go_roundw
      case rel => exact ⟨j + 1, by omega, by go_num, trivial⟩
      case measure => simp [intOf]; omega
end Go.Proofs.YtkanglfpiahecaaDoor.Lyt
/- A leaf shrunk; which way a sign goes. -/
namespace Go.Proofs.YtkanglfpiahecaaDoor.Lyt
open Go.RowKit

set_option maxRecDepth 100000 in
set_option maxHeartbeats 4000000 in
theorem shrink_leaf {a : Int} (ha : a = 0 ∨ a = 1) {b : Nat} {p s0 s1 by_ : Int} {w : World} (hN : BN w b (leafC p s0 s1)) (hb : -1000000000000 ≤ s0 - by_ ∧ s0 - by_ ≤ 1000000000000 ∧ -1000000000000 ≤ s1 - by_ ∧ s1 - by_ ≤ 1000000000000) :
    Calls Tryd.prog 41 #[pV b, .int .i64 a, .int .i64 by_] w fun e w' => e = .returned (.tuple #[]) ∧ BN w' b (leafC p (if a = 0 then s0 - by_ else s0) (if a = 0 then s1 else s1 - by_)) ∧ Only [b] w w' := by
  have hb0 : Below w.heap.size w ((w.alloc (.cells #[.int .i64 a] 50)).alloc (.cells #[.int .i64 by_] 3)) := ((Below.refl _ _).alloc (Nat.le_refl _) _).alloc (by simp) _
  have hA := (BL.new w 50 [.int .i64 a]).alloc (.cells #[.int .i64 by_] 3)
  have hB := BL.new (w.alloc (.cells #[.int .i64 a] 50)) 3 [.int .i64 by_]
  rw [size_alloc] at hB
  have hN2 := hN.only (Only.of_below (F := []) hb0) (by simp)
  have j1 : IntKind.i64.wrap (s0 - by_) = s0 - by_ := IntWalk.i64_in _ ⟨by omega, by omega⟩
  have j2 : IntKind.i64.wrap (s1 - by_) = s1 - by_ := IntWalk.i64_in _ ⟨by omega, by omega⟩
  clear hN
  unfold pV
  rcases ha with rfl | rfl
  · go_enter Tryd.func41, Tryd.ntmps41
    go_upto_region 2 with fail
    generalize ((w.alloc (.cells #[.int .i64 0] 50)).alloc (.cells #[.int .i64 by_] 3)) = X at *
    have c4 : X.cell? ⟨b, 4, none⟩ = some (.slice none 0 0) := hN2.cell 4
    go_wp2_with fail
    refine (isLeaf_at b 0 0 none _ c4).mono ?_
    rintro _ w1 ⟨rfl, rfl⟩
    go_upto_region 3 with fail
    have a0 : X.cell? ⟨w.heap.size, 0, none⟩ = some (.int .i64 0) := hA.cell 0
    have b0 : X.cell? ⟨w.heap.size + 1, 0, none⟩ = some (.int .i64 by_) := hB.cell 0
    have e1 : X.cell? ⟨b, 1, none⟩ = some (.int .i64 s0) := hN2.cell 1
    have f1 : X.frozen? ⟨b, 1, none⟩ = false := hN2.frozen 1
    have HN := Lib.hid hN2
    have HB0 := Lib.hid hb0
    clear hN2 hA hB hb0
    go_region
    go_wp2_with fail
    exact body_end rfl rfl ⟨rfl, HN.out.set_ 1 (.int .i64 (s0 - by_)), ((Only.of_below HB0.out).setCell (p := ⟨b, 1, none⟩) (.inl (by simp)) _).drew⟩
  · go_enter Tryd.func41, Tryd.ntmps41
    go_upto_region 2 with fail
    generalize ((w.alloc (.cells #[.int .i64 1] 50)).alloc (.cells #[.int .i64 by_] 3)) = X at *
    have c4 : X.cell? ⟨b, 4, none⟩ = some (.slice none 0 0) := hN2.cell 4
    go_wp2_with fail
    refine (isLeaf_at b 0 0 none _ c4).mono ?_
    rintro _ w1 ⟨rfl, rfl⟩
    go_upto_region 3 with fail
    have a0 : X.cell? ⟨w.heap.size, 0, none⟩ = some (.int .i64 1) := hA.cell 0
    have b0 : X.cell? ⟨w.heap.size + 1, 0, none⟩ = some (.int .i64 by_) := hB.cell 0
    have e2 : X.cell? ⟨b, 2, none⟩ = some (.int .i64 s1) := hN2.cell 2
    have f2 : X.frozen? ⟨b, 2, none⟩ = false := hN2.frozen 2
    have HN := Lib.hid hN2
    have HB0 := Lib.hid hb0
    clear hN2 hA hB hb0
    go_region
    go_wp2_with fail
    exact body_end rfl rfl ⟨rfl, HN.out.set_ 2 (.int .i64 (s1 - by_)), ((Only.of_below HB0.out).setCell (p := ⟨b, 2, none⟩) (.inl (by simp)) _).drew⟩
/-- Along what a sign goes, and whether onward. -/
def towP (c : Int) : Int × Bool := if c = 76 then (0, false) else if c = 82 then (0, true) else if c = 85 then (1, false) else if c = 68 then (1, true) else (-1, false)
set_option maxRecDepth 100000 in
theorem towards_at (c : Int) (w : World) : Calls Tryd.prog 36 #[.int .u8 c] w fun e w' => e = .returned (.tuple #[.int .i64 (towP c).1, .bool (towP c).2]) ∧ w = w' := by
  unfold towP
  by_cases h1 : c = 76
  · subst h1
    go_enter Tryd.func36, Tryd.ntmps36
    go_wp2_with fail
    go_ret2
    exact ⟨rfl, rfl⟩
  have g1 : (c == 76) = false := by simpa using h1
  by_cases h2 : c = 82
  · subst h2
    go_enter Tryd.func36, Tryd.ntmps36
    go_wp2_with fail
    go_ret2
    exact ⟨rfl, rfl⟩
  have g2 : (c == 82) = false := by simpa using h2
  by_cases h3 : c = 85
  · subst h3
    go_enter Tryd.func36, Tryd.ntmps36
    go_wp2_with fail
    go_ret2
    exact ⟨rfl, rfl⟩
  have g3 : (c == 85) = false := by simpa using h3
  by_cases h4 : c = 68
  · subst h4
    go_enter Tryd.func36, Tryd.ntmps36
    go_wp2_with fail
    go_ret2
    exact ⟨rfl, rfl⟩
  have g4 : (c == 68) = false := by simpa using h4
  rw [if_neg h1, if_neg h2, if_neg h3, if_neg h4]
  go_enter Tryd.func36, Tryd.ntmps36
  go_wp2_with fail
  go_ret2
  exact ⟨rfl, rfl⟩
end Go.Proofs.YtkanglfpiahecaaDoor.Lyt
/- Trees that are alike but for their places say the same. -/
namespace Go.Proofs.YtkanglfpiahecaaDoor.Lyt
open Go.RowKit

theorem F.vals_bare (a : Int) (g : Int → Int → Int → Int) : ∀ f : F, f.bare.vals a g = f.vals a g
  | .nil => rfl
  | .leaf _ _ _ _ r => by simp [F.bare, F.vals, F.vals_bare a g r]
  | .node _ _ _ _ ks r => by simp [F.bare, F.vals, F.vals_bare a g r, F.vals_bare a g ks, F.bare_len]
theorem F.bxl_bare : ∀ (f : F) (x y : Int), f.bare.bxl x y = f.bxl x y
  | .nil, _, _ => rfl
  | .leaf _ _ _ _ r, x, y => by simp [F.bare, F.bxl, F.bxl_bare r]
  | .node _ _ _ _ ks r, x, y => by simp [F.bare, F.bxl, F.bxl_bare r, F.bxl_bare ks, F.bare_len, F.kx, F.vals_bare]
theorem F.txl_bare : ∀ (f : F) (x y : Int), f.bare.txl x y = f.txl x y
  | .nil, _, _ => rfl
  | .leaf _ _ _ _ r, x, y => by simp [F.bare, F.txl, F.txl_bare r]
  | .node _ _ _ _ ks r, x, y => by simp [F.bare, F.txl, F.txl_bare r, F.txl_bare ks, F.bare_len, F.kx, F.vals_bare, F.valN]
theorem F.pns_bare : ∀ f : F, f.bare.pns = f.pns
  | .nil => rfl
  | .leaf _ _ _ _ r => by simp [F.bare, F.pns, F.pns_bare r]
  | .node _ _ _ _ ks r => by simp [F.bare, F.pns, F.pns_bare r, F.pns_bare ks]
theorem F.cnt_bare : ∀ f : F, f.bare.cnt = f.cnt
  | .nil => rfl
  | .leaf _ _ _ _ r => by simp [F.bare, F.cnt, F.cnt_bare r]
  | .node _ _ _ _ ks r => by simp [F.bare, F.cnt, F.cnt_bare r, F.cnt_bare ks]
theorem F.all_bare {P : Int → Int → Int → Prop} : ∀ {f : F}, f.bare.all P ↔ f.all P
  | .nil => Iff.rfl
  | .leaf _ _ _ _ r => by simp [F.bare, F.all, F.all_bare (f := r)]
  | .node _ _ _ _ ks r => by simp [F.bare, F.all, F.all_bare (f := r), F.all_bare (f := ks)]
theorem F.has1_bare : ∀ {f : F}, f.bare.has1 ↔ f.has1
  | .nil => Iff.rfl
  | .leaf _ _ _ _ r => by simp [F.bare, F.has1, F.has1_bare (f := r)]
  | .node _ _ _ _ ks r => by simp [F.bare, F.has1, F.has1_bare (f := r), F.has1_bare (f := ks), F.bare_len]
theorem F.ways_bare : ∀ {f : F}, f.bare.ways ↔ f.ways
  | .nil => Iff.rfl
  | .leaf _ _ _ _ r => by simp [F.bare, F.ways, F.ways_bare (f := r)]
  | .node _ _ _ _ ks r => by simp [F.bare, F.ways, F.ways_bare (f := r), F.ways_bare (f := ks)]
/-- Each split has two kids at the least, which go the other way; par: the way of the split above. -/
def F.norm (par : Int) : F → Prop
  | .nil => True
  | .leaf _ _ _ _ r => r.norm par
  | .node _ _ _ al ks r => al ≠ par ∧ (al = 0 ∨ al = 1) ∧ 2 ≤ ks.len ∧ ks.norm al ∧ r.norm par
theorem F.norm_bare {par : Int} : ∀ {f : F}, f.bare.norm par ↔ f.norm par
  | .nil => Iff.rfl
  | .leaf _ _ _ _ r => by simp [F.bare, F.norm, F.norm_bare (f := r)]
  | .node _ _ _ al ks r => by simp [F.bare, F.norm, F.norm_bare (par := par) (f := r), F.norm_bare (par := al) (f := ks), F.bare_len]
theorem F.norm_app {par : Int} {g : F} : ∀ {f : F}, (f.app g).norm par ↔ f.norm par ∧ g.norm par
  | .nil => by simp [F.app, F.norm]
  | .leaf _ _ _ _ r => by simp [F.app, F.norm, F.norm_app (f := r)]
  | .node _ _ _ _ _ r => by simp [F.app, F.norm, F.norm_app (f := r), and_assoc]
theorem F.norm_flat {al : Int} : ∀ {f : F}, f.norm al → f.flat al = f
  | .nil, _ => rfl
  | .leaf _ _ _ _ r, h => by simp [F.flat, F.norm_flat (f := r) h]
  | .node _ _ _ _ _ r, h => by
    unfold F.flat
    rw [if_neg h.1, F.norm_flat h.2.2.2.2]
theorem F.norm_has1 {par : Int} : ∀ {f : F}, f.norm par → f.has1
  | .nil, _ => trivial
  | .leaf _ _ _ _ r, h => F.norm_has1 (f := r) h
  | .node _ _ _ _ ks r, h => ⟨by have := h.2.2.1; omega, F.norm_has1 h.2.2.2.1, F.norm_has1 h.2.2.2.2⟩
theorem F.norm_ways {par : Int} : ∀ {f : F}, f.norm par → f.ways
  | .nil, _ => trivial
  | .leaf _ _ _ _ r, h => F.norm_ways (f := r) h
  | .node _ _ _ _ _ _, h => ⟨h.2.1, F.norm_ways h.2.2.2.1, F.norm_ways h.2.2.2.2⟩
/-- Few blocks. -/
theorem F.norm_blks {par : Int} : ∀ {f : F}, f.norm par → f.blks.length + 2 * f.len ≤ 3 * f.cnt
  | .nil, _ => by simp [F.blks, F.len, F.cnt]
  | .leaf _ _ _ _ r, h => by have := F.norm_blks (f := r) h; simp only [F.blks, F.len, F.cnt, List.length_cons]; omega
  | .node _ _ _ _ ks r, h => by
    have h1 := F.norm_blks h.2.2.2.1
    have h2 := F.norm_blks h.2.2.2.2
    have h3 := h.2.2.1
    simp only [F.blks, F.len, F.cnt, List.length_cons, List.length_append]
    omega
end Go.Proofs.YtkanglfpiahecaaDoor.Lyt
/- A pane split: it is. -/
namespace Go.Proofs.YtkanglfpiahecaaDoor.Lyt
open Go.RowKit

/-- What lies there when a pane was split: a tree that is, but for its places, the one with t0 for the leaf and all splits above it made anew. -/
structure Splat (T : F) (w w' : World) (t0 : F) (frs : List Fr) : Prop where
  ex : ∃ T' : F, T'.In w' ∧ T'.has1 ∧ T'.blks.Nodup ∧ (∀ x ∈ T'.blks, x ∈ T.blks ∨ w.heap.size ≤ x) ∧ T'.ptrs = T.ptrs ∧ T'.bare = (rema t0 frs).bare ∧ T'.cnt = T.cnt + 1
  only : Only T.blks w w'
set_option maxRecDepth 100000 in
theorem split2_at {al : Int} {b kb c1 c2 : Nat} {p1 u1 v1 p2 u2 v2 : Int} {V : World} (h1 : BN V c1 (leafC p1 u1 v1)) (h2 : BN V c2 (leafC p2 u2 v2)) (hB : BL V kb 63 [pV c1, pV c2]) (hb : b < V.heap.size) (hb1 : b ≠ c1) (hb2 : b ≠ c2) :
    Calls Tryd.prog 29 #[.int .i64 al, .slice (some ⟨kb, 0, none⟩) 2 2] V fun e W' => ∃ q x0 x1 x2 x3 A n c, e = .returned (pV q) ∧ BN W' q [.int .i64 x0, .int .i64 x1, .int .i64 x2, .int .i64 x3, .slice A n c] ∧ Below V.heap.size V W' ∧
      ∀ X, BN X b [.int .i64 x0, .int .i64 x1, .int .i64 x2, .int .i64 x3, .slice A n c] → Only [b] W' X → ∃ kb2 cap2, V.heap.size ≤ kb2 ∧ kb2 < X.heap.size ∧ (F.remk b kb2 cap2 al (.leaf c1 p1 u1 v1 (.leaf c2 p2 u2 v2 .nil))).In X := by
  have hin : (F.leaf c1 p1 u1 v1 (.leaf c2 p2 u2 v2 .nil)).In V := ⟨h1, h2, trivial⟩
  refine (split_at (al := al) (kb := kb) (c := 2) (K := .leaf c1 p1 u1 v1 (.leaf c2 p2 u2 v2 .nil)) hin trivial (fun i v hi => by
    rw [hB.cell]
    exact hi) (by simp [F.cnt])).mono ?_
  rintro e W' ⟨u, hown, hbl, hb3, hor⟩
  obtain ⟨q, x0, x1, x2, x3, A, n, c, r1, r2, r3⟩ := res5 (b := b) rfl hin hb3 trivial (by simp [F.len]) hown hbl hor (by simp [F.blks, hb1, hb2]) hb
  exact ⟨q, x0, x1, x2, x3, A, n, c, r1, r2, hb3, r3⟩
theorem splat_make {T : F} {w w1 X : World} {b g c kb2 cap2 c1 c2 : Nat} {al p1 u1 v1 p2 u2 v2 p s0 s1 : Int} {l : List Value} {frs : List Fr} (hperm : T.blks.Perm ((F.leaf b p s0 s1 .nil).blks ++ frsB frs)) (hnod : T.blks.Nodup) (hptl : T.ptrs = lastP [pV b] frs) (hcnt : T.cnt = 1 + frsC frs) (hfew : T.cnt ≤ 100000) (hbig : T.blks.length ≤ 1000000)
    (hfh : ∀ fr ∈ frs, fr.l.has1 ∧ fr.r.has1) (hfr : FrsIn w [pV b] frs) (hin : T.In w) (ho : Only [b] w X) (hin9 : (F.remk b kb2 cap2 al (.leaf c1 p1 u1 v1 (.leaf c2 p2 u2 v2 .nil))).In X) (h1 : w.heap.size ≤ c1) (h2 : w.heap.size ≤ c2) (h12 : c1 ≠ c2) (hk : w.heap.size ≤ kb2) (hk1 : kb2 ≠ c1) (hk2 : kb2 ≠ c2)
    (hg : w.heap.size ≤ g) (hgX : g < X.heap.size) (hl : l = pV b :: frs.map (fun fr => pV fr.b)) (hcell : ∀ (j : Nat) u, l[j]? = some u → w1.cell? ((⟨g, 0, none⟩ : Addr).add j) = some u) (hw1 : X.heap[g]? = w1.heap[g]?) {o : Nat} (ho1 : o = 1 ∨ frs = []) :
    Calls Tryd.prog 30 #[.slice (some ⟨g, o, none⟩) frs.length c] X fun e w' => e = .returned (.tuple #[]) ∧ Splat T w w' (.node 0 0 0 al (.leaf 0 p1 u1 v1 (.leaf 0 p2 u2 v2 .nil)) .nil) frs := by
  have hrk : F.remk b kb2 cap2 al (.leaf c1 p1 u1 v1 (.leaf c2 p2 u2 v2 .nil)) = .node b kb2 cap2 al (.leaf c1 p1 u1 v1 (.leaf c2 p2 u2 v2 .nil)) .nil := by
    unfold F.remk
    rw [if_neg (by simp [F.flat, F.len])]
    rfl
  rw [hrk] at hin9
  have hbT : b ∈ T.blks := hperm.mem_iff.2 (by simp [F.blks])
  have hfT : ∀ x ∈ frsB frs, x ∈ T.blks := fun x hx => hperm.mem_iff.2 (by simp [hx])
  have hlt := hin.lt
  have hbl := hlt b hbT
  have hnod2 := hperm.nodup_iff.1 hnod
  have hbf : b ∉ frsB frs := fun hx => (List.nodup_append.1 hnod2).2.2 b (by simp [F.blks]) b hx rfl
  have hfl := frs_len frs
  have hlen : (frsB frs).length ≤ T.blks.length := by rw [hperm.length_eq, List.length_append]; omega
  have hrem := remake_at (w := X) (t0 := .node b kb2 cap2 al (.leaf c1 p1 u1 v1 (.leaf c2 p2 u2 v2 .nil)) .nil) (frs := frs) (g := g) (o := o) (c := c) (D := b :: kb2 :: c1 :: c2 :: frsB frs) hin9 ⟨by simp [F.len], trivial, trivial⟩
    (hfr.only ho fun x hx hm => by rw [List.mem_singleton] at hm; subst hm; exact hbf hx) hfh
    (by
      refine List.nodup_append.2 ⟨?_, (List.nodup_append.1 hnod2).2.1, fun x hx y hy => ?_⟩
      · simp only [F.blks, List.append_nil]
        simp only [List.nodup_cons, List.mem_cons, List.not_mem_nil, or_false, not_or, not_false_eq_true, List.nodup_nil, and_true]
        omega
      · rintro rfl
        have h3 := hlt x (hfT x hy)
        simp only [F.blks, List.append_nil, List.mem_cons, List.not_mem_nil, or_false] at hx
        rcases hx with rfl | rfl | rfl | rfl
        · exact hbf hy
        · omega
        · omega
        · omega)
    (fun x hx => by simpa [F.blks] using hx) (fun fr r _ => by show 1 ≤ fr.l.len + 1 + fr.r.len; omega) (by show 1 + (1 + 0) + 0 + frsC frs ≤ _; omega) (by omega) hgX
    (fun hm => by have := hlt _ (hfT _ (frs_mem _ hm)); omega)
    (fun i fr hi => by
      obtain rfl : o = 1 := ho1.resolve_right fun h => by rw [h] at hi; simp at hi
      have h3 := hcell (i + 1) (pV fr.b) (by rw [hl, List.getElem?_cons_succ, List.getElem?_map, hi]; rfl)
      have e2 : (⟨g, 0, none⟩ : Addr).add (i + 1) = ⟨g, 1 + i, none⟩ := by
        have : (⟨g, 0, none⟩ : Addr).add (i + 1) = ⟨g, 0 + (i + 1), none⟩ := by unfold Addr.add; split <;> simp_all
        rw [this]
        congr 1
        omega
      rw [e2] at h3
      exact (World.cell?_of_block (w := w1) (a := ⟨g, 1 + i, none⟩) hw1).trans h3)
  refine hrem.mono ?_
  rintro e w' ⟨rfl, T', hR⟩
  have hsame : T'.bare = (rema (.node 0 0 0 al (.leaf 0 p1 u1 v1 (.leaf 0 p2 u2 v2 .nil)) .nil) frs).bare := hR.same.trans (rema_bare (t := .node b kb2 cap2 al (.leaf c1 p1 u1 v1 (.leaf c2 p2 u2 v2 .nil)) .nil) (t2 := .node 0 0 0 al (.leaf 0 p1 u1 v1 (.leaf 0 p2 u2 v2 .nil)) .nil) rfl frs)
  refine ⟨rfl, ⟨T', hR.tin, hR.has1, by have := hR.nod; simpa [frsB] using this, fun x hx => ?_, ?_, hsame, ?_⟩, ?_⟩
  · rcases hR.dom x hx with h | h
    · simp only [List.mem_cons] at h
      rcases h with rfl | rfl | rfl | rfl | h
      · exact .inl hbT
      · exact .inr hk
      · exact .inr h1
      · exact .inr h2
      · exact .inl (hfT x h)
    · exact .inr (Nat.le_trans ho.size h)
  · rw [hptl]
    exact hR.last
  · have h3 : T'.cnt + 0 = (1 + (1 + 0) + 0) + frsC frs := hR.few
    omega
  · refine (ho.mono fun x hx => ?_).trans (hR.only.mono fun x hx => hfT x (frs_mem x hx))
    rw [List.mem_singleton] at hx
    rw [hx]
    exact hbT
end Go.Proofs.YtkanglfpiahecaaDoor.Lyt
