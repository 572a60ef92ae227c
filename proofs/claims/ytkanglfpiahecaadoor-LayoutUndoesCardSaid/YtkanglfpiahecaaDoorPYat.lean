/- The kids of a node, with where they lie. -/
import Derived.Test.YtkanglfpiahecaaDoorPYsp
import Derived.Deep.RegionLaw
import Derived.BigRegion
import Derived.LaidEqlPtr
namespace Go.Proofs.YtkanglfpiahecaaDoor.Lyt
open Go.RowKit

/-- A place, along a way so far on. -/
def onA (a : Int) (x y d : Int) : Int × Int := if a = 0 then (x + d, y) else (x, y + d)
section
variable {W : World} {n0 b kb n cap kv : Nat} {x y z al : Int} {v : Value} {caps : Array Value} {G : List Nat} {Q : World → Prop}
set_option maxRecDepth 100000 in
set_option maxHeartbeats 4000000 in
theorem eachAt1_at (hent : ∀ (args : Array Value) (W : World), (callFunc kv args).run Tryd.prog W = .ok (.enter kv args) W) (hal : al = 0 ∨ al = 1)
    (h0 : BL W n0 63 [pV b]) (h1 : BL W (n0 + 1) 49 [.int .i64 x, .int .i64 y]) (h2 : BL W (n0 + 2) 83 [.func (.func kv) #[] caps]) (hb : BN W b (nodeC kb n cap al))
    (hG : ∀ k ∈ G, k < n0) (hbG : b ∉ G) (hbn : b < n0)
    (hk : Calls Tryd.prog kv (#[v, .agg #[.int .i64 x, .int .i64 y]] ++ caps) W fun e W' => e = .returned (.tuple #[]) ∧ Q W' ∧ OnlyB (n0 + 3) G W W')
    (hh : ∀ V, OnlyB (n0 + 3) G W V → Calls Tryd.prog 46 #[v, .int .i64 al] V fun e W' => e = .returned (.int .i64 z) ∧ Below V.heap.size V W')
    (hQ : ∀ V V', Q V → Only [n0 + 1] V V' → Q V') (hx : 0 ≤ x ∧ x ≤ 1000000000000 ∧ 0 ≤ y ∧ y ≤ 1000000000000) (hz : 0 ≤ z ∧ z ≤ 1000000000000) :
    Calls Tryd.prog 62 #[v, pV (n0 + 2), pV (n0 + 1), pV n0] W fun e W' => e = .returned (.tuple #[]) ∧ Q W' ∧ BL W' (n0 + 1) 49 [.int .i64 (onA al x y (z + 1)).1, .int .i64 (onA al x y (z + 1)).2] ∧ OnlyB (n0 + 3) ((n0 + 1) :: G) W W' := by
  have hn3 : n0 + 2 < W.heap.size := h2.lt
  have a0 : W.cell? ⟨n0 + 1, 0, none⟩ = some (.int .i64 x) := h1.cell 0
  have a1 : W.cell? ⟨n0 + 1, 1, none⟩ = some (.int .i64 y) := h1.cell 1
  have f0 := h2.cell 0
  have HK := Lib.hid hk
  have HH := Lib.hid hh
  have H0 := Lib.hid h0
  have H1 := Lib.hid h1
  have HB := Lib.hid hb
  have HQ := Lib.hid hQ
  have HG := Lib.hid hG
  clear hk hh h0 h1 h2 hb hQ hG
  unfold pV
  go_enter Tryd.func62, Tryd.ntmps62
  go_wp2_with fail
  refine HK.out.mono ?_
  rintro _ w1 ⟨rfl, hq1, ho1⟩
  have hs1 := ho1.size
  have hn2 : n0 + 2 < W.heap.size := hn3
  have hGn : ∀ k, n0 ≤ k → k ∉ G := fun k hk hm => by have := HG.out k hm; omega
  have h0' := H0.out.onlyB ho1 (by omega) (hGn _ (Nat.le_refl _))
  have h1' := H1.out.onlyB ho1 (by omega) (hGn _ (by omega))
  have hb' := HB.out.onlyB ho1 (by omega) hbG
  have hd : Below w1.heap.size w1 w1.drew := (Below.refl _ _).drew
  have HQ1 := Lib.hid hq1
  have j1 : IntKind.i64.wrap (z + 1) = z + 1 := IntWalk.i64_in _ ⟨by omega, by omega⟩
  have j2 : IntKind.i64.wrap (x + (z + 1)) = x + (z + 1) := IntWalk.i64_in _ ⟨by omega, by omega⟩
  have j3 : IntKind.i64.wrap (y + (z + 1)) = y + (z + 1) := IntWalk.i64_in _ ⟨by omega, by omega⟩
  have hfin : ∀ (V : World) (x' y' : Int), Below w1.heap.size w1 V → ∀ (i : Nat) (u : Value), [Value.int .i64 x, .int .i64 y].set i u = [.int .i64 x', .int .i64 y'] →
      Q (V.setCell ⟨n0 + 1, i, none⟩ u) ∧ BL (V.setCell ⟨n0 + 1, i, none⟩ u) (n0 + 1) 49 [.int .i64 x', .int .i64 y'] ∧ OnlyB (n0 + 3) ((n0 + 1) :: G) W (V.setCell ⟨n0 + 1, i, none⟩ u) := fun V x' y' hV i u he => by
    have o2 : Only [n0 + 1] w1 (V.setCell ⟨n0 + 1, i, none⟩ u) := (Only.of_below hV).setCell (p := ⟨n0 + 1, i, none⟩) (.inl (by simp)) u
    refine ⟨HQ.out _ _ HQ1.out o2, ?_, (ho1.mono (Nat.le_refl _) fun k hk => List.mem_cons_of_mem _ hk).trans ((o2.toB (by omega)).mono (Nat.le_refl _) fun k hk => by rw [List.mem_singleton] at hk; rw [hk]; exact List.mem_cons_self ..)⟩
    rw [← he]
    exact (h1'.only (Only.of_below (F := []) hV) (by simp)).set_ i u
  have HFIN := Lib.hid hfin
  have hhas : ∀ V, Below w1.heap.size w1 V → Calls Tryd.prog 46 #[v, .int .i64 al] V fun e W' => e = .returned (.int .i64 z) ∧ Below V.heap.size V W' := fun V hV => HH.out V (ho1.trans ((Only.of_below hV).toB (by omega)))
  have HHAS := Lib.hid hhas
  clear hfin hhas hq1 HH HK HQ hent
  have hB0 : ∀ V, Below w1.heap.size w1 V → V.cell? ⟨n0, 0, none⟩ = some (.pointer (some ⟨b, 0, none⟩)) := fun V hV => (h0'.only (Only.of_below (F := []) hV) (by simp)).cell 0
  have hB3 : ∀ V, Below w1.heap.size w1 V → V.cell? ⟨b, 3, none⟩ = some (.int .i64 al) := fun V hV => (hb'.only (Only.of_below (F := []) hV) (by simp)).cell 3
  have hBx : ∀ V, Below w1.heap.size w1 V → V.cell? ⟨n0 + 1, 0, none⟩ = some (.int .i64 x) ∧ V.cell? ⟨n0 + 1, 1, none⟩ = some (.int .i64 y) ∧ V.frozen? ⟨n0 + 1, 0, none⟩ = false ∧ V.frozen? ⟨n0 + 1, 1, none⟩ = false := fun V hV => by
    have := h1'.only (Only.of_below (F := []) hV) (by simp)
    exact ⟨this.cell 0, this.cell 1, this.frozen 0, this.frozen 1⟩
  rcases hal with rfl | rfl
  · have d0 := hB0 _ hd
    have d3 := hB3 _ hd
    have d4 := (hBx _ hd).1
    have KC : ∀ V, Below w1.heap.size w1 V → (V.cell? ⟨n0, 0, none⟩ = some (.pointer (some ⟨b, 0, none⟩)) ∧ V.cell? ⟨b, 3, none⟩ = some (.int .i64 0) ∧ V.cell? ⟨n0 + 1, 0, none⟩ = some (.int .i64 x) ∧ V.frozen? ⟨n0 + 1, 0, none⟩ = false) := fun V hV => ⟨hB0 V hV, hB3 V hV, (hBx V hV).1, (hBx V hV).2.2.1⟩
    have HKC := Lib.hid KC
    have HD := Lib.hid hd
    clear h0' h1' hb' hB0 hB3 HB H0 H1 hBx KC a0 a1 f0 hd
    go_wp2_with fail
    go_region_law
      (first
        | (go_simp; go_at_call 46; refine (HHAS.out _ HD.out).mono ?_; rintro _ w3 ⟨rfl, hb3⟩; have hbd3 := HD.out.trans (hb3.mono HD.out.size); obtain ⟨z0, z3, z4, z4f⟩ := HKC.out _ hbd3))
    all_goals
      have hf := HFIN.out w3 (x + (z + 1)) y hbd3 0 (.int .i64 (x + (z + 1))) rfl
      have HF := Lib.hid hf
      clear hf z0 z3 z4 z4f d0 d3 d4 HFIN HKC HHAS
      go_wp2_with fail
      exact body_end rfl rfl ⟨rfl, HF.out.1, HF.out.2.1, HF.out.2.2⟩
  · have d0 := hB0 _ hd
    have d3 := hB3 _ hd
    have d4 := (hBx _ hd).2.1
    have KC : ∀ V, Below w1.heap.size w1 V → (V.cell? ⟨n0, 0, none⟩ = some (.pointer (some ⟨b, 0, none⟩)) ∧ V.cell? ⟨b, 3, none⟩ = some (.int .i64 1) ∧ V.cell? ⟨n0 + 1, 1, none⟩ = some (.int .i64 y) ∧ V.frozen? ⟨n0 + 1, 1, none⟩ = false) := fun V hV => ⟨hB0 V hV, hB3 V hV, (hBx V hV).2.1, (hBx V hV).2.2.2⟩
    have HKC := Lib.hid KC
    have HD := Lib.hid hd
    clear h0' h1' hb' hB0 hB3 HB H0 H1 hBx KC a0 a1 f0 hd
    go_wp2_with fail
    go_region_law
      (first
        | (go_simp; go_at_call 46; refine (HHAS.out _ HD.out).mono ?_; rintro _ w3 ⟨rfl, hb3⟩; have hbd3 := HD.out.trans (hb3.mono HD.out.size); obtain ⟨z0, z3, z4, z4f⟩ := HKC.out _ hbd3))
    all_goals
      have hf := HFIN.out w3 x (y + (z + 1)) hbd3 1 (.int .i64 (y + (z + 1))) rfl
      have HF := Lib.hid hf
      clear hf z0 z3 z4 z4f d0 d3 d4 HFIN HKC HHAS
      go_wp2_with fail
      exact body_end rfl rfl ⟨rfl, HF.out.1, HF.out.2.1, HF.out.2.2⟩
end
end Go.Proofs.YtkanglfpiahecaaDoor.Lyt
/- The kids of a node, with where they lie: all of them. -/
namespace Go.Proofs.YtkanglfpiahecaaDoor.Lyt
open Go.RowKit

/-- Where kid i lies. -/
def posA (al x y : Int) (vs : List Int) (i : Nat) : Int × Int := onA al x y ((vs.take i).sum + (i : Int))
theorem posA_succ {al x y : Int} {vs : List Int} {i : Nat} (h : i < vs.length) : onA al (posA al x y vs i).1 (posA al x y vs i).2 (vs[i] + 1) = posA al x y vs (i + 1) := by
  have htk : vs.take (i + 1) = vs.take i ++ [vs[i]] := List.take_succ_eq_append_getElem h
  unfold posA onA
  rw [htk, List.sum_append, List.sum_cons, List.sum_nil, Int.add_zero]
  split
  · refine Prod.ext ?_ rfl
    show x + _ + _ = x + _
    push_cast
    omega
  · refine Prod.ext rfl ?_
    show y + _ + _ = y + _
    push_cast
    omega
theorem posA_zero (al x y : Int) (vs : List Int) : posA al x y vs 0 = (x, y) := by
  unfold posA onA
  split <;> simp
theorem take_get {l : List Int} (h : ∀ x ∈ l, 0 ≤ x) {i : Nat} (hi : i < l.length) : 0 ≤ (l.take i).sum ∧ (l.take i).sum + l[i] ≤ l.sum := by
  have h1 := sum_take h i
  have h2 := sum_take h (i + 1)
  have e : l.take (i + 1) = l.take i ++ [l[i]] := List.take_succ_eq_append_getElem hi
  rw [e, List.sum_append, List.sum_cons, List.sum_nil, Int.add_zero] at h2
  omega
set_option maxRecDepth 100000 in
set_option maxHeartbeats 4000000 in
theorem eachAt_at {b kb cap kv : Nat} {al x y : Int} {ks : F} {caps : Array Value} {G : List Nat} {I : Nat → World → Prop} {w : World}
    (hent : ∀ (args : Array Value) (W : World), (callFunc kv args).run Tryd.prog W = .ok (.enter kv args) W) (hal : al = 0 ∨ al = 1) (h1 : ks.has1) (h2 : ks.sized) (h3 : ks.cnt ≤ 100000)
    (hb : BN w b (nodeC kb ks.len cap al)) (hr : RowAt w kb cap ks.ptrs) (hks : ks.In w) (hG : ∀ k ∈ G, k < w.heap.size) (hGd : ∀ k ∈ b :: kb :: ks.blks, k ∉ G)
    (hx : 0 ≤ x ∧ x ≤ 1000000 ∧ 0 ≤ y ∧ y ≤ 1000000) (hI : I 0 w) (hst : ∀ i V V', I i V → Only [w.heap.size + 1] V V' → I i V')
    (hstep : ∀ i V v, ks.ptrs[i]? = some v → I i V → OnlyB w.heap.size G w V → w.heap.size + 3 ≤ V.heap.size → Calls Tryd.prog kv (#[v, .agg #[.int .i64 (posA al x y (ks.vals al (szA al)) i).1, .int .i64 (posA al x y (ks.vals al (szA al)) i).2]] ++ caps) V fun e V' => e = .returned (.tuple #[]) ∧ I (i + 1) V' ∧ OnlyB (w.heap.size + 3) G V V') :
    Calls Tryd.prog 43 #[pV b, .agg #[.int .i64 x, .int .i64 y], .func (.func kv) #[] caps] w fun e w' => e = .returned (.tuple #[]) ∧ I ks.len w' ∧ Only G w w' := by
  have hsm := small_le (a := al) (g := szA al) h1 (F.all_mono (fun p s0 s1 h => by unfold szA; split <;> omega) h2) h3
  have hlen := F.vals_len al (szA al) ks
  have hpl := F.ptrs_len ks
  have hh := fun V (hV : ks.In V) i v z => has_at (a := al) (w := V) (i := i) (v := v) (z := z) hal h1 h2 h3 hV
  generalize ks.vals al (szA al) = vs at *
  have hb0 : Below w.heap.size w (((w.alloc (.cells #[pV b] 63)).alloc (.cells #[.int .i64 x, .int .i64 y] 49)).alloc (.cells #[.func (.func kv) #[] caps] 83)) := (((Below.refl _ _).alloc (Nat.le_refl _) _).alloc (by simp) _).alloc (by simp; omega) _
  have hA := ((BL.new w 63 [pV b]).alloc (.cells #[.int .i64 x, .int .i64 y] 49)).alloc (.cells #[.func (.func kv) #[] caps] 83)
  have hB := (BL.new (w.alloc (.cells #[pV b] 63)) 49 [.int .i64 x, .int .i64 y]).alloc (.cells #[.func (.func kv) #[] caps] 83)
  have hC := BL.new ((w.alloc (.cells #[pV b] 63)).alloc (.cells #[.int .i64 x, .int .i64 y] 49)) 83 [.func (.func kv) #[] caps]
  rw [size_alloc] at hB
  rw [size_alloc, size_alloc] at hC
  have HSM := Lib.hid hsm
  have HB := Lib.hid hb
  have HR := Lib.hid hr
  have HK := Lib.hid hks
  have HG := Lib.hid hG
  have HGD := Lib.hid hGd
  have HI := Lib.hid hI
  have HST := Lib.hid hst
  have HSTEP := Lib.hid hstep
  have HH := Lib.hid hh
  clear hsm hb hr hks hG hGd hI hst hstep hh h1 h2 h3
  unfold pV at hA hB hC hb0 ⊢
  go_enter Tryd.func43, Tryd.ntmps43
  go_upto_region 1 with fail
  generalize hW : ((w.alloc (.cells #[.pointer (some ⟨b, 0, none⟩)] 63)).alloc (.cells #[.int .i64 x, .int .i64 y] 49)).alloc (.cells #[.func (.func kv) #[] caps] 83) = W at *
  have hoW : OnlyB w.heap.size G w W := OnlyB.of_below hb0
  have h4 : W.cell? ⟨b, 4, none⟩ = some (.slice (some ⟨kb, 0, none⟩) ks.len cap) := (HB.out.only (Only.of_below (F := []) hb0) (by simp)).cell 4
  have hsz : w.heap.size + 3 ≤ W.heap.size := by have := hC.lt; omega
  have ke := each_at b kb ks.len cap (some ⟨kb, 0, none⟩) 62 #[pV (w.heap.size + 2), pV (w.heap.size + 1), pV w.heap.size] (fun i => ks.ptrs.getD i undef)
    (fun i V => I i V ∧ BL V w.heap.size 63 [pV b] ∧ BL V (w.heap.size + 1) 49 [.int .i64 (posA al x y vs i).1, .int .i64 (posA al x y vs i).2] ∧ BL V (w.heap.size + 2) 83 [.func (.func kv) #[] caps] ∧ OnlyB w.heap.size G w V) W
    (enters_of Tryd.func62 (by kernel_rfl) rfl) h4 (fun _ => rfl)
    (fun i V hi hV => by
      have hr := (HR.out.onlyB hV.2.2.2.2 HR.out.lt (HGD.out kb (by simp))).cell (i := i) (by omega)
      exact hr.trans (getD_some (by omega)))
    (fun i V hi hV => by
      obtain ⟨qI, q0, q1, q2, qo⟩ := hV
      have hiv : i < vs.length := by omega
      have hvi : 0 ≤ vs[i] := HSM.out.1 _ (List.getElem_mem hiv)
      have htg := take_get HSM.out.1 hiv
      have hsv : w.heap.size + 3 ≤ V.heap.size := by have := q2.lt; omega
      have hv := getD_some (l := ks.ptrs) (i := i) (by omega)
      have hk := HSTEP.out i V _ hv qI qo hsv
      have hp : 0 ≤ (posA al x y vs i).1 ∧ (posA al x y vs i).1 ≤ 1000000000000 ∧ 0 ≤ (posA al x y vs i).2 ∧ (posA al x y vs i).2 ≤ 1000000000000 := by
        have := HSM.out.2
        unfold posA onA
        split <;> (simp only; omega)
      have k1 := eachAt1_at (z := vs[i]) (Q := I (i + 1)) hent hal q0 q1 q2 (HB.out.onlyB qo HB.out.lt (HGD.out b (by simp))) HG.out (HGD.out b (by simp)) HB.out.lt hk
        (fun X hX => HH.out X (HK.out.onlyB (qo.trans (hX.mono (by omega) fun k hk => hk)) fun k hk => ⟨HK.out.lt k hk, HGD.out k (by simp [hk])⟩) i _ _ hv (List.getElem?_eq_getElem hiv))
        (fun X X' => HST.out (i + 1) X X') hp (by have := HSM.out.2; omega)
      refine k1.mono ?_
      rintro e V' ⟨rfl, rI, r1, ro⟩
      refine ⟨rfl, rI, q0.onlyB ro (by omega) ?_, ?_, q2.onlyB ro (by omega) ?_, qo.trans ⟨ro.os, ro.tape, ro.output, ro.size, fun k hk hn => ro.block k (by omega) fun hm => ?_⟩⟩
      · intro hm
        rcases List.mem_cons.1 hm with h | h
        · omega
        · have := HG.out _ h; omega
      · rw [posA_succ hiv] at r1
        exact r1
      · intro hm
        rcases List.mem_cons.1 hm with h | h
        · omega
        · have := HG.out _ h; omega
      · rcases List.mem_cons.1 hm with h | h
        · omega
        · exact hn h)
    ⟨HST.out 0 w W HI.out (Only.of_below hb0), hA, by rw [posA_zero]; exact hB, hC, hoW⟩ (by have := HSM.out.2; have := sum_nn HSM.out.1; omega)
  have KE := Lib.hid ke
  have c0 := hA.cell 0
  clear ke hA hB hC HB HR HK HSTEP HST HI HH
  unfold pV at KE
  go_wp2_with fail
  refine KE.out.mono ?_
  rintro _ w2 ⟨rfl, q0, q1, q2, q3, q4⟩
  go_wp2_with fail
  exact body_end rfl rfl ⟨rfl, q0, q4.toOnly (Nat.le_refl _)⟩
end Go.Proofs.YtkanglfpiahecaaDoor.Lyt
/- Where panes lie: plain words. -/
namespace Go.Proofs.YtkanglfpiahecaaDoor.Lyt
open Go.RowKit

/-- A pane's box: its number, its place, its size. -/
abbrev Bx := Int × Int × Int × Int × Int
def bxC (b : Bx) : List Value := [.int .i64 b.1, .int .i64 b.2.1, .int .i64 b.2.2.1, .int .i64 b.2.2.2.1, .int .i64 b.2.2.2.2]
/-- The place of kid i, of a split that lies there. -/
def F.kx (al : Int) (ks : F) (x y : Int) (i : Nat) : Int × Int := posA al x y (ks.vals al (szA al)) i
/-- The boxes of each of some trees, if it lies there. -/
def F.bxl : F → Int → Int → List (List Bx)
  | .nil, _, _ => []
  | .leaf _ p s0 s1 r, x, y => [(p, x, y, s0, s1)] :: r.bxl x y
  | .node _ _ _ al ks r, x, y => ((List.range ks.len).flatMap fun i => (ks.bxl (ks.kx al x y i).1 (ks.kx al x y i).2).getD i []) :: r.bxl x y
theorem F.bxl_len : ∀ (f : F) (x y : Int), (f.bxl x y).length = f.len
  | .nil, _, _ => rfl
  | .leaf _ _ _ _ r, x, y => by simp [F.bxl, F.len, F.bxl_len r]
  | .node _ _ _ _ _ r, x, y => by simp [F.bxl, F.len, F.bxl_len r]
theorem flatMap_succ {α : Type} (g : Nat → List α) (n : Nat) : (List.range (n + 1)).flatMap g = (List.range n).flatMap g ++ g n := by
  rw [List.range_succ, List.flatMap_append]
  simp
/-- How many they are. -/
def F.cnts : F → List Nat
  | .nil => []
  | .leaf _ _ _ _ r => 1 :: r.cnts
  | .node _ _ _ _ ks r => ks.cnt :: r.cnts
theorem F.cnts_len : ∀ f : F, f.cnts.length = f.len
  | .nil => rfl
  | .leaf _ _ _ _ r => by simp [F.cnts, F.len, F.cnts_len r]
  | .node _ _ _ _ _ r => by simp [F.cnts, F.len, F.cnts_len r]
theorem F.cnts_sum : ∀ f : F, f.cnts.sum = f.cnt
  | .nil => rfl
  | .leaf _ _ _ _ r => by simp [F.cnts, F.cnt, F.cnts_sum r]; omega
  | .node _ _ _ _ _ r => by simp [F.cnts, F.cnt, F.cnts_sum r]
theorem flatMap_sum {α : Type} (g : Nat → List α) (l : List Nat) (h : ∀ i c, l[i]? = some c → (g i).length = c) : ((List.range l.length).flatMap g).length = l.sum := by
  induction l generalizing g with
  | nil => simp
  | cons c l ih =>
    rw [List.length_cons, List.range_succ_eq_map, List.flatMap_cons, List.length_append, List.flatMap_map, h 0 c rfl, List.sum_cons, ih (fun i => g (i + 1)) fun i d hd => h (i + 1) d (by simpa using hd)]
theorem F.bxl_cnt : ∀ (f : F) (x y : Int) (i : Nat) (l : List Bx) (c : Nat), (f.bxl x y)[i]? = some l → f.cnts[i]? = some c → l.length = c
  | .nil, _, _, _, _, _, h, _ => by simp [F.bxl] at h
  | .leaf _ p s0 s1 r, x, y, i, l, c, h, hc => by
    cases i with
    | zero =>
      obtain rfl : [(p, x, y, s0, s1)] = l := by simpa [F.bxl] using h
      obtain rfl : 1 = c := by simpa [F.cnts] using hc
      rfl
    | succ i => exact F.bxl_cnt r x y i l c (by simpa [F.bxl] using h) (by simpa [F.cnts] using hc)
  | .node _ _ _ al ks r, x, y, i, l, c, h, hc => by
    cases i with
    | zero =>
      obtain rfl : ((List.range ks.len).flatMap fun i => (ks.bxl (ks.kx al x y i).1 (ks.kx al x y i).2).getD i []) = l := by simpa [F.bxl] using h
      obtain rfl : ks.cnt = c := by simpa [F.cnts] using hc
      rw [← F.cnts_len ks, ← F.cnts_sum ks]
      refine flatMap_sum _ _ fun i d hd => ?_
      have hi : i < ks.len := by
        rw [← F.cnts_len ks]
        exact (List.getElem?_eq_some_iff.1 hd).1
      refine F.bxl_cnt ks (ks.kx al x y i).1 (ks.kx al x y i).2 i _ d ?_ hd
      rw [List.getD_eq_getElem?_getD, List.getElem?_eq_getElem (by rw [F.bxl_len]; exact hi)]
      rfl
    | succ i => exact F.bxl_cnt r x y i l c (by simpa [F.bxl] using h) (by simpa [F.cnts] using hc)
theorem F.cnts_pos : ∀ (f : F), f.has1 → ∀ (i c : Nat), f.cnts[i]? = some c → 1 ≤ c ∧ c ≤ f.cnt
  | .nil, _, _, _, h => by simp [F.cnts] at h
  | .leaf _ _ _ _ r, h1, i, c, h => by
    cases i with
    | zero =>
      obtain rfl : 1 = c := by simpa [F.cnts] using h
      simp [F.cnt]
    | succ i =>
      have := F.cnts_pos r h1 i c (by simpa [F.cnts] using h)
      simp [F.cnt]; omega
  | .node _ _ _ _ ks r, h1, i, c, h => by
    cases i with
    | zero =>
      obtain rfl : ks.cnt = c := by simpa [F.cnts] using h
      have := F.len_cnt ks h1.2.1
      have := h1.1
      simp [F.cnt]; omega
    | succ i =>
      have := F.cnts_pos r h1.2.2 i c (by simpa [F.cnts] using h)
      simp [F.cnt]; omega
/-- A tree that lies within so many columns and rows. -/
def Within (x y v0 v1 : Int) : Prop := 0 ≤ x ∧ x + v0 ≤ 1000000 ∧ 0 ≤ y ∧ y + v1 ≤ 1000000
theorem le_maxL {l : List Int} {v : Int} (hv : v ∈ l) : v ≤ maxL l := by
  have key : ∀ (l : List Int) (m : Int), m ≤ l.foldl max m ∧ ∀ v ∈ l, v ≤ l.foldl max m := by
    intro l
    induction l with
    | nil => intro m; simp
    | cons a l ih =>
      intro m
      obtain ⟨h1, h2⟩ := ih (max m a)
      refine ⟨by rw [List.foldl_cons]; omega, fun v hv => ?_⟩
      rw [List.foldl_cons]
      rcases List.mem_cons.1 hv with rfl | hv
      · omega
      · exact h2 v hv
  exact (key l 0).2 v hv
/-- Kid i lies within what its split lies in. -/
theorem kid_within {al x y v0 v1 u0 u1 : Int} {ks : F} {i : Nat} (hal : al = 0 ∨ al = 1) (h1 : ks.has1) (h2 : ks.sized) (h3 : ks.cnt ≤ 100000)
    (hv0 : (if al = 0 then (ks.vals 0 (szA 0)).sum + ((ks.len : Int) - 1) else maxL (ks.vals 0 (szA 0))) = v0) (hv1 : (if al = 1 then (ks.vals 1 (szA 1)).sum + ((ks.len : Int) - 1) else maxL (ks.vals 1 (szA 1))) = v1)
    (hu0 : (ks.vals 0 (szA 0))[i]? = some u0) (hu1 : (ks.vals 1 (szA 1))[i]? = some u1) (hw : Within x y v0 v1) : Within (ks.kx al x y i).1 (ks.kx al x y i).2 u0 u1 := by
  have n0 := (small_le (a := 0) (g := szA 0) h1 (F.all_mono (fun p s0 s1 h => by unfold szA; split <;> omega) h2) h3).1
  have n1 := (small_le (a := 1) (g := szA 1) h1 (F.all_mono (fun p s0 s1 h => by unfold szA; split <;> omega) h2) h3).1
  obtain ⟨i0, e0⟩ := List.getElem?_eq_some_iff.1 hu0
  obtain ⟨i1, e1⟩ := List.getElem?_eq_some_iff.1 hu1
  have t0 := take_get n0 i0
  have t1 := take_get n1 i1
  have m0 := le_maxL (List.getElem_mem i0)
  have m1 := le_maxL (List.getElem_mem i1)
  have l0 := F.vals_len 0 (szA 0) ks
  have l1 := F.vals_len 1 (szA 1) ks
  unfold Within at hw ⊢
  unfold F.kx posA onA
  rw [e0] at t0 m0
  rw [e1] at t1 m1
  rcases hal with rfl | rfl
  · simp only [if_true] at hv0 ⊢
    rw [if_neg (by decide)] at hv1
    omega
  · simp only [if_true] at hv1
    rw [if_neg (by decide)] at hv0 ⊢
    simp only
    omega
/-- Each split goes one of the two ways. -/
def F.ways : F → Prop
  | .nil => True
  | .leaf _ _ _ _ r => r.ways
  | .node _ _ _ al ks r => (al = 0 ∨ al = 1) ∧ ks.ways ∧ r.ways
structure F.Ok (f : F) : Prop where
  one : f.has1
  siz : f.sized
  few : f.cnt ≤ 100000
  way : f.ways
  pan : f.all fun p _ _ => 0 ≤ p ∧ p ≤ 1000000000000
  big : f.blks.length ≤ 1000000
theorem F.Ok.rest {b : Nat} {p s0 s1 : Int} {r : F} (h : (F.leaf b p s0 s1 r).Ok) : r.Ok := ⟨h.one, h.siz.2, by have := h.few; simp [F.cnt] at this; omega, h.way, h.pan.2, by have := h.big; simp [F.blks] at this; omega⟩
theorem F.Ok.rest2 {b kb cap : Nat} {al : Int} {ks r : F} (h : (F.node b kb cap al ks r).Ok) : r.Ok := ⟨h.one.2.2, h.siz.2, by have := h.few; simp [F.cnt] at this; omega, h.way.2.2, h.pan.2, by have := h.big; simp [F.blks] at this; omega⟩
theorem F.Ok.kids {b kb cap : Nat} {al : Int} {ks r : F} (h : (F.node b kb cap al ks r).Ok) : ks.Ok := ⟨h.one.2.1, h.siz.1, by have := h.few; simp [F.cnt] at this; omega, h.way.2.1, h.pan.1, by have := h.big; simp [F.blks] at this; omega⟩
theorem nsum_take (l : List Nat) (i : Nat) : (l.take i).sum ≤ l.sum := by
  have e : l.sum = (l.take i).sum + (l.drop i).sum := by rw [← List.sum_append, List.take_append_drop]
  omega
theorem flatMap_few {α : Type} {g : Nat → List α} {ks : F} (h : ∀ i c, ks.cnts[i]? = some c → (g i).length = c) {i : Nat} (hi : i ≤ ks.len) : ((List.range i).flatMap g).length ≤ ks.cnt := by
  have hl : (ks.cnts.take i).length = i := by rw [List.length_take, F.cnts_len]; omega
  have := flatMap_sum g (ks.cnts.take i) fun j c hj => h j c (by
    rw [List.getElem?_take] at hj
    split at hj
    · exact hj
    · cases hj)
  rw [hl] at this
  rw [this, ← F.cnts_sum]
  exact nsum_take _ _
end Go.Proofs.YtkanglfpiahecaaDoor.Lyt
/- Where panes lie: boxes. -/
namespace Go.Proofs.YtkanglfpiahecaaDoor.Lyt
open Go.RowKit

theorem info_box : (Tryd.prog.info? 30).map (fun i => (i.zero, i.size, i.bytes)) = some (some (.agg #[.int .i64 0, .int .i64 0, .int .i64 0, .int .i64 0, .int .i64 0]), 5, 40) := by kernel_rfl
section
variable {ops : Array Oper} {op : Oper} {a : Act} {w : World} {K : Act → World → Prop} {Q : Exit → Act → World → Prop} {E : Prop}
/-- Some appended to a row of the call's own, or to nil, as a step of a region that draws. -/
theorem step_app {t e : TypeId} {z : Value} {size bytes : Nat} (hinf : (Tryd.prog.info? e).map (fun i => (i.zero, i.size, i.bytes)) = some (some z, size, bytes)) (hund : Tryd.prog.underlying t = some (.slice e)) (hzs : z.cells.size = size) (hsz : 0 < size) (hbt : bytes ≤ 100)
    (hgd : op.guard = none) (s x : Operand) (ho : op.op = .call { callee := .builtin .append, args := #[s, x], argTypes := #[t, t] })
    (base : Nat) (v : Value) (n : Nat) (xs : List Value) (g m c : Nat) (news : List Value) (hs : a.eval s = v) (hown : w.ownsRow base e size v n xs) (hx : a.eval x = .slice (some ⟨g, 0, none⟩) m c) (hl : news.length = m * size) (hnew : ∀ j u, news[j]? = some u → w.cell? ((⟨g, 0, none⟩ : Addr).add j) = some u)
    (h1 : ∀ u ∈ news, u.oneCell' = true) (hm : 0 < m) (hbase : base ≤ w.heap.size) (hn : n + m ≤ 1000000000)
    (h : ∀ g' c' w', w'.ownsRow base e size (.slice (some ⟨g', 0, none⟩) (n + m) c') (n + m) (xs ++ news) → Below base w w' → (v.ownBlock = some g' ∨ w.heap.size ≤ g') → w.grownBy w' v.ownBlock → K (a.put op.dst (.slice (some ⟨g', 0, none⟩) (n + m) c')) w') :
    if Region.wanted op (yielded ops a.tmps) = true then Oper.wp Tryd.prog op a w K Q else E := by
  obtain ⟨i0, hi0, hz0, hz1, hz2⟩ := info_parts hinf
  have hb1 : (n + m) * bytes ≤ (n + m) * 100 := Nat.mul_le_mul_left _ hbt
  refine step_append_lies w hgd s x t ho base e i0 z size bytes hund hi0 hz0 hz1 hz2 hzs hsz v n xs hs hown ⟨g, 0, none⟩ m c news hx hl hnew h1 hm (by unfold maxLen; omega) (by omega) hbase w.heap.size rfl ?_
  intro g' c' w' hown' hgr hwh _
  exact h g' c' w' hown' ((Below.refl base w).grown hgr hbase (fun k hk => (hown.lt k hk).1)) (hwh.imp id fun e => by omega) hgr
end
section
variable {W : World} {n0 B : Nat} {v u : Value} {x y : Int} {acc l : List Bx}
set_option maxRecDepth 100000 in
set_option maxHeartbeats 4000000 in
theorem boxes1_at (h0 : BL W n0 27 [u]) (hB : n0 < B) (hBW : B ≤ W.heap.size) (hu : W.ownsRow B 30 5 u acc.length (acc.flatMap bxC)) (hl : l ≠ []) (hn : acc.length + l.length ≤ 1000000)
    (hk : ∀ V, Below W.heap.size W V → Calls Tryd.prog 20 #[v, .agg #[.int .i64 x, .int .i64 y]] V fun e V' => ∃ u, e = .returned u ∧ V'.ownsRow V.heap.size 30 5 u l.length (l.flatMap bxC) ∧ Below V.heap.size V V') :
    Calls Tryd.prog 44 #[v, .agg #[.int .i64 x, .int .i64 y], pV n0] W fun e W' => e = .returned (.tuple #[]) ∧
      ∃ u', BL W' n0 27 [u'] ∧ W'.ownsRow B 30 5 u' (acc ++ l).length ((acc ++ l).flatMap bxC) ∧ OnlyB B [n0] W W' := by
  have hlp : 0 < l.length := by cases l with
    | nil => exact absurd rfl hl
    | cons _ _ => simp
  have hb0 : Below W.heap.size W (W.alloc (.cells #[.int .i64 x, .int .i64 y] 49)) := (Below.refl _ _).alloc (Nat.le_refl _) _
  have hA := BL.new W 49 [.int .i64 x, .int .i64 y]
  have hone : ∀ q ∈ l.flatMap bxC, q.oneCell' = true := by
    intro q hq
    obtain ⟨b, _, hb⟩ := List.mem_flatMap.1 hq
    simp [bxC] at hb
    rcases hb with rfl | rfl | rfl | rfl | rfl <;> rfl
  have hnlt := h0.lt
  have H0 := Lib.hid h0
  have HU := Lib.hid hu
  have HK := Lib.hid hk
  have HONE := Lib.hid hone
  clear h0 hu hk hl hone
  unfold pV
  go_enter Tryd.func44, Tryd.ntmps44
  go_upto_region 1 with fail
  generalize W.alloc (.cells #[.int .i64 x, .int .i64 y] 49) = X at *
  have hd : Below W.heap.size W X.drew := hb0.drew
  have d0 : X.drew.cell? ⟨n0, 0, none⟩ = some u := (H0.out.only (F := []) (Only.of_below hd) (by simp)).cell 0
  have a0 : X.drew.cell? ⟨W.heap.size, 0, none⟩ = some (.int .i64 x) := hA.drew.cell 0
  have a1 : X.drew.cell? ⟨W.heap.size, 1, none⟩ = some (.int .i64 y) := hA.drew.cell 1
  have hsX : W.heap.size + 1 ≤ X.drew.heap.size := by have := hA.drew.lt; omega
  have HA := Lib.hid hA.drew
  have HD := Lib.hid hd
  clear hA hb0 hd
  go_region_law
    (first
      | (go_simp; go_at_call 20; refine (HK.out _ HD.out).mono ?_; rintro _ w3 ⟨u3, rfl, hx3, hb3⟩; have hbd3 := HD.out.trans (hb3.mono HD.out.size); obtain ⟨g3, c3, rfl, hg3⟩ := own_some hx3 (by assumption); have z0 := (H0.out.only (F := []) (Only.of_below hbd3) (by simp)).cell 0; have y0 := (HA.out.only (F := []) (Only.of_below hb3) (by simp)).cell 0; have y1 := (HA.out.only (F := []) (Only.of_below hb3) (by simp)).cell 1; have HX3 := Lib.hid hx3; have hsw := hbd3.size; clear hx3)
      | (refine step_app info_box Tryd.underlying27 rfl (by decide) (by decide) rfl (.tmp 5) (.tmp 8) rfl B u acc.length (acc.flatMap bxC) g3 l.length c3 (l.flatMap bxC) rfl (own_below HU.out hbd3) rfl HX3.out.1 (HX3.out.cells (g := g3) rfl) HONE.out hlp (by omega) (by omega) ?_; intro g4 c4 w4 hown4 hb4 hw4 _; have h04 := (H0.out.only (F := []) (Only.of_below hbd3) (by simp)).keep (hb4.block n0 (by assumption)); have s2 := h04.cell 0; have s2f := h04.frozen 0; have H04 := Lib.hid h04; clear h04))
  all_goals
    have h2b := H04.out.set_ 0 (.slice (some ⟨g4, 0, none⟩) (acc.length + l.length) c4)
    have o2 : OnlyB B [n0] W (w4.setCell ⟨n0, 0, none⟩ (.slice (some ⟨g4, 0, none⟩) (acc.length + l.length) c4)) :=
      ((OnlyB.of_below (hbd3.mono (by omega))).trans (OnlyB.of_below hb4)).trans (((Only.refl [n0] w4).setCell (p := ⟨n0, 0, none⟩) (.inl (by simp)) _).toB (by have := hb4.size; omega))
    refine body_end rfl rfl ⟨rfl, _, h2b, ?_, o2⟩
    rw [List.length_append, List.flatMap_append]
    refine own_only (G := [n0]) hown4 ((Only.refl _ _).setCell (p := ⟨n0, 0, none⟩) (.inl (by simp)) _) fun k hk => ?_
    have : g4 = k := Option.some.inj hk
    have := (hown4.lt g4 rfl).1
    simp; omega
end
end Go.Proofs.YtkanglfpiahecaaDoor.Lyt
/- Where panes lie: boxes, all of them. -/
namespace Go.Proofs.YtkanglfpiahecaaDoor.Lyt
open Go.RowKit

set_option maxRecDepth 100000 in
set_option maxHeartbeats 4000000 in
theorem boxes_leaf {b : Nat} {p s0 s1 x y : Int} {w : World} (hN : BN w b (leafC p s0 s1)) :
    Calls Tryd.prog 20 #[pV b, .agg #[.int .i64 x, .int .i64 y]] w fun e w' => ∃ u, e = .returned u ∧ w'.ownsRow w.heap.size 30 5 u 1 (bxC (p, x, y, s0, s1)) ∧ Below w.heap.size w w' := by
  have hb0 : Below w.heap.size w (w.alloc (.cells #[.int .i64 x, .int .i64 y] 49)) := (Below.refl _ _).alloc (Nat.le_refl _) _
  have hA := BL.new w 49 [.int .i64 x, .int .i64 y]
  have hN2 := hN.only (Only.of_below (F := []) hb0) (by simp)
  have hs0 : w.heap.size + 1 ≤ (w.alloc (.cells #[.int .i64 x, .int .i64 y] 49)).heap.size := by simp
  clear hN
  unfold pV
  go_enter Tryd.func20, Tryd.ntmps20
  go_upto_region 1 with fail
  generalize w.alloc (.cells #[.int .i64 x, .int .i64 y] 49) = X at *
  have c4 : X.cell? ⟨b, 4, none⟩ = some (.slice none 0 0) := hN2.cell 4
  go_wp2_with fail
  refine (isLeaf_at b 0 0 none _ c4).mono ?_
  rintro _ w1 ⟨rfl, rfl⟩
  go_upto_region 2 with fail
  have e0 : X.cell? ⟨b, 0, none⟩ = some (.int .i64 p) := hN2.cell 0
  have e1 : X.cell? ⟨b, 1, none⟩ = some (.int .i64 s0) := hN2.cell 1
  have e2 : X.cell? ⟨b, 2, none⟩ = some (.int .i64 s1) := hN2.cell 2
  have a0 : X.cell? ⟨w.heap.size, 0, none⟩ = some (.int .i64 x) := hA.cell 0
  have a1 : X.cell? ⟨w.heap.size, 1, none⟩ = some (.int .i64 y) := hA.cell 1
  go_region
  clear e0 e1 e2 a0 a1 c4 hN2
  go_wp2_with fail
  go_ret
  exact ⟨_, rfl, ⟨rfl, .inr ⟨X.heap.size, 1, #[.int .i64 p, .int .i64 x, .int .i64 y, .int .i64 s0, .int .i64 s1], rfl, by omega, heap_alloc_new _ _, Nat.le_refl _, by decide, rfl, rfl⟩⟩, (hb0.alloc (by omega) _).drew⟩
set_option maxRecDepth 100000 in
set_option maxHeartbeats 4000000 in
theorem boxes_at (f : F) : f.Ok → ∀ w, f.In w → ∀ (i : Nat) v x y v0 v1 l, f.ptrs[i]? = some v → (f.vals 0 (szA 0))[i]? = some v0 → (f.vals 1 (szA 1))[i]? = some v1 → (f.bxl x y)[i]? = some l → Within x y v0 v1 →
    Calls Tryd.prog 20 #[v, .agg #[.int .i64 x, .int .i64 y]] w fun e w' => ∃ u, e = .returned u ∧ w'.ownsRow w.heap.size 30 5 u l.length (l.flatMap bxC) ∧ Below w.heap.size w w' := by
  induction f with
  | nil => intro _ w _ i v x y v0 v1 l hv; simp [F.ptrs] at hv
  | leaf b p s0 s1 r ih =>
    intro ok w hin i v x y v0 v1 l hv hv0 hv1 hl hw
    cases i with
    | succ i => exact ih ok.rest w hin.2 i v x y v0 v1 l hv hv0 hv1 hl hw
    | zero =>
      obtain rfl : pV b = v := by simpa [F.ptrs] using hv
      obtain rfl : [(p, x, y, s0, s1)] = l := by simpa [F.bxl] using hl
      rw [List.flatMap_cons, List.flatMap_nil, List.append_nil]
      exact boxes_leaf hin.1
  | node b kb cap al ks r ihk ihr =>
    intro ok w hin i v x y v0 v1 l hv hv0 hv1 hl hw
    cases i with
    | succ i => exact ihr ok.rest2 w hin.2.2.2 i v x y v0 v1 l hv hv0 hv1 hl hw
    | zero =>
      obtain rfl : pV b = v := by simpa [F.ptrs] using hv
      have kok := ok.kids
      have hal := ok.way.1
      have hk1 := ok.one.1
      obtain rfl : ((List.range ks.len).flatMap fun i => (ks.bxl (ks.kx al x y i).1 (ks.kx al x y i).2).getD i []) = l := by simpa [F.bxl] using hl
      have hz0 : (if al = 0 then (ks.vals 0 (szA 0)).sum + ((ks.len : Int) - 1) else maxL (ks.vals 0 (szA 0))) = v0 := by simpa [F.vals] using hv0
      have hz1 : (if al = 1 then (ks.vals 1 (szA 1)).sum + ((ks.len : Int) - 1) else maxL (ks.vals 1 (szA 1))) = v1 := by simpa [F.vals] using hv1
      have hnn : 0 ≤ v0 ∧ 0 ≤ v1 := by
        have n0 := small_le (a := 0) (g := szA 0) kok.one (F.all_mono (fun p s0 s1 h => by unfold szA; split <;> omega) kok.siz) kok.few
        have n1 := small_le (a := 1) (g := szA 1) kok.one (F.all_mono (fun p s0 s1 h => by unfold szA; split <;> omega) kok.siz) kok.few
        have := sum_nn n0.1
        have := sum_nn n1.1
        have := maxL_in n0.1
        have := maxL_in n1.1
        constructor
        · rw [← hz0]; split <;> omega
        · rw [← hz1]; split <;> omega
      have hpl := F.ptrs_len ks
      have hkid : ∀ V, ks.In V → ∀ (i : Nat) v l, i < ks.len → ks.ptrs[i]? = some v → (ks.bxl (ks.kx al x y i).1 (ks.kx al x y i).2)[i]? = some l → _ := fun V hV i v l hi hv hl => by
        have q0 : i < (ks.vals 0 (szA 0)).length := by rw [F.vals_len]; exact hi
        have q1 : i < (ks.vals 1 (szA 1)).length := by rw [F.vals_len]; exact hi
        exact ihk kok V hV i v (ks.kx al x y i).1 (ks.kx al x y i).2 _ _ l hv (List.getElem?_eq_getElem q0) (List.getElem?_eq_getElem q1) hl (kid_within hal kok.one kok.siz kok.few hz0 hz1 (List.getElem?_eq_getElem q0) (List.getElem?_eq_getElem q1) hw)
      have hbx : ∀ i, i < ks.len → ∃ l, (ks.bxl (ks.kx al x y i).1 (ks.kx al x y i).2)[i]? = some l ∧ (ks.bxl (ks.kx al x y i).1 (ks.kx al x y i).2).getD i [] = l ∧ l ≠ [] ∧ ∀ c, ks.cnts[i]? = some c → l.length = c := fun i hi => by
        have q : i < (ks.bxl (ks.kx al x y i).1 (ks.kx al x y i).2).length := by rw [F.bxl_len]; exact hi
        have q2 : i < ks.cnts.length := by rw [F.cnts_len]; exact hi
        refine ⟨_, List.getElem?_eq_getElem q, by rw [List.getD_eq_getElem?_getD, List.getElem?_eq_getElem q]; rfl, fun e => ?_, fun c hc => F.bxl_cnt ks _ _ i _ c (List.getElem?_eq_getElem q) hc⟩
        have := F.bxl_cnt ks _ _ i _ _ (List.getElem?_eq_getElem q) (List.getElem?_eq_getElem q2)
        have h1 := F.cnts_pos ks kok.one i _ (List.getElem?_eq_getElem q2)
        rw [e] at this
        simp at this; omega
      generalize hg : (fun i => (ks.bxl (ks.kx al x y i).1 (ks.kx al x y i).2).getD i []) = g at *
      have hgi : ∀ i, (ks.bxl (ks.kx al x y i).1 (ks.kx al x y i).2).getD i [] = g i := fun i => by rw [← hg]
      have hfew : ∀ i, i ≤ ks.len → ((List.range i).flatMap g).length ≤ ks.cnt := fun i hi => flatMap_few (fun j c hj => by
        have hj' : j < ks.len := by rw [← F.cnts_len ks]; exact (List.getElem?_eq_some_iff.1 hj).1
        obtain ⟨l, _, e2, _, e4⟩ := hbx j hj'
        rw [← hgi j, e2]
        exact e4 c hj) hi
      have hb0 : Below w.heap.size w (w.alloc (.cells #[.int .i64 x, .int .i64 y] 49)) := (Below.refl _ _).alloc (Nat.le_refl _) _
      have hA := BL.new w 49 [.int .i64 x, .int .i64 y]
      have hs0 : (w.alloc (.cells #[.int .i64 x, .int .i64 y] 49)).heap.size = w.heap.size + 1 := by simp
      have hnf : decide (ks.len = 0) = false := decide_eq_false (by omega)
      have HIN := Lib.hid hin
      have HKID := Lib.hid hkid
      have HBX := Lib.hid hbx
      have HFEW := Lib.hid hfew
      have HW := Lib.hid (And.intro hw hnn)
      have HOK := Lib.hid kok
      have HGI := Lib.hid hgi
      clear hin hkid hbx hfew hw hnn kok ok hv hv0 hv1 hl hz0 hz1 ihk ihr hg hgi
      obtain ⟨L, hL⟩ : ∃ L, L = (List.range ks.len).flatMap g := ⟨_, rfl⟩
      rw [← hL]
      have HL := Lib.hid hL
      clear hL
      unfold pV
      go_enter Tryd.func20, Tryd.ntmps20
      go_upto_region 1 with fail
      generalize w.alloc (.cells #[.int .i64 x, .int .i64 y] 49) = X at *
      have il := isLeaf_at b ks.len cap (some ⟨kb, 0, none⟩) X ((HIN.out.1.only (Only.of_below (F := []) hb0) (by simp)).cell 4)
      rw [hnf] at il
      go_wp2_with fail
      refine il.mono ?_
      rintro _ w1 ⟨rfl, rfl⟩
      go_upto_region 4 with fail
      have hbY : Below w.heap.size w (X.alloc (.cells #[.slice none 0 0] 27)) := hb0.alloc (by omega) _
      have hA2 := hA.alloc (.cells #[.slice none 0 0] 27)
      have hN := BL.new X 27 [.slice none 0 0]
      have hsY : (X.alloc (.cells #[.slice none 0 0] 27)).heap.size = w.heap.size + 2 := by simp [hs0]
      rw [hs0] at hN
      generalize X.alloc (.cells #[.slice none 0 0] 27) = Y at *
      have hlt := HIN.out.lt
      have ke := eachAt_at (w := Y) (b := b) (kb := kb) (cap := cap) (kv := 44) (al := al) (x := x) (y := y) (ks := ks) (caps := #[pV (w.heap.size + 1)]) (G := [w.heap.size + 1])
        (I := fun i V => ∃ u, BL V (w.heap.size + 1) 27 [u] ∧ V.ownsRow (w.heap.size + 5) 30 5 u ((List.range i).flatMap g).length (((List.range i).flatMap g).flatMap bxC))
        (enters_of Tryd.func44 (by kernel_rfl) rfl) hal HOK.out.one HOK.out.siz HOK.out.few
        (HIN.out.1.only (Only.of_below (F := []) hbY) (by simp)) (HIN.out.2.1.only (Only.of_below (F := []) hbY) (by simp)) (HIN.out.2.2.1.below hbY) (fun k hk => by simp at hk; omega)
        (fun k hk hm => by
          have : k < w.heap.size := hlt k (by
            rcases List.mem_cons.1 hk with rfl | hk
            · simp [F.blks]
            · rcases List.mem_cons.1 hk with rfl | hk
              · simp [F.blks]
              · simp [F.blks, hk])
          simp at hm; omega)
        (by have := HW.out; unfold Within at this; omega)
        ⟨_, hN, World.ownsRow_nil _ _ _ _⟩
        (fun i V V' ⟨u, q1, q2⟩ ho => ⟨u, q1.only ho (by simp; omega), own_only q2 ho fun k hk => by have := (q2.lt k hk).1; simp; omega⟩)
        (fun i V v hv ⟨u, q1, q2⟩ ho hsv => by
          have hi : i < ks.len := by rw [← hpl]; exact (List.getElem?_eq_some_iff.1 hv).1
          obtain ⟨l, e1, e2, e3, e4⟩ := HBX.out i hi
          have hf := HFEW.out (i + 1) hi
          rw [flatMap_succ, ← HGI.out i, e2] at hf
          rw [List.length_append] at hf
          have hfw := HOK.out.few
          have k1 := boxes1_at (v := v) (x := (ks.kx al x y i).1) (y := (ks.kx al x y i).2) (l := l) (acc := (List.range i).flatMap g) (B := w.heap.size + 5) q1 (by omega) (by omega) q2 e3 (by omega)
            (fun V' hV' => HKID.out V' (F.In.onlyB (HIN.out.2.2.1.below hbY) (ho.trans ((OnlyB.of_below hV').mono (by omega) fun k hk => hk)) fun k hk => ⟨by have := hlt k (by simp [F.blks, hk]); omega, fun hm => by have := hlt k (by simp [F.blks, hk]); simp at hm; omega⟩) i v l hi hv e1)
          refine k1.mono ?_
          rintro e V' ⟨rfl, u', r1, r2, ro⟩
          refine ⟨rfl, ⟨u', r1, ?_⟩, by rw [hsY]; exact ro⟩
          rw [flatMap_succ, ← HGI.out i, e2]
          exact r2)
      have KE := Lib.hid ke
      have c0 := hA2.cell 0
      have c1 := hA2.cell 1
      clear ke hA hA2 hN il
      unfold pV at KE
      go_wp2_with fail
      refine KE.out.mono ?_
      rintro _ w2 ⟨rfl, ⟨u, q1, q2⟩, ro⟩
      rw [← HL.out] at q2
      have d1 := q1.cell 0
      have hb2 : Below w.heap.size w w2 := hbY.trans (ro.below (B := w.heap.size) (by omega) (by simp))
      obtain ⟨A, c, rfl⟩ := own_slice q2
      have Q2 := Lib.hid q2
      clear q1 q2 KE
      go_wp2_with fail
      go_ret
      exact ⟨_, rfl, own_raise Q2.out fun k hk => by have := (Q2.out.lt k hk).1; omega, hb2⟩
end Go.Proofs.YtkanglfpiahecaaDoor.Lyt
/- The small ones: axisOf, with, leaf, isSize, Has, mayCome, New, Size. -/
namespace Go.Proofs.YtkanglfpiahecaaDoor.Lyt
open Go.RowKit

set_option maxRecDepth 100000 in
theorem axisOf_at (x : Bool) (w : World) : Calls Tryd.prog 26 #[.bool x] w fun e w' => e = .returned (.int .i64 (if x then 0 else 1)) ∧ w = w' := by
  cases x
  · go_enter Tryd.func26, Tryd.ntmps26
    go_wp2_with fail
    go_ret
    exact ⟨rfl, rfl⟩
  · go_enter Tryd.func26, Tryd.ntmps26
    go_wp2_with fail
    go_ret
    exact ⟨rfl, rfl⟩
set_option maxRecDepth 100000 in
theorem with_at {a : Int} (ha : a = 0 ∨ a = 1) (x y n : Int) (w : World) : Calls Tryd.prog 28 #[.agg #[.int .i64 x, .int .i64 y], .int .i64 a, .int .i64 n] w fun e w' => e = .returned (.agg #[.int .i64 (if a = 0 then n else x), .int .i64 (if a = 0 then y else n)]) ∧ Below w.heap.size w w' := by
  have hb0 : Below w.heap.size w ((w.alloc (.cells #[.int .i64 x, .int .i64 y] 49)).alloc (.cells #[.int .i64 0, .int .i64 0] 49)) := ((Below.refl _ _).alloc (Nat.le_refl _) _).alloc (by simp) _
  have hA := (BL.new w 49 [.int .i64 x, .int .i64 y]).alloc (.cells #[.int .i64 0, .int .i64 0] 49)
  have hB := BL.new (w.alloc (.cells #[.int .i64 x, .int .i64 y] 49)) 49 [.int .i64 0, .int .i64 0]
  rw [size_alloc] at hB
  rcases ha with rfl | rfl
  · go_enter Tryd.func28, Tryd.ntmps28
    go_upto_region 1 with fail
    generalize (w.alloc (.cells #[.int .i64 x, .int .i64 y] 49)).alloc (.cells #[.int .i64 0, .int .i64 0] 49) = X at *
    have a0 : X.cell? ⟨w.heap.size, 0, none⟩ = some (.int .i64 x) := hA.cell 0
    have a0f := hA.frozen 0
    have h1 := hA.set_ 0 (.int .i64 n)
    have h2 : BL (X.setCell ⟨w.heap.size, 0, none⟩ (.int .i64 n)) (w.heap.size + 1) 49 [.int .i64 0, .int .i64 0] := hB.only ((Only.refl [w.heap.size] X).setCell (p := ⟨w.heap.size, 0, none⟩) (.inl (by simp)) _) (by simp)
    have hb1 := hb0.setCell (p := ⟨w.heap.size, 0, none⟩) (Nat.le_refl _) (.int .i64 n)
    go_upto_region 2 with fail
    generalize X.setCell ⟨w.heap.size, 0, none⟩ (.int .i64 n) = Y at *
    have b0 : Y.cell? ⟨w.heap.size, 0, none⟩ = some (.int .i64 n) := h1.cell 0
    have b1 : Y.cell? ⟨w.heap.size, 1, none⟩ = some (.int .i64 y) := h1.cell 1
    have c0 : Y.cell? ⟨w.heap.size + 1, 0, none⟩ = some (.int .i64 0) := h2.cell 0
    have c1 : Y.cell? ⟨w.heap.size + 1, 1, none⟩ = some (.int .i64 0) := h2.cell 1
    have c0f := h2.frozen 0
    have c1f := h2.frozen 1
    go_wp2_with fail
    have hZ := (h2.set_ 0 (.int .i64 n)).set_ 1 (.int .i64 y)
    exact bodyPost_ret (v := .agg #[.int .i64 n, .int .i64 y]) (results_cell (p := 6) (by kernel_rfl) _ _ (w.heap.size + 1) _ _ _ _ rfl hZ Tryd.underlying49 rfl (by kernel_rfl)) rfl ⟨rfl, (hb1.setCell (p := ⟨w.heap.size + 1, 0, none⟩) (by simp) _).setCell (p := ⟨w.heap.size + 1, 1, none⟩) (by simp) _⟩
  · go_enter Tryd.func28, Tryd.ntmps28
    go_upto_region 1 with fail
    generalize (w.alloc (.cells #[.int .i64 x, .int .i64 y] 49)).alloc (.cells #[.int .i64 0, .int .i64 0] 49) = X at *
    have a0 : X.cell? ⟨w.heap.size, 1, none⟩ = some (.int .i64 y) := hA.cell 1
    have a0f := hA.frozen 1
    have h1 := hA.set_ 1 (.int .i64 n)
    have h2 : BL (X.setCell ⟨w.heap.size, 1, none⟩ (.int .i64 n)) (w.heap.size + 1) 49 [.int .i64 0, .int .i64 0] := hB.only ((Only.refl [w.heap.size] X).setCell (p := ⟨w.heap.size, 1, none⟩) (.inl (by simp)) _) (by simp)
    have hb1 := hb0.setCell (p := ⟨w.heap.size, 1, none⟩) (Nat.le_refl _) (.int .i64 n)
    go_upto_region 2 with fail
    generalize X.setCell ⟨w.heap.size, 1, none⟩ (.int .i64 n) = Y at *
    have b0 : Y.cell? ⟨w.heap.size, 0, none⟩ = some (.int .i64 x) := h1.cell 0
    have b1 : Y.cell? ⟨w.heap.size, 1, none⟩ = some (.int .i64 n) := h1.cell 1
    have c0 : Y.cell? ⟨w.heap.size + 1, 0, none⟩ = some (.int .i64 0) := h2.cell 0
    have c1 : Y.cell? ⟨w.heap.size + 1, 1, none⟩ = some (.int .i64 0) := h2.cell 1
    have c0f := h2.frozen 0
    have c1f := h2.frozen 1
    go_wp2_with fail
    have hZ := (h2.set_ 0 (.int .i64 x)).set_ 1 (.int .i64 n)
    exact bodyPost_ret (v := .agg #[.int .i64 x, .int .i64 n]) (results_cell (p := 6) (by kernel_rfl) _ _ (w.heap.size + 1) _ _ _ _ rfl hZ Tryd.underlying49 rfl (by kernel_rfl)) rfl ⟨rfl, (hb1.setCell (p := ⟨w.heap.size + 1, 0, none⟩) (by simp) _).setCell (p := ⟨w.heap.size + 1, 1, none⟩) (by simp) _⟩
set_option maxRecDepth 100000 in
theorem leaf_at (p x y : Int) (w : World) : Calls Tryd.prog 27 #[.int .i64 p, .agg #[.int .i64 x, .int .i64 y]] w fun e w' => e = .returned (pV (w.heap.size + 1)) ∧ BL w' (w.heap.size + 1) 53 (leafC p x y) ∧ w'.heap.size = w.heap.size + 2 ∧ Below w.heap.size w w' := by
  have hb0 : Below w.heap.size w (w.alloc (.cells #[.int .i64 x, .int .i64 y] 49)) := (Below.refl _ _).alloc (Nat.le_refl _) _
  have hA := BL.new w 49 [.int .i64 x, .int .i64 y]
  have hs : (w.alloc (.cells #[.int .i64 x, .int .i64 y] 49)).heap.size = w.heap.size + 1 := by simp
  go_enter Tryd.func27, Tryd.ntmps27
  go_upto_region 1 with fail
  generalize w.alloc (.cells #[.int .i64 x, .int .i64 y] 49) = X at *
  have a0 : X.cell? ⟨w.heap.size, 0, none⟩ = some (.int .i64 x) := hA.cell 0
  have a1 : X.cell? ⟨w.heap.size, 1, none⟩ = some (.int .i64 y) := hA.cell 1
  have hZ := BL.new X 53 (leafC p x y)
  rw [hs] at hZ
  go_wp2_with fail
  go_ret
  exact ⟨rfl, hZ, by simp; omega, hb0.alloc (by omega) _⟩
set_option maxRecDepth 100000 in
theorem isSize_at (x y : Int) (w : World) : Calls Tryd.prog 38 #[.int .i64 x, .int .i64 y] w fun e w' => e = .returned (.bool (decide (1 ≤ x ∧ x ≤ 250 ∧ 1 ≤ y ∧ y ≤ 120))) ∧ w' = w := by
  have key : ∀ b : Bool, b = decide (1 ≤ x ∧ x ≤ 250 ∧ 1 ≤ y ∧ y ≤ 120) → Calls Tryd.prog 38 #[.int .i64 x, .int .i64 y] w fun e w' => e = .returned (.bool b) ∧ w' = w := by
    intro b hb
    have HB := Lib.hid hb
    clear hb
    by_cases h1 : 1 ≤ x
    · by_cases h2 : x ≤ 250
      · by_cases h3 : 1 ≤ y
        · by_cases h4 : y ≤ 120
          · obtain rfl : b = true := by rw [HB.out]; simp [h1, h2, h3, h4]
            clear HB
            go_enter Tryd.func38, Tryd.ntmps38
            go_wp2_with fail
            go_ret
            exact ⟨rfl, rfl⟩
          · obtain rfl : b = false := by rw [HB.out]; simp [h4]
            clear HB
            go_enter Tryd.func38, Tryd.ntmps38
            go_wp2_with fail
            go_ret
            exact ⟨rfl, rfl⟩
        · obtain rfl : b = false := by rw [HB.out]; simp [h3]
          clear HB
          go_enter Tryd.func38, Tryd.ntmps38
          go_wp2_with fail
          go_ret
          exact ⟨rfl, rfl⟩
      · obtain rfl : b = false := by rw [HB.out]; simp [h2]
        clear HB
        go_enter Tryd.func38, Tryd.ntmps38
        go_wp2_with fail
        go_ret
        exact ⟨rfl, rfl⟩
    · obtain rfl : b = false := by rw [HB.out]; simp [h1]
      clear HB
      go_enter Tryd.func38, Tryd.ntmps38
      go_wp2_with fail
      go_ret
      exact ⟨rfl, rfl⟩
  exact key _ rfl
section
variable {tb : Nat} {f : F} {w : World} {p : Int} {l : List Value}
set_option maxRecDepth 100000 in
theorem Has_at (h1 : f.has1) (h2 : f.blks.length ≤ 1000000) (hin : f.In w) (hv : f.ptrs[0]? = some (pV tb)) (hl : (f.ups p)[0]? = some l) :
    Calls Tryd.prog 11 #[pV tb, .int .i64 p] w fun e w' => e = .returned (.bool (decide (l ≠ []))) ∧ Below w.heap.size w w' := by
  have ku := up_at (p := p) f h1 h2 w hin 0 _ l hv hl
  have KU := Lib.hid ku
  clear ku h1 h2 hin hv hl
  obtain ⟨d, hd⟩ : ∃ d, decide (l ≠ []) = d := ⟨_, rfl⟩
  rw [hd]
  have HD := Lib.hid hd
  clear hd
  unfold pV at KU ⊢
  go_enter Tryd.func11, Tryd.ntmps11
  go_wp2_with fail
  refine KU.out.mono ?_
  rintro _ w1 ⟨u, rfl, hp, hb⟩
  rcases hp.shape with ⟨rfl, rfl⟩ | ⟨hne, g, c, rfl, hg⟩
  · obtain rfl : false = d := by rw [← HD.out]; rfl
    clear HD
    go_wp2_with fail
    go_ret
    exact ⟨rfl, hb⟩
  · obtain rfl : true = d := by rw [← HD.out]; simp [hne]
    clear HD
    go_wp2_with fail
    go_ret
    exact ⟨rfl, hb⟩
set_option maxRecDepth 100000 in
theorem mayCome_at (h1 : f.has1) (h2 : f.blks.length ≤ 1000000) (hin : f.In w) (hv : f.ptrs[0]? = some (pV tb)) (hl : (f.ups p)[0]? = some l) :
    Calls Tryd.prog 24 #[pV tb, .int .i64 p] w fun e w' => e = .returned (.bool (decide (1 ≤ p ∧ l = []))) ∧ Below w.heap.size w w' := by
  have ku := Has_at h1 h2 hin hv hl
  have KU := Lib.hid ku
  clear ku h1 h2 hin hv hl
  obtain ⟨d, hd⟩ : ∃ d, decide (1 ≤ p ∧ l = []) = d := ⟨_, rfl⟩
  rw [hd]
  have HD := Lib.hid hd
  clear hd
  unfold pV at KU ⊢
  by_cases hp : 1 ≤ p
  · have hpg : p ≥ 1 := hp
    by_cases hl : l = []
    · obtain rfl : true = d := by rw [← HD.out]; simp [hp, hl]
      have e1 : decide (l ≠ []) = false := by simp [hl]
      rw [e1] at KU
      clear HD hl e1
      go_enter Tryd.func24, Tryd.ntmps24
      go_wp2_with (first | (go_at_call 11; refine KU.out.mono ?_; rintro _ w1 ⟨rfl, hb⟩))
      go_ret
      exact ⟨rfl, hb⟩
    · obtain rfl : false = d := by rw [← HD.out]; simp [hl]
      have e1 : decide (l ≠ []) = true := by simp [hl]
      rw [e1] at KU
      clear HD hl e1
      go_enter Tryd.func24, Tryd.ntmps24
      go_wp2_with (first | (go_at_call 11; refine KU.out.mono ?_; rintro _ w1 ⟨rfl, hb⟩))
      go_ret
      exact ⟨rfl, hb⟩
  · obtain rfl : false = d := by rw [← HD.out]; simp [hp]
    clear HD KU
    go_enter Tryd.func24, Tryd.ntmps24
    go_wp2_with fail
    go_ret
    exact ⟨rfl, Below.refl _ _⟩
end
end Go.Proofs.YtkanglfpiahecaaDoor.Lyt
/- A leaf grown, or shrunk; boxes of a tree; where a pointer stands in a row. -/
namespace Go.Proofs.YtkanglfpiahecaaDoor.Lyt
open Go.RowKit

set_option maxRecDepth 100000 in
set_option maxHeartbeats 4000000 in
theorem grow_leaf {a : Int} (ha : a = 0 ∨ a = 1) {b : Nat} {p s0 s1 by_ : Int} {w : World} (hN : BN w b (leafC p s0 s1)) (hb : -1000000000000 ≤ s0 + by_ ∧ s0 + by_ ≤ 1000000000000 ∧ -1000000000000 ≤ s1 + by_ ∧ s1 + by_ ≤ 1000000000000) :
    Calls Tryd.prog 32 #[pV b, .int .i64 a, .int .i64 by_] w fun e w' => e = .returned (.tuple #[]) ∧ BN w' b (leafC p (if a = 0 then s0 + by_ else s0) (if a = 0 then s1 else s1 + by_)) ∧ Only [b] w w' := by
  have hb0 : Below w.heap.size w ((w.alloc (.cells #[.int .i64 a] 50)).alloc (.cells #[.int .i64 by_] 3)) := ((Below.refl _ _).alloc (Nat.le_refl _) _).alloc (by simp) _
  have hA := (BL.new w 50 [.int .i64 a]).alloc (.cells #[.int .i64 by_] 3)
  have hB := BL.new (w.alloc (.cells #[.int .i64 a] 50)) 3 [.int .i64 by_]
  rw [size_alloc] at hB
  have hN2 := hN.only (Only.of_below (F := []) hb0) (by simp)
  have j1 : IntKind.i64.wrap (s0 + by_) = s0 + by_ := IntWalk.i64_in _ ⟨by omega, by omega⟩
  have j2 : IntKind.i64.wrap (s1 + by_) = s1 + by_ := IntWalk.i64_in _ ⟨by omega, by omega⟩
  clear hN
  unfold pV
  rcases ha with rfl | rfl
  · go_enter Tryd.func32, Tryd.ntmps32
    go_upto_region 2 with fail
    generalize ((w.alloc (.cells #[.int .i64 0] 50)).alloc (.cells #[.int .i64 by_] 3)) = X at *
    have c4 : X.cell? ⟨b, 4, none⟩ = some (.slice none 0 0) := hN2.cell 4
    go_wp2_with fail
    refine (isLeaf_at b 0 0 none _ c4).mono ?_
    rintro _ w1 ⟨rfl, rfl⟩
    go_upto_region 3 with fail
    have a0 : X.cell? ⟨w.heap.size, 0, none⟩ = some (.int .i64 0) := hA.cell 0
    have b0 : X.cell? ⟨w.heap.size + 1, 0, none⟩ = some (.int .i64 by_) := hB.cell 0
    have e1 : X.cell? ⟨b, 1, none⟩ = some (.int .i64 s0) := hN2.cell 1
    have f1 : X.frozen? ⟨b, 1, none⟩ = false := hN2.frozen 1
    have HN := Lib.hid hN2
    have HB0 := Lib.hid hb0
    clear hN2 hA hB hb0
    go_region
    go_wp2_with fail
    exact body_end rfl rfl ⟨rfl, HN.out.set_ 1 (.int .i64 (s0 + by_)), ((Only.of_below HB0.out).setCell (p := ⟨b, 1, none⟩) (.inl (by simp)) _).drew⟩
  · go_enter Tryd.func32, Tryd.ntmps32
    go_upto_region 2 with fail
    generalize ((w.alloc (.cells #[.int .i64 1] 50)).alloc (.cells #[.int .i64 by_] 3)) = X at *
    have c4 : X.cell? ⟨b, 4, none⟩ = some (.slice none 0 0) := hN2.cell 4
    go_wp2_with fail
    refine (isLeaf_at b 0 0 none _ c4).mono ?_
    rintro _ w1 ⟨rfl, rfl⟩
    go_upto_region 3 with fail
    have a0 : X.cell? ⟨w.heap.size, 0, none⟩ = some (.int .i64 1) := hA.cell 0
    have b0 : X.cell? ⟨w.heap.size + 1, 0, none⟩ = some (.int .i64 by_) := hB.cell 0
    have e2 : X.cell? ⟨b, 2, none⟩ = some (.int .i64 s1) := hN2.cell 2
    have f2 : X.frozen? ⟨b, 2, none⟩ = false := hN2.frozen 2
    have HN := Lib.hid hN2
    have HB0 := Lib.hid hb0
    clear hN2 hA hB hb0
    go_region
    go_wp2_with fail
    exact body_end rfl rfl ⟨rfl, HN.out.set_ 2 (.int .i64 (s1 + by_)), ((Only.of_below HB0.out).setCell (p := ⟨b, 2, none⟩) (.inl (by simp)) _).drew⟩
set_option maxRecDepth 100000 in
set_option maxHeartbeats 4000000 in
theorem Boxes_at {tb : Nat} {f : F} {w : World} {v0 v1 : Int} {l : List Bx} (ok : f.Ok) (hin : f.In w) (hv : f.ptrs[0]? = some (pV tb)) (h0 : (f.vals 0 (szA 0))[0]? = some v0) (h1 : (f.vals 1 (szA 1))[0]? = some v1) (hl : (f.bxl 0 0)[0]? = some l) (hw : Within 0 0 v0 v1) :
    Calls Tryd.prog 8 #[pV tb] w fun e w' => ∃ u, e = .returned u ∧ w'.ownsRow w.heap.size 30 5 u l.length (l.flatMap bxC) ∧ Below w.heap.size w w' := by
  have hk := boxes_at f ok w hin 0 _ 0 0 v0 v1 l hv h0 h1 hl hw
  obtain ⟨L, hL⟩ : ∃ L, L = l.flatMap bxC := ⟨_, rfl⟩
  rw [← hL] at hk ⊢
  have HK := Lib.hid hk
  clear hk hin hv h0 h1 hl hw ok hL
  unfold pV at HK ⊢
  go_enter Tryd.func8, Tryd.ntmps8
  go_wp2_with fail
  refine HK.out.mono ?_
  rintro _ w1 ⟨u, rfl, hu, hb1⟩
  obtain ⟨A, c, rfl⟩ := own_slice hu
  have HU := Lib.hid hu
  clear hu HK
  go_wp2_with fail
  go_ret
  exact ⟨_, rfl, HU.out, hb1⟩
theorem info_node : (Tryd.prog.info? 53).map (fun i => i.size) = some 5 := by kernel_rfl
theorem eqp_same (b : Nat) (w : World) : Sem.run Tryd.prog (binOp BinOp.eql 63 (.pointer (some ⟨b, 0, none⟩)) (.pointer (some ⟨b, 0, none⟩))) w = .ok (.bool true) w := by
  have hi := info_node
  cases hq : Tryd.prog.info? 53 with
  | none => simp [hq] at hi
  | some i => exact run_eql_ptr_same w _ Tryd.underlying63 hq
theorem eqp_other {b x : Nat} {w : World} {cs ds : List Value} (hne : b ≠ x) (hb : BN w b cs) (hx : BN w x ds) : Sem.run Tryd.prog (binOp BinOp.eql 63 (.pointer (some ⟨b, 0, none⟩)) (.pointer (some ⟨x, 0, none⟩))) w = .ok (.bool false) w := by
  obtain ⟨t1, h1⟩ := hb
  obtain ⟨t2, h2⟩ := hx
  have hi := info_node
  cases hq : Tryd.prog.info? 53 with
  | none => simp [hq] at hi
  | some i =>
    simp only [hq, Option.map_some, Option.some.injEq] at hi
    exact run_eql_ptr_other w Tryd.underlying63 hq (by omega) (fun e => hne (by injection e)) h1 h2
set_option maxRecDepth 100000 in
set_option maxHeartbeats 4000000 in
theorem Index_at {g o c k b : Nat} {bs : List Nat} {w : World} (hc : ∀ (i x : Nat), bs[i]? = some x → w.cell? ⟨g, o + i, none⟩ = some (pV x)) (hk : bs[k]? = some b) (hne : ∀ j, j < k → bs[j]? ≠ some b) (hl : bs.length ≤ 1000000) (hbn : ∀ x ∈ bs, ∃ cs, BN w x cs) :
    Calls Tryd.prog 31 #[.slice (some ⟨g, o, none⟩) bs.length c, pV b] w fun e w' => e = .returned (.int .i64 (k : Int)) ∧ w = w' := by
  have hkl := (List.getElem?_eq_some_iff.1 hk).1
  have HC := Lib.hid hc
  have HK := Lib.hid hk
  have HN := Lib.hid hne
  have HBN := Lib.hid hbn
  clear hc hk hne hbn
  unfold pV
  go_enter Tryd.func31, Tryd.ntmps31
  go_wp2_with fail
  go_loopw [8] (fun i wr => ∃ j : Nat, j ≤ k ∧ i = .int .i64 (j : Int) ∧ wr = w) (fun i _ => bs.length - (intOf i).toNat)
  case atStart => exact ⟨0, Nat.zero_le _, rfl, rfl⟩
  case round =>
    obtain ⟨j, hj, rfl, rfl⟩ := hrel
    have j1 : (j : Int) < (bs.length : Int) := by omega
    by_cases hjk : j = k
    · subst hjk
      have c0 : wr.cell? ⟨g, o + j, none⟩ = some (.pointer (some ⟨b, 0, none⟩)) := HC.out j b HK.out
      have hq := eqp_same b wr
      go_wp2_with fail
      go_ret
      exact ⟨rfl, rfl⟩
    · have hj2 : j < bs.length := by omega
      have hx := List.getElem?_eq_getElem hj2
      have hxb : bs[j] ≠ b := fun e => HN.out j (by omega) (by rw [hx, e])
      have c0 : wr.cell? ⟨g, o + j, none⟩ = some (.pointer (some ⟨bs[j], 0, none⟩)) := HC.out j _ hx
      obtain ⟨cs, hbb⟩ := HBN.out b (List.mem_of_getElem? HK.out)
      obtain ⟨ds, hbd⟩ := HBN.out bs[j] (List.getElem_mem hj2)
      have hq := eqp_other (fun e => hxb e.symm) hbb hbd
      clear hx hxb hbb hbd
      generalize bs[j] = x at *
      go_wp2_with fail
      go_roundw
      case rel => exact ⟨j + 1, by omega, by go_num, trivial⟩
      case measure => simp [intOf]; omega
end Go.Proofs.YtkanglfpiahecaaDoor.Lyt
