/- The kids of a node, with where they lie. -/
import Derived.Test.YtkanglfpiahecaaDoorPYsp
import Derived.Deep.RegionLaw
namespace Go.Proofs.YtkanglfpiahecaaDoor.Lyt
open Go.RowKit

/-- A place, along a way so far on. -/
def onA (a : Int) (x y d : Int) : Int × Int := if a = 0 then (x + d, y) else (x, y + d)
section
variable {W : World} {n0 b kb n cap kv : Nat} {x y z al : Int} {v : Value} {caps : Array Value} {G : List Nat} {Q : World → Prop}
set_option maxRecDepth 100000 in
set_option maxHeartbeats 4000000 in
theorem eachAt1_at (hent : ∀ (args : Array Value) (W : World), (callFunc kv args).run Tryd.prog W = .ok (.enter kv args) W) (hal : al = 0 ∨ al = 1)
    (h0 : BL W n0 63 [pV b]) (h1 : BL W (n0 + 1) 49 [.int .i64 x, .int .i64 y]) (h2 : BL W (n0 + 2) 83 [.func (.func kv) #[] caps]) (hb : BN W b (nodeC kb n cap al))
    (hG : ∀ k ∈ G, k < n0) (hbG : b ∉ G) (hbn : b < n0)
    (hk : Calls Tryd.prog kv (#[v, .agg #[.int .i64 x, .int .i64 y]] ++ caps) W fun e W' => e = .returned (.tuple #[]) ∧ Q W' ∧ OnlyB (n0 + 3) G W W')
    (hh : ∀ V, OnlyB (n0 + 3) G W V → Calls Tryd.prog 46 #[v, .int .i64 al] V fun e W' => e = .returned (.int .i64 z) ∧ Below V.heap.size V W')
    (hQ : ∀ V V', Q V → Only [n0 + 1] V V' → Q V') (hx : 0 ≤ x ∧ x ≤ 1000000000000 ∧ 0 ≤ y ∧ y ≤ 1000000000000) (hz : 0 ≤ z ∧ z ≤ 1000000000000) :
    Calls Tryd.prog 62 #[v, pV (n0 + 2), pV (n0 + 1), pV n0] W fun e W' => e = .returned (.tuple #[]) ∧ Q W' ∧ BL W' (n0 + 1) 49 [.int .i64 (onA al x y (z + 1)).1, .int .i64 (onA al x y (z + 1)).2] ∧ OnlyB (n0 + 3) ((n0 + 1) :: G) W W' := by
  have hn3 : n0 + 2 < W.heap.size := h2.lt
  have a0 : W.cell? ⟨n0 + 1, 0, none⟩ = some (.int .i64 x) := h1.cell 0
  have a1 : W.cell? ⟨n0 + 1, 1, none⟩ = some (.int .i64 y) := h1.cell 1
  have f0 := h2.cell 0
  have HK := Lib.hid hk
  have HH := Lib.hid hh
  have H0 := Lib.hid h0
  have H1 := Lib.hid h1
  have HB := Lib.hid hb
  have HQ := Lib.hid hQ
  have HG := Lib.hid hG
  clear hk hh h0 h1 h2 hb hQ hG
  unfold pV
  go_enter Tryd.func62, Tryd.ntmps62
  go_wp2_with fail
  refine HK.out.mono ?_
  rintro _ w1 ⟨rfl, hq1, ho1⟩
  have hs1 := ho1.size
  have hn2 : n0 + 2 < W.heap.size := hn3
  have hGn : ∀ k, n0 ≤ k → k ∉ G := fun k hk hm => by have := HG.out k hm; omega
  have h0' := H0.out.onlyB ho1 (by omega) (hGn _ (Nat.le_refl _))
  have h1' := H1.out.onlyB ho1 (by omega) (hGn _ (by omega))
  have hb' := HB.out.onlyB ho1 (by omega) hbG
  have hd : Below w1.heap.size w1 w1.drew := (Below.refl _ _).drew
  have HQ1 := Lib.hid hq1
  have j1 : IntKind.i64.wrap (z + 1) = z + 1 := IntWalk.i64_in _ ⟨by omega, by omega⟩
  have j2 : IntKind.i64.wrap (x + (z + 1)) = x + (z + 1) := IntWalk.i64_in _ ⟨by omega, by omega⟩
  have j3 : IntKind.i64.wrap (y + (z + 1)) = y + (z + 1) := IntWalk.i64_in _ ⟨by omega, by omega⟩
  have hfin : ∀ (V : World) (x' y' : Int), Below w1.heap.size w1 V → ∀ (i : Nat) (u : Value), [Value.int .i64 x, .int .i64 y].set i u = [.int .i64 x', .int .i64 y'] →
      Q (V.setCell ⟨n0 + 1, i, none⟩ u) ∧ BL (V.setCell ⟨n0 + 1, i, none⟩ u) (n0 + 1) 49 [.int .i64 x', .int .i64 y'] ∧ OnlyB (n0 + 3) ((n0 + 1) :: G) W (V.setCell ⟨n0 + 1, i, none⟩ u) := fun V x' y' hV i u he => by
    have o2 : Only [n0 + 1] w1 (V.setCell ⟨n0 + 1, i, none⟩ u) := (Only.of_below hV).setCell (p := ⟨n0 + 1, i, none⟩) (.inl (by simp)) u
    refine ⟨HQ.out _ _ HQ1.out o2, ?_, (ho1.mono (Nat.le_refl _) fun k hk => List.mem_cons_of_mem _ hk).trans ((o2.toB (by omega)).mono (Nat.le_refl _) fun k hk => by rw [List.mem_singleton] at hk; rw [hk]; exact List.mem_cons_self ..)⟩
    rw [← he]
    exact (h1'.only (Only.of_below (F := []) hV) (by simp)).set_ i u
  have HFIN := Lib.hid hfin
  have hhas : ∀ V, Below w1.heap.size w1 V → Calls Tryd.prog 46 #[v, .int .i64 al] V fun e W' => e = .returned (.int .i64 z) ∧ Below V.heap.size V W' := fun V hV => HH.out V (ho1.trans ((Only.of_below hV).toB (by omega)))
  have HHAS := Lib.hid hhas
  clear hfin hhas hq1 HH HK HQ hent
  have hB0 : ∀ V, Below w1.heap.size w1 V → V.cell? ⟨n0, 0, none⟩ = some (.pointer (some ⟨b, 0, none⟩)) := fun V hV => (h0'.only (Only.of_below (F := []) hV) (by simp)).cell 0
  have hB3 : ∀ V, Below w1.heap.size w1 V → V.cell? ⟨b, 3, none⟩ = some (.int .i64 al) := fun V hV => (hb'.only (Only.of_below (F := []) hV) (by simp)).cell 3
  have hBx : ∀ V, Below w1.heap.size w1 V → V.cell? ⟨n0 + 1, 0, none⟩ = some (.int .i64 x) ∧ V.cell? ⟨n0 + 1, 1, none⟩ = some (.int .i64 y) ∧ V.frozen? ⟨n0 + 1, 0, none⟩ = false ∧ V.frozen? ⟨n0 + 1, 1, none⟩ = false := fun V hV => by
    have := h1'.only (Only.of_below (F := []) hV) (by simp)
    exact ⟨this.cell 0, this.cell 1, this.frozen 0, this.frozen 1⟩
  rcases hal with rfl | rfl
  · have d0 := hB0 _ hd
    have d3 := hB3 _ hd
    have d4 := (hBx _ hd).1
    have KC : ∀ V, Below w1.heap.size w1 V → (V.cell? ⟨n0, 0, none⟩ = some (.pointer (some ⟨b, 0, none⟩)) ∧ V.cell? ⟨b, 3, none⟩ = some (.int .i64 0) ∧ V.cell? ⟨n0 + 1, 0, none⟩ = some (.int .i64 x) ∧ V.frozen? ⟨n0 + 1, 0, none⟩ = false) := fun V hV => ⟨hB0 V hV, hB3 V hV, (hBx V hV).1, (hBx V hV).2.2.1⟩
    have HKC := Lib.hid KC
    have HD := Lib.hid hd
    clear h0' h1' hb' hB0 hB3 HB H0 H1 hBx KC a0 a1 f0 hd
    go_wp2_with fail
    go_region_law
      (first
        | (go_simp; go_at_call 46; refine (HHAS.out _ HD.out).mono ?_; rintro _ w3 ⟨rfl, hb3⟩; have hbd3 := HD.out.trans (hb3.mono HD.out.size); obtain ⟨z0, z3, z4, z4f⟩ := HKC.out _ hbd3))
    all_goals
      have hf := HFIN.out w3 (x + (z + 1)) y hbd3 0 (.int .i64 (x + (z + 1))) rfl
      have HF := Lib.hid hf
      clear hf z0 z3 z4 z4f d0 d3 d4 HFIN HKC HHAS
      go_wp2_with fail
      exact body_end rfl rfl ⟨rfl, HF.out.1, HF.out.2.1, HF.out.2.2⟩
  · have d0 := hB0 _ hd
    have d3 := hB3 _ hd
    have d4 := (hBx _ hd).2.1
    have KC : ∀ V, Below w1.heap.size w1 V → (V.cell? ⟨n0, 0, none⟩ = some (.pointer (some ⟨b, 0, none⟩)) ∧ V.cell? ⟨b, 3, none⟩ = some (.int .i64 1) ∧ V.cell? ⟨n0 + 1, 1, none⟩ = some (.int .i64 y) ∧ V.frozen? ⟨n0 + 1, 1, none⟩ = false) := fun V hV => ⟨hB0 V hV, hB3 V hV, (hBx V hV).2.1, (hBx V hV).2.2.2⟩
    have HKC := Lib.hid KC
    have HD := Lib.hid hd
    clear h0' h1' hb' hB0 hB3 HB H0 H1 hBx KC a0 a1 f0 hd
    go_wp2_with fail
    go_region_law
      (first
        | (go_simp; go_at_call 46; refine (HHAS.out _ HD.out).mono ?_; rintro _ w3 ⟨rfl, hb3⟩; have hbd3 := HD.out.trans (hb3.mono HD.out.size); obtain ⟨z0, z3, z4, z4f⟩ := HKC.out _ hbd3))
    all_goals
      have hf := HFIN.out w3 x (y + (z + 1)) hbd3 1 (.int .i64 (y + (z + 1))) rfl
      have HF := Lib.hid hf
      clear hf z0 z3 z4 z4f d0 d3 d4 HFIN HKC HHAS
      go_wp2_with fail
      exact body_end rfl rfl ⟨rfl, HF.out.1, HF.out.2.1, HF.out.2.2⟩
end
end Go.Proofs.YtkanglfpiahecaaDoor.Lyt
/- The kids of a node, with where they lie: all of them. -/
namespace Go.Proofs.YtkanglfpiahecaaDoor.Lyt
open Go.RowKit

/-- Where kid i lies. -/
def posA (al x y : Int) (vs : List Int) (i : Nat) : Int × Int := onA al x y ((vs.take i).sum + (i : Int))
theorem posA_succ {al x y : Int} {vs : List Int} {i : Nat} (h : i < vs.length) : onA al (posA al x y vs i).1 (posA al x y vs i).2 (vs[i] + 1) = posA al x y vs (i + 1) := by
  have htk : vs.take (i + 1) = vs.take i ++ [vs[i]] := List.take_succ_eq_append_getElem h
  unfold posA onA
  rw [htk, List.sum_append, List.sum_cons, List.sum_nil, Int.add_zero]
  split
  · refine Prod.ext ?_ rfl
    show x + _ + _ = x + _
    push_cast
    omega
  · refine Prod.ext rfl ?_
    show y + _ + _ = y + _
    push_cast
    omega
theorem posA_zero (al x y : Int) (vs : List Int) : posA al x y vs 0 = (x, y) := by
  unfold posA onA
  split <;> simp
theorem take_get {l : List Int} (h : ∀ x ∈ l, 0 ≤ x) {i : Nat} (hi : i < l.length) : 0 ≤ (l.take i).sum ∧ (l.take i).sum + l[i] ≤ l.sum := by
  have h1 := sum_take h i
  have h2 := sum_take h (i + 1)
  have e : l.take (i + 1) = l.take i ++ [l[i]] := List.take_succ_eq_append_getElem hi
  rw [e, List.sum_append, List.sum_cons, List.sum_nil, Int.add_zero] at h2
  omega
set_option maxRecDepth 100000 in
set_option maxHeartbeats 4000000 in
theorem eachAt_at {b kb cap kv : Nat} {al x y : Int} {ks : F} {caps : Array Value} {G : List Nat} {I : Nat → World → Prop} {w : World}
    (hent : ∀ (args : Array Value) (W : World), (callFunc kv args).run Tryd.prog W = .ok (.enter kv args) W) (hal : al = 0 ∨ al = 1) (h1 : ks.has1) (h2 : ks.sized) (h3 : ks.cnt ≤ 100000)
    (hb : BN w b (nodeC kb ks.len cap al)) (hr : RowAt w kb cap ks.ptrs) (hks : ks.In w) (hG : ∀ k ∈ G, k < w.heap.size) (hGd : ∀ k ∈ b :: kb :: ks.blks, k ∉ G)
    (hx : 0 ≤ x ∧ x ≤ 1000000 ∧ 0 ≤ y ∧ y ≤ 1000000) (hI : I 0 w) (hst : ∀ i V V', I i V → Only [w.heap.size + 1] V V' → I i V')
    (hstep : ∀ i V v, ks.ptrs[i]? = some v → I i V → OnlyB w.heap.size G w V → w.heap.size + 3 ≤ V.heap.size → Calls Tryd.prog kv (#[v, .agg #[.int .i64 (posA al x y (ks.vals al (szA al)) i).1, .int .i64 (posA al x y (ks.vals al (szA al)) i).2]] ++ caps) V fun e V' => e = .returned (.tuple #[]) ∧ I (i + 1) V' ∧ OnlyB (w.heap.size + 3) G V V') :
    Calls Tryd.prog 43 #[pV b, .agg #[.int .i64 x, .int .i64 y], .func (.func kv) #[] caps] w fun e w' => e = .returned (.tuple #[]) ∧ I ks.len w' ∧ Only G w w' := by
  have hsm := small_le (a := al) (g := szA al) h1 (F.all_mono (fun p s0 s1 h => by unfold szA; split <;> omega) h2) h3
  have hlen := F.vals_len al (szA al) ks
  have hpl := F.ptrs_len ks
  have hh := fun V (hV : ks.In V) i v z => has_at (a := al) (w := V) (i := i) (v := v) (z := z) hal h1 h2 h3 hV
  generalize ks.vals al (szA al) = vs at *
  have hb0 : Below w.heap.size w (((w.alloc (.cells #[pV b] 63)).alloc (.cells #[.int .i64 x, .int .i64 y] 49)).alloc (.cells #[.func (.func kv) #[] caps] 83)) := (((Below.refl _ _).alloc (Nat.le_refl _) _).alloc (by simp) _).alloc (by simp; omega) _
  have hA := ((BL.new w 63 [pV b]).alloc (.cells #[.int .i64 x, .int .i64 y] 49)).alloc (.cells #[.func (.func kv) #[] caps] 83)
  have hB := (BL.new (w.alloc (.cells #[pV b] 63)) 49 [.int .i64 x, .int .i64 y]).alloc (.cells #[.func (.func kv) #[] caps] 83)
  have hC := BL.new ((w.alloc (.cells #[pV b] 63)).alloc (.cells #[.int .i64 x, .int .i64 y] 49)) 83 [.func (.func kv) #[] caps]
  rw [size_alloc] at hB
  rw [size_alloc, size_alloc] at hC
  have HSM := Lib.hid hsm
  have HB := Lib.hid hb
  have HR := Lib.hid hr
  have HK := Lib.hid hks
  have HG := Lib.hid hG
  have HGD := Lib.hid hGd
  have HI := Lib.hid hI
  have HST := Lib.hid hst
  have HSTEP := Lib.hid hstep
  have HH := Lib.hid hh
  clear hsm hb hr hks hG hGd hI hst hstep hh h1 h2 h3
  unfold pV at hA hB hC hb0 ⊢
  go_enter Tryd.func43, Tryd.ntmps43
  go_upto_region 1 with fail
  generalize hW : ((w.alloc (.cells #[.pointer (some ⟨b, 0, none⟩)] 63)).alloc (.cells #[.int .i64 x, .int .i64 y] 49)).alloc (.cells #[.func (.func kv) #[] caps] 83) = W at *
  have hoW : OnlyB w.heap.size G w W := OnlyB.of_below hb0
  have h4 : W.cell? ⟨b, 4, none⟩ = some (.slice (some ⟨kb, 0, none⟩) ks.len cap) := (HB.out.only (Only.of_below (F := []) hb0) (by simp)).cell 4
  have hsz : w.heap.size + 3 ≤ W.heap.size := by have := hC.lt; omega
  have ke := each_at b kb ks.len cap (some ⟨kb, 0, none⟩) 62 #[pV (w.heap.size + 2), pV (w.heap.size + 1), pV w.heap.size] (fun i => ks.ptrs.getD i undef)
    (fun i V => I i V ∧ BL V w.heap.size 63 [pV b] ∧ BL V (w.heap.size + 1) 49 [.int .i64 (posA al x y vs i).1, .int .i64 (posA al x y vs i).2] ∧ BL V (w.heap.size + 2) 83 [.func (.func kv) #[] caps] ∧ OnlyB w.heap.size G w V) W
    (enters_of Tryd.func62 (by kernel_rfl) rfl) h4 (fun _ => rfl)
    (fun i V hi hV => by
      have hr := (HR.out.onlyB hV.2.2.2.2 HR.out.lt (HGD.out kb (by simp))).cell (i := i) (by omega)
      exact hr.trans (getD_some (by omega)))
    (fun i V hi hV => by
      obtain ⟨qI, q0, q1, q2, qo⟩ := hV
      have hiv : i < vs.length := by omega
      have hvi : 0 ≤ vs[i] := HSM.out.1 _ (List.getElem_mem hiv)
      have htg := take_get HSM.out.1 hiv
      have hsv : w.heap.size + 3 ≤ V.heap.size := by have := q2.lt; omega
      have hv := getD_some (l := ks.ptrs) (i := i) (by omega)
      have hk := HSTEP.out i V _ hv qI qo hsv
      have hp : 0 ≤ (posA al x y vs i).1 ∧ (posA al x y vs i).1 ≤ 1000000000000 ∧ 0 ≤ (posA al x y vs i).2 ∧ (posA al x y vs i).2 ≤ 1000000000000 := by
        have := HSM.out.2
        unfold posA onA
        split <;> (simp only; omega)
      have k1 := eachAt1_at (z := vs[i]) (Q := I (i + 1)) hent hal q0 q1 q2 (HB.out.onlyB qo HB.out.lt (HGD.out b (by simp))) HG.out (HGD.out b (by simp)) HB.out.lt hk
        (fun X hX => HH.out X (HK.out.onlyB (qo.trans (hX.mono (by omega) fun k hk => hk)) fun k hk => ⟨HK.out.lt k hk, HGD.out k (by simp [hk])⟩) i _ _ hv (List.getElem?_eq_getElem hiv))
        (fun X X' => HST.out (i + 1) X X') hp (by have := HSM.out.2; omega)
      refine k1.mono ?_
      rintro e V' ⟨rfl, rI, r1, ro⟩
      refine ⟨rfl, rI, q0.onlyB ro (by omega) ?_, ?_, q2.onlyB ro (by omega) ?_, qo.trans ⟨ro.os, ro.tape, ro.output, ro.size, fun k hk hn => ro.block k (by omega) fun hm => ?_⟩⟩
      · intro hm
        rcases List.mem_cons.1 hm with h | h
        · omega
        · have := HG.out _ h; omega
      · rw [posA_succ hiv] at r1
        exact r1
      · intro hm
        rcases List.mem_cons.1 hm with h | h
        · omega
        · have := HG.out _ h; omega
      · rcases List.mem_cons.1 hm with h | h
        · omega
        · exact hn h)
    ⟨HST.out 0 w W HI.out (Only.of_below hb0), hA, by rw [posA_zero]; exact hB, hC, hoW⟩ (by have := HSM.out.2; have := sum_nn HSM.out.1; omega)
  have KE := Lib.hid ke
  have c0 := hA.cell 0
  clear ke hA hB hC HB HR HK HSTEP HST HI HH
  unfold pV at KE
  go_wp2_with fail
  refine KE.out.mono ?_
  rintro _ w2 ⟨rfl, q0, q1, q2, q3, q4⟩
  go_wp2_with fail
  exact body_end rfl rfl ⟨rfl, q0, q4.toOnly (Nat.le_refl _)⟩
end Go.Proofs.YtkanglfpiahecaaDoor.Lyt
/- Where panes lie: plain words. -/
namespace Go.Proofs.YtkanglfpiahecaaDoor.Lyt
open Go.RowKit

/-- A pane's box: its number, its place, its size. -/
abbrev Bx := Int × Int × Int × Int × Int
def bxC (b : Bx) : List Value := [.int .i64 b.1, .int .i64 b.2.1, .int .i64 b.2.2.1, .int .i64 b.2.2.2.1, .int .i64 b.2.2.2.2]
/-- The place of kid i, of a split that lies there. -/
def F.kx (al : Int) (ks : F) (x y : Int) (i : Nat) : Int × Int := posA al x y (ks.vals al (szA al)) i
/-- The boxes of each of some trees, if it lies there. -/
def F.bxl : F → Int → Int → List (List Bx)
  | .nil, _, _ => []
  | .leaf _ p s0 s1 r, x, y => [(p, x, y, s0, s1)] :: r.bxl x y
  | .node _ _ _ al ks r, x, y => ((List.range ks.len).flatMap fun i => (ks.bxl (ks.kx al x y i).1 (ks.kx al x y i).2).getD i []) :: r.bxl x y
theorem F.bxl_len : ∀ (f : F) (x y : Int), (f.bxl x y).length = f.len
  | .nil, _, _ => rfl
  | .leaf _ _ _ _ r, x, y => by simp [F.bxl, F.len, F.bxl_len r]
  | .node _ _ _ _ _ r, x, y => by simp [F.bxl, F.len, F.bxl_len r]
theorem flatMap_succ {α : Type} (g : Nat → List α) (n : Nat) : (List.range (n + 1)).flatMap g = (List.range n).flatMap g ++ g n := by
  rw [List.range_succ, List.flatMap_append]
  simp
/-- How many they are. -/
def F.cnts : F → List Nat
  | .nil => []
  | .leaf _ _ _ _ r => 1 :: r.cnts
  | .node _ _ _ _ ks r => ks.cnt :: r.cnts
theorem F.cnts_len : ∀ f : F, f.cnts.length = f.len
  | .nil => rfl
  | .leaf _ _ _ _ r => by simp [F.cnts, F.len, F.cnts_len r]
  | .node _ _ _ _ _ r => by simp [F.cnts, F.len, F.cnts_len r]
theorem F.cnts_sum : ∀ f : F, f.cnts.sum = f.cnt
  | .nil => rfl
  | .leaf _ _ _ _ r => by simp [F.cnts, F.cnt, F.cnts_sum r]; omega
  | .node _ _ _ _ _ r => by simp [F.cnts, F.cnt, F.cnts_sum r]
theorem flatMap_sum {α : Type} (g : Nat → List α) (l : List Nat) (h : ∀ i c, l[i]? = some c → (g i).length = c) : ((List.range l.length).flatMap g).length = l.sum := by
  induction l generalizing g with
  | nil => simp
  | cons c l ih =>
    rw [List.length_cons, List.range_succ_eq_map, List.flatMap_cons, List.length_append, List.flatMap_map, h 0 c rfl, List.sum_cons, ih (fun i => g (i + 1)) fun i d hd => h (i + 1) d (by simpa using hd)]
theorem F.bxl_cnt : ∀ (f : F) (x y : Int) (i : Nat) (l : List Bx) (c : Nat), (f.bxl x y)[i]? = some l → f.cnts[i]? = some c → l.length = c
  | .nil, _, _, _, _, _, h, _ => by simp [F.bxl] at h
  | .leaf _ p s0 s1 r, x, y, i, l, c, h, hc => by
    cases i with
    | zero =>
      obtain rfl : [(p, x, y, s0, s1)] = l := by simpa [F.bxl] using h
      obtain rfl : 1 = c := by simpa [F.cnts] using hc
      rfl
    | succ i => exact F.bxl_cnt r x y i l c (by simpa [F.bxl] using h) (by simpa [F.cnts] using hc)
  | .node _ _ _ al ks r, x, y, i, l, c, h, hc => by
    cases i with
    | zero =>
      obtain rfl : ((List.range ks.len).flatMap fun i => (ks.bxl (ks.kx al x y i).1 (ks.kx al x y i).2).getD i []) = l := by simpa [F.bxl] using h
      obtain rfl : ks.cnt = c := by simpa [F.cnts] using hc
      rw [← F.cnts_len ks, ← F.cnts_sum ks]
      refine flatMap_sum _ _ fun i d hd => ?_
      have hi : i < ks.len := by
        rw [← F.cnts_len ks]
        exact (List.getElem?_eq_some_iff.1 hd).1
      refine F.bxl_cnt ks (ks.kx al x y i).1 (ks.kx al x y i).2 i _ d ?_ hd
      rw [List.getD_eq_getElem?_getD, List.getElem?_eq_getElem (by rw [F.bxl_len]; exact hi)]
      rfl
    | succ i => exact F.bxl_cnt r x y i l c (by simpa [F.bxl] using h) (by simpa [F.cnts] using hc)
theorem F.cnts_pos : ∀ (f : F), f.has1 → ∀ (i c : Nat), f.cnts[i]? = some c → 1 ≤ c ∧ c ≤ f.cnt
  | .nil, _, _, _, h => by simp [F.cnts] at h
  | .leaf _ _ _ _ r, h1, i, c, h => by
    cases i with
    | zero =>
      obtain rfl : 1 = c := by simpa [F.cnts] using h
      simp [F.cnt]
    | succ i =>
      have := F.cnts_pos r h1 i c (by simpa [F.cnts] using h)
      simp [F.cnt]; omega
  | .node _ _ _ _ ks r, h1, i, c, h => by
    cases i with
    | zero =>
      obtain rfl : ks.cnt = c := by simpa [F.cnts] using h
      have := F.len_cnt ks h1.2.1
      have := h1.1
      simp [F.cnt]; omega
    | succ i =>
      have := F.cnts_pos r h1.2.2 i c (by simpa [F.cnts] using h)
      simp [F.cnt]; omega
/-- A tree that lies within so many columns and rows. -/
def Within (x y v0 v1 : Int) : Prop := 0 ≤ x ∧ x + v0 ≤ 1000000 ∧ 0 ≤ y ∧ y + v1 ≤ 1000000
theorem le_maxL {l : List Int} {v : Int} (hv : v ∈ l) : v ≤ maxL l := by
  have key : ∀ (l : List Int) (m : Int), m ≤ l.foldl max m ∧ ∀ v ∈ l, v ≤ l.foldl max m := by
    intro l
    induction l with
    | nil => intro m; simp
    | cons a l ih =>
      intro m
      obtain ⟨h1, h2⟩ := ih (max m a)
      refine ⟨by rw [List.foldl_cons]; omega, fun v hv => ?_⟩
      rw [List.foldl_cons]
      rcases List.mem_cons.1 hv with rfl | hv
      · omega
      · exact h2 v hv
  exact (key l 0).2 v hv
/-- Kid i lies within what its split lies in. -/
theorem kid_within {al x y v0 v1 u0 u1 : Int} {ks : F} {i : Nat} (hal : al = 0 ∨ al = 1) (h1 : ks.has1) (h2 : ks.sized) (h3 : ks.cnt ≤ 100000)
    (hv0 : (if al = 0 then (ks.vals 0 (szA 0)).sum + ((ks.len : Int) - 1) else maxL (ks.vals 0 (szA 0))) = v0) (hv1 : (if al = 1 then (ks.vals 1 (szA 1)).sum + ((ks.len : Int) - 1) else maxL (ks.vals 1 (szA 1))) = v1)
    (hu0 : (ks.vals 0 (szA 0))[i]? = some u0) (hu1 : (ks.vals 1 (szA 1))[i]? = some u1) (hw : Within x y v0 v1) : Within (ks.kx al x y i).1 (ks.kx al x y i).2 u0 u1 := by
  have n0 := (small_le (a := 0) (g := szA 0) h1 (F.all_mono (fun p s0 s1 h => by unfold szA; split <;> omega) h2) h3).1
  have n1 := (small_le (a := 1) (g := szA 1) h1 (F.all_mono (fun p s0 s1 h => by unfold szA; split <;> omega) h2) h3).1
  obtain ⟨i0, e0⟩ := List.getElem?_eq_some_iff.1 hu0
  obtain ⟨i1, e1⟩ := List.getElem?_eq_some_iff.1 hu1
  have t0 := take_get n0 i0
  have t1 := take_get n1 i1
  have m0 := le_maxL (List.getElem_mem i0)
  have m1 := le_maxL (List.getElem_mem i1)
  have l0 := F.vals_len 0 (szA 0) ks
  have l1 := F.vals_len 1 (szA 1) ks
  unfold Within at hw ⊢
  unfold F.kx posA onA
  rw [e0] at t0 m0
  rw [e1] at t1 m1
  rcases hal with rfl | rfl
  · simp only [if_true] at hv0 ⊢
    rw [if_neg (by decide)] at hv1
    omega
  · simp only [if_true] at hv1
    rw [if_neg (by decide)] at hv0 ⊢
    simp only
    omega
/-- Each split goes one of the two ways. -/
def F.ways : F → Prop
  | .nil => True
  | .leaf _ _ _ _ r => r.ways
  | .node _ _ _ al ks r => (al = 0 ∨ al = 1) ∧ ks.ways ∧ r.ways
structure F.Ok (f : F) : Prop where
  one : f.has1
  siz : f.sized
  few : f.cnt ≤ 100000
  way : f.ways
  pan : f.all fun p _ _ => 0 ≤ p ∧ p ≤ 1000000000000
  big : f.blks.length ≤ 1000000
theorem F.Ok.rest {b : Nat} {p s0 s1 : Int} {r : F} (h : (F.leaf b p s0 s1 r).Ok) : r.Ok := ⟨h.one, h.siz.2, by have := h.few; simp [F.cnt] at this; omega, h.way, h.pan.2, by have := h.big; simp [F.blks] at this; omega⟩
theorem F.Ok.rest2 {b kb cap : Nat} {al : Int} {ks r : F} (h : (F.node b kb cap al ks r).Ok) : r.Ok := ⟨h.one.2.2, h.siz.2, by have := h.few; simp [F.cnt] at this; omega, h.way.2.2, h.pan.2, by have := h.big; simp [F.blks] at this; omega⟩
theorem F.Ok.kids {b kb cap : Nat} {al : Int} {ks r : F} (h : (F.node b kb cap al ks r).Ok) : ks.Ok := ⟨h.one.2.1, h.siz.1, by have := h.few; simp [F.cnt] at this; omega, h.way.2.1, h.pan.1, by have := h.big; simp [F.blks] at this; omega⟩
theorem nsum_take (l : List Nat) (i : Nat) : (l.take i).sum ≤ l.sum := by
  have e : l.sum = (l.take i).sum + (l.drop i).sum := by rw [← List.sum_append, List.take_append_drop]
  omega
theorem flatMap_few {α : Type} {g : Nat → List α} {ks : F} (h : ∀ i c, ks.cnts[i]? = some c → (g i).length = c) {i : Nat} (hi : i ≤ ks.len) : ((List.range i).flatMap g).length ≤ ks.cnt := by
  have hl : (ks.cnts.take i).length = i := by rw [List.length_take, F.cnts_len]; omega
  have := flatMap_sum g (ks.cnts.take i) fun j c hj => h j c (by
    rw [List.getElem?_take] at hj
    split at hj
    · exact hj
    · cases hj)
  rw [hl] at this
  rw [this, ← F.cnts_sum]
  exact nsum_take _ _
end Go.Proofs.YtkanglfpiahecaaDoor.Lyt
/- Where panes lie: boxes. -/
namespace Go.Proofs.YtkanglfpiahecaaDoor.Lyt
open Go.RowKit

theorem info_box : (Tryd.prog.info? 30).map (fun i => (i.zero, i.size, i.bytes)) = some (some (.agg #[.int .i64 0, .int .i64 0, .int .i64 0, .int .i64 0, .int .i64 0]), 5, 40) := by kernel_rfl
section
variable {ops : Array Oper} {op : Oper} {a : Act} {w : World} {K : Act → World → Prop} {Q : Exit → Act → World → Prop} {E : Prop}
/-- Some appended to a row of the call's own, or to nil, as a step of a region that draws. -/
theorem step_app {t e : TypeId} {z : Value} {size bytes : Nat} (hinf : (Tryd.prog.info? e).map (fun i => (i.zero, i.size, i.bytes)) = some (some z, size, bytes)) (hund : Tryd.prog.underlying t = some (.slice e)) (hzs : z.cells.size = size) (hsz : 0 < size) (hbt : bytes ≤ 100)
    (hgd : op.guard = none) (s x : Operand) (ho : op.op = .call { callee := .builtin .append, args := #[s, x], argTypes := #[t, t] })
    (base : Nat) (v : Value) (n : Nat) (xs : List Value) (g m c : Nat) (news : List Value) (hs : a.eval s = v) (hown : w.ownsRow base e size v n xs) (hx : a.eval x = .slice (some ⟨g, 0, none⟩) m c) (hl : news.length = m * size) (hnew : ∀ j u, news[j]? = some u → w.cell? ((⟨g, 0, none⟩ : Addr).add j) = some u)
    (h1 : ∀ u ∈ news, u.oneCell' = true) (hm : 0 < m) (hbase : base ≤ w.heap.size) (hn : n + m ≤ 1000000000)
    (h : ∀ g' c' w', w'.ownsRow base e size (.slice (some ⟨g', 0, none⟩) (n + m) c') (n + m) (xs ++ news) → Below base w w' → (v.ownBlock = some g' ∨ w.heap.size ≤ g') → w.grownBy w' v.ownBlock → K (a.put op.dst (.slice (some ⟨g', 0, none⟩) (n + m) c')) w') :
    if Region.wanted op (yielded ops a.tmps) = true then Oper.wp Tryd.prog op a w K Q else E := by
  obtain ⟨i0, hi0, hz0, hz1, hz2⟩ := info_parts hinf
  have hb1 : (n + m) * bytes ≤ (n + m) * 100 := Nat.mul_le_mul_left _ hbt
  refine step_append_lies w hgd s x t ho base e i0 z size bytes hund hi0 hz0 hz1 hz2 hzs hsz v n xs hs hown ⟨g, 0, none⟩ m c news hx hl hnew h1 hm (by unfold maxLen; omega) (by omega) hbase w.heap.size rfl ?_
  intro g' c' w' hown' hgr hwh _
  exact h g' c' w' hown' ((Below.refl base w).grown hgr hbase (fun k hk => (hown.lt k hk).1)) (hwh.imp id fun e => by omega) hgr
end
section
variable {W : World} {n0 B : Nat} {v u : Value} {x y : Int} {acc l : List Bx}
set_option maxRecDepth 100000 in
set_option maxHeartbeats 4000000 in
theorem boxes1_at (h0 : BL W n0 27 [u]) (hB : n0 < B) (hBW : B ≤ W.heap.size) (hu : W.ownsRow B 30 5 u acc.length (acc.flatMap bxC)) (hl : l ≠ []) (hn : acc.length + l.length ≤ 1000000)
    (hk : ∀ V, Below W.heap.size W V → Calls Tryd.prog 20 #[v, .agg #[.int .i64 x, .int .i64 y]] V fun e V' => ∃ u, e = .returned u ∧ V'.ownsRow V.heap.size 30 5 u l.length (l.flatMap bxC) ∧ Below V.heap.size V V') :
    Calls Tryd.prog 44 #[v, .agg #[.int .i64 x, .int .i64 y], pV n0] W fun e W' => e = .returned (.tuple #[]) ∧
      ∃ u', BL W' n0 27 [u'] ∧ W'.ownsRow B 30 5 u' (acc ++ l).length ((acc ++ l).flatMap bxC) ∧ OnlyB B [n0] W W' := by
  have hlp : 0 < l.length := by cases l with
    | nil => exact absurd rfl hl
    | cons _ _ => simp
  have hb0 : Below W.heap.size W (W.alloc (.cells #[.int .i64 x, .int .i64 y] 49)) := (Below.refl _ _).alloc (Nat.le_refl _) _
  have hA := BL.new W 49 [.int .i64 x, .int .i64 y]
  have hone : ∀ q ∈ l.flatMap bxC, q.oneCell' = true := by
    intro q hq
    obtain ⟨b, _, hb⟩ := List.mem_flatMap.1 hq
    simp [bxC] at hb
    rcases hb with rfl | rfl | rfl | rfl | rfl <;> rfl
  have hnlt := h0.lt
  have H0 := Lib.hid h0
  have HU := Lib.hid hu
  have HK := Lib.hid hk
  have HONE := Lib.hid hone
  clear h0 hu hk hl hone
  unfold pV
  go_enter Tryd.func44, Tryd.ntmps44
  go_upto_region 1 with fail
  generalize W.alloc (.cells #[.int .i64 x, .int .i64 y] 49) = X at *
  have hd : Below W.heap.size W X.drew := hb0.drew
  have d0 : X.drew.cell? ⟨n0, 0, none⟩ = some u := (H0.out.only (F := []) (Only.of_below hd) (by simp)).cell 0
  have a0 : X.drew.cell? ⟨W.heap.size, 0, none⟩ = some (.int .i64 x) := hA.drew.cell 0
  have a1 : X.drew.cell? ⟨W.heap.size, 1, none⟩ = some (.int .i64 y) := hA.drew.cell 1
  have hsX : W.heap.size + 1 ≤ X.drew.heap.size := by have := hA.drew.lt; omega
  have HA := Lib.hid hA.drew
  have HD := Lib.hid hd
  clear hA hb0 hd
  go_region_law
    (first
      | (go_simp; go_at_call 20; refine (HK.out _ HD.out).mono ?_; rintro _ w3 ⟨u3, rfl, hx3, hb3⟩; have hbd3 := HD.out.trans (hb3.mono HD.out.size); obtain ⟨g3, c3, rfl, hg3⟩ := own_some hx3 (by assumption); have z0 := (H0.out.only (F := []) (Only.of_below hbd3) (by simp)).cell 0; have y0 := (HA.out.only (F := []) (Only.of_below hb3) (by simp)).cell 0; have y1 := (HA.out.only (F := []) (Only.of_below hb3) (by simp)).cell 1; have HX3 := Lib.hid hx3; have hsw := hbd3.size; clear hx3)
      | (refine step_app info_box Tryd.underlying27 rfl (by decide) (by decide) rfl (.tmp 5) (.tmp 8) rfl B u acc.length (acc.flatMap bxC) g3 l.length c3 (l.flatMap bxC) rfl (own_below HU.out hbd3) rfl HX3.out.1 (HX3.out.cells (g := g3) rfl) HONE.out hlp (by omega) (by omega) ?_; intro g4 c4 w4 hown4 hb4 hw4 _; have h04 := (H0.out.only (F := []) (Only.of_below hbd3) (by simp)).keep (hb4.block n0 (by assumption)); have s2 := h04.cell 0; have s2f := h04.frozen 0; have H04 := Lib.hid h04; clear h04))
  all_goals
    have h2b := H04.out.set_ 0 (.slice (some ⟨g4, 0, none⟩) (acc.length + l.length) c4)
    have o2 : OnlyB B [n0] W (w4.setCell ⟨n0, 0, none⟩ (.slice (some ⟨g4, 0, none⟩) (acc.length + l.length) c4)) :=
      ((OnlyB.of_below (hbd3.mono (by omega))).trans (OnlyB.of_below hb4)).trans (((Only.refl [n0] w4).setCell (p := ⟨n0, 0, none⟩) (.inl (by simp)) _).toB (by have := hb4.size; omega))
    refine body_end rfl rfl ⟨rfl, _, h2b, ?_, o2⟩
    rw [List.length_append, List.flatMap_append]
    refine own_only (G := [n0]) hown4 ((Only.refl _ _).setCell (p := ⟨n0, 0, none⟩) (.inl (by simp)) _) fun k hk => ?_
    have : g4 = k := Option.some.inj hk
    have := (hown4.lt g4 rfl).1
    simp; omega
end
end Go.Proofs.YtkanglfpiahecaaDoor.Lyt
/- Kids made anew: a kid that goes the same way gives its own. -/
namespace Go.Proofs.YtkanglfpiahecaaDoor.Lyt
open Go.RowKit

def F.app : F → F → F
  | .nil, g => g
  | .leaf b p s0 s1 r, g => .leaf b p s0 s1 (r.app g)
  | .node b kb cap al ks r, g => .node b kb cap al ks (r.app g)
/-- Kids of a split that goes that way. -/
def F.flat (al : Int) : F → F
  | .nil => .nil
  | .leaf b p s0 s1 r => .leaf b p s0 s1 (r.flat al)
  | .node b kb cap a ks r => if a = al then ks.app (r.flat al) else .node b kb cap a ks (r.flat al)
def F.flatP (al : Int) : F → List (List Value)
  | .nil => []
  | .leaf b _ _ _ r => [pV b] :: r.flatP al
  | .node b _ _ a ks r => (if a = al then ks.ptrs else [pV b]) :: r.flatP al
theorem F.ptrs_app (g : F) : ∀ f : F, (f.app g).ptrs = f.ptrs ++ g.ptrs
  | .nil => rfl
  | .leaf _ _ _ _ r => by simp [F.app, F.ptrs, F.ptrs_app g r]
  | .node _ _ _ _ _ r => by simp [F.app, F.ptrs, F.ptrs_app g r]
theorem F.len_app (g : F) : ∀ f : F, (f.app g).len = f.len + g.len
  | .nil => by simp [F.app, F.len]
  | .leaf _ _ _ _ r => by simp [F.app, F.len, F.len_app g r]; omega
  | .node _ _ _ _ _ r => by simp [F.app, F.len, F.len_app g r]; omega
theorem F.blks_app (g : F) : ∀ f : F, (f.app g).blks = f.blks ++ g.blks
  | .nil => rfl
  | .leaf _ _ _ _ r => by simp [F.app, F.blks, F.blks_app g r]
  | .node _ _ _ _ _ r => by simp [F.app, F.blks, F.blks_app g r]
theorem F.cnt_app (g : F) : ∀ f : F, (f.app g).cnt = f.cnt + g.cnt
  | .nil => by simp [F.app, F.cnt]
  | .leaf _ _ _ _ r => by simp [F.app, F.cnt, F.cnt_app g r]; omega
  | .node _ _ _ _ _ r => by simp [F.app, F.cnt, F.cnt_app g r]; omega
theorem F.in_app {w : World} {g : F} : ∀ {f : F}, (f.app g).In w ↔ f.In w ∧ g.In w
  | .nil => by simp [F.app, F.In]
  | .leaf _ _ _ _ r => by simp [F.app, F.In, F.in_app (f := r), and_assoc]
  | .node _ _ _ _ _ r => by simp [F.app, F.In, F.in_app (f := r), and_assoc]
theorem F.has1_app {g : F} : ∀ {f : F}, (f.app g).has1 ↔ f.has1 ∧ g.has1
  | .nil => by simp [F.app, F.has1]
  | .leaf _ _ _ _ r => by simp [F.app, F.has1, F.has1_app (f := r)]
  | .node _ _ _ _ _ r => by simp [F.app, F.has1, F.has1_app (f := r), and_assoc]
theorem F.all_app {P : Int → Int → Int → Prop} {g : F} : ∀ {f : F}, (f.app g).all P ↔ f.all P ∧ g.all P
  | .nil => by simp [F.app, F.all]
  | .leaf _ _ _ _ r => by simp [F.app, F.all, F.all_app (f := r), and_assoc]
  | .node _ _ _ _ _ r => by simp [F.app, F.all, F.all_app (f := r), and_assoc]
theorem F.ways_app {g : F} : ∀ {f : F}, (f.app g).ways ↔ f.ways ∧ g.ways
  | .nil => by simp [F.app, F.ways]
  | .leaf _ _ _ _ r => by simp [F.app, F.ways, F.ways_app (f := r)]
  | .node _ _ _ _ _ r => by simp [F.app, F.ways, F.ways_app (f := r), and_assoc]
theorem F.flat_ptrs (al : Int) : ∀ f : F, (f.flat al).ptrs = (f.flatP al).flatten
  | .nil => rfl
  | .leaf _ _ _ _ r => by simp [F.flat, F.flatP, F.ptrs, F.flat_ptrs al r]
  | .node b _ _ a ks r => by
    unfold F.flat F.flatP
    split
    · rw [F.ptrs_app, F.flat_ptrs al r]; rfl
    · simp [F.ptrs, F.flat_ptrs al r]
theorem F.flat_in {w : World} (al : Int) : ∀ {f : F}, f.In w → (f.flat al).In w
  | .nil, _ => trivial
  | .leaf _ _ _ _ r, h => ⟨h.1, F.flat_in al h.2⟩
  | .node _ _ _ a ks r, h => by
    unfold F.flat
    split
    · exact F.in_app.2 ⟨h.2.2.1, F.flat_in al h.2.2.2⟩
    · exact ⟨h.1, h.2.1, h.2.2.1, F.flat_in al h.2.2.2⟩
theorem F.flat_has1 (al : Int) : ∀ {f : F}, f.has1 → (f.flat al).has1
  | .nil, _ => trivial
  | .leaf _ _ _ _ r, h => F.flat_has1 al (f := r) h
  | .node _ _ _ a ks r, h => by
    unfold F.flat
    split
    · exact F.has1_app.2 ⟨h.2.1, F.flat_has1 al h.2.2⟩
    · exact ⟨h.1, h.2.1, F.flat_has1 al h.2.2⟩
theorem F.flatP_len (al : Int) : ∀ f : F, (f.flatP al).length = f.len
  | .nil => rfl
  | .leaf _ _ _ _ r => by simp [F.flatP, F.len, F.flatP_len al r]
  | .node _ _ _ _ _ r => by simp [F.flatP, F.len, F.flatP_len al r]
theorem F.flat_cnt (al : Int) : ∀ f : F, (f.flat al).cnt = f.cnt
  | .nil => rfl
  | .leaf _ _ _ _ r => by simp [F.flat, F.cnt, F.flat_cnt al r]
  | .node _ _ _ a ks r => by
    unfold F.flat
    split
    · rw [F.cnt_app, F.flat_cnt al r]; rfl
    · simp [F.cnt, F.flat_cnt al r]
/-- What lies at a kid, and what it gives. -/
theorem F.look {w : World} (al : Int) : ∀ (f : F), f.In w → f.has1 → ∀ (i : Nat) v ps, f.ptrs[i]? = some v → (f.flatP al)[i]? = some ps → ∃ b, v = pV b ∧
    ((∃ p s0 s1, BN w b (leafC p s0 s1) ∧ ps = [pV b]) ∨ ∃ kb n cap a, BN w b (nodeC kb n cap a) ∧ 1 ≤ n ∧ (a ≠ al ∧ ps = [pV b] ∨ a = al ∧ ps.length = n ∧ ∀ (j : Nat) u, ps[j]? = some u → w.cell? ⟨kb, j, none⟩ = some u))
  | .nil, _, _, i, v, ps, hv, _ => by simp [F.ptrs] at hv
  | .leaf b p s0 s1 r, hin, h1, i, v, ps, hv, hps => by
    cases i with
    | succ i => exact F.look al r hin.2 h1 i v ps hv hps
    | zero =>
      obtain rfl : pV b = v := by simpa [F.ptrs] using hv
      obtain rfl : [pV b] = ps := by simpa [F.flatP] using hps
      exact ⟨b, rfl, .inl ⟨p, s0, s1, hin.1, rfl⟩⟩
  | .node b kb cap a ks r, hin, h1, i, v, ps, hv, hps => by
    cases i with
    | succ i => exact F.look al r hin.2.2.2 h1.2.2 i v ps hv hps
    | zero =>
      obtain rfl : pV b = v := by simpa [F.ptrs] using hv
      have hps2 : (if a = al then ks.ptrs else [pV b]) = ps := by simpa [F.flatP] using hps
      refine ⟨b, rfl, .inr ⟨kb, ks.len, cap, a, hin.1, h1.1, ?_⟩⟩
      by_cases ha : a = al
      · rw [if_pos ha] at hps2
        subst hps2
        refine .inr ⟨ha, F.ptrs_len ks, fun j u hu => ?_⟩
        rw [hin.2.1.cell (List.getElem?_eq_some_iff.1 hu).1]
        exact hu
      · rw [if_neg ha] at hps2
        exact .inl ⟨ha, hps2.symm⟩
set_option maxRecDepth 100000 in
theorem goes_at (b n c : Nat) (A : Option Addr) (a al : Int) (w : World) (h4 : w.cell? ⟨b, 4, none⟩ = some (.slice A n c)) (h3 : w.cell? ⟨b, 3, none⟩ = some (.int .i64 a)) :
    Calls Tryd.prog 54 #[pV b, .int .i64 al] w fun e w' => e = .returned (.bool (decide (n ≠ 0 ∧ a = al))) ∧ w = w' := by
  have il := isLeaf_at b n c A w h4
  obtain ⟨d, hd⟩ : ∃ d, decide (n ≠ 0 ∧ a = al) = d := ⟨_, rfl⟩
  rw [hd]
  have HD := Lib.hid hd
  clear hd
  unfold pV
  by_cases hn : n = 0
  · obtain rfl : false = d := by rw [← HD.out]; simp [hn]
    have e : decide (n = 0) = true := by simp [hn]
    rw [e] at il
    have HI := Lib.hid il
    clear il HD e hn h4
    go_enter Tryd.func54, Tryd.ntmps54
    go_wp2_with (first | (go_at_call 42; refine HI.out.mono ?_; rintro _ w1 ⟨rfl, rfl⟩))
    go_ret
    exact ⟨rfl, rfl⟩
  · have e : decide (n = 0) = false := by simp [hn]
    rw [e] at il
    have HI := Lib.hid il
    by_cases ha : a = al
    · obtain rfl : true = d := by rw [← HD.out]; simp [hn, ha]
      clear il HD e hn h4
      subst ha
      go_enter Tryd.func54, Tryd.ntmps54
      go_wp2_with (first | (go_at_call 42; refine HI.out.mono ?_; rintro _ w1 ⟨rfl, rfl⟩))
      go_ret
      exact ⟨rfl, rfl⟩
    · obtain rfl : false = d := by rw [← HD.out]; simp [ha]
      have hab : (a == al) = false := by simpa using ha
      clear il HD e hn h4
      go_enter Tryd.func54, Tryd.ntmps54
      go_wp2_with (first | (go_at_call 42; refine HI.out.mono ?_; rintro _ w1 ⟨rfl, rfl⟩))
      go_ret
      exact ⟨rfl, rfl⟩
end Go.Proofs.YtkanglfpiahecaaDoor.Lyt
/- A way up through a tree: plain words. -/
namespace Go.Proofs.YtkanglfpiahecaaDoor.Lyt
open Go.RowKit

/-- Trees without their places in memory. -/
def F.bare : F → F
  | .nil => .nil
  | .leaf _ p s0 s1 r => .leaf 0 p s0 s1 r.bare
  | .node _ _ _ al ks r => .node 0 0 0 al ks.bare r.bare
theorem F.bare_app (g : F) : ∀ f : F, (f.app g).bare = f.bare.app g.bare
  | .nil => rfl
  | .leaf _ _ _ _ r => by simp [F.app, F.bare, F.bare_app g r]
  | .node _ _ _ _ _ r => by simp [F.app, F.bare, F.bare_app g r]
theorem F.bare_len : ∀ f : F, f.bare.len = f.len
  | .nil => rfl
  | .leaf _ _ _ _ r => by simp [F.bare, F.len, F.bare_len r]
  | .node _ _ _ _ _ r => by simp [F.bare, F.len, F.bare_len r]
theorem F.bare_flat (al : Int) : ∀ f : F, (f.flat al).bare = f.bare.flat al
  | .nil => rfl
  | .leaf _ _ _ _ r => by simp [F.flat, F.bare, F.bare_flat al r]
  | .node b kb cap a ks r => by
    show (if a = al then ks.app (r.flat al) else F.node b kb cap a ks (r.flat al)).bare = if a = al then ks.bare.app (r.bare.flat al) else .node 0 0 0 a ks.bare (r.bare.flat al)
    split
    · rw [F.bare_app, F.bare_flat al r]
    · rw [← F.bare_flat al r]; rfl
/-- The first tree at another block. -/
def F.move (b : Nat) : F → F
  | .nil => .nil
  | .leaf _ p s0 s1 r => .leaf b p s0 s1 r
  | .node _ kb cap al ks r => .node b kb cap al ks r
theorem F.bare_move (b : Nat) : ∀ f : F, (f.move b).bare = f.bare
  | .nil => rfl
  | .leaf _ _ _ _ _ => rfl
  | .node _ _ _ _ _ _ => rfl
/-- A split made anew of kids. -/
def F.remk (b kb cap : Nat) (al : Int) (K : F) : F := if (K.flat al).len = 1 then (K.flat al).move b else .node b kb cap al (K.flat al) .nil
theorem F.bare_remk {b kb cap b2 kb2 cap2 : Nat} {al : Int} {K K2 : F} (h : K.bare = K2.bare) : (F.remk b kb cap al K).bare = (F.remk b2 kb2 cap2 al K2).bare := by
  have e : (K.flat al).bare = (K2.flat al).bare := by rw [F.bare_flat, F.bare_flat, h]
  have el : (K.flat al).len = (K2.flat al).len := by rw [← F.bare_len, e, F.bare_len]
  unfold F.remk
  rw [el]
  split
  · rw [F.bare_move, F.bare_move, e]
  · simp [F.bare, e]
/-- A split on the way up, but for the kid that the way comes from. -/
structure Fr where
  b : Nat
  kb : Nat
  cap : Nat
  al : Int
  l : F
  r : F
def Fr.kids (fr : Fr) (t : F) : F := fr.l.app (t.app fr.r)
/-- All splits on the way up made anew. -/
def rema (t : F) : List Fr → F
  | [] => t
  | fr :: up => rema (F.remk fr.b 0 0 fr.al (fr.kids t)) up
/-- The tree. -/
def plug (t : F) : List Fr → F
  | [] => t
  | fr :: up => plug (.node fr.b fr.kb fr.cap fr.al (fr.kids t) .nil) up
theorem kids_bare {fr : Fr} {t t2 : F} (h : t.bare = t2.bare) : (fr.kids t).bare = (fr.kids t2).bare := by
  unfold Fr.kids
  rw [F.bare_app, F.bare_app, F.bare_app, F.bare_app, h]
theorem rema_bare {t t2 : F} (h : t.bare = t2.bare) : ∀ (frs : List Fr), (rema t frs).bare = (rema t2 frs).bare
  | [] => h
  | _ :: up => rema_bare (F.bare_remk (kids_bare h)) up
/-- How the way up lies in memory, from the kids' pointers ps on. -/
def FrsIn (w : World) (ps : List Value) : List Fr → Prop
  | [] => True
  | fr :: up => BN w fr.b (nodeC fr.kb (fr.l.len + ps.length + fr.r.len) fr.cap fr.al) ∧ RowAt w fr.kb fr.cap (fr.l.ptrs ++ ps ++ fr.r.ptrs) ∧ fr.l.In w ∧ fr.r.In w ∧ FrsIn w [pV fr.b] up
def Fr.blks (fr : Fr) : List Nat := fr.b :: fr.kb :: (fr.l.blks ++ fr.r.blks)
def frsB : List Fr → List Nat
  | [] => []
  | fr :: up => fr.blks ++ frsB up
theorem FrsIn.only {w w' : World} {G : List Nat} : ∀ {frs : List Fr} {ps : List Value}, FrsIn w ps frs → Only G w w' → (∀ x ∈ frsB frs, x ∉ G) → FrsIn w' ps frs
  | [], _, _, _, _ => trivial
  | fr :: up, ps, h, ho, hG => ⟨h.1.only ho (hG _ (by simp [frsB, Fr.blks])), h.2.1.only ho (hG _ (by simp [frsB, Fr.blks])), h.2.2.1.only ho fun x hx => hG x (by simp [frsB, Fr.blks, hx]), h.2.2.2.1.only ho fun x hx => hG x (by simp [frsB, Fr.blks, hx]), FrsIn.only h.2.2.2.2 ho fun x hx => hG x (by simp [frsB, hx])⟩
theorem FrsIn.lt {w : World} : ∀ {frs : List Fr} {ps : List Value}, FrsIn w ps frs → ∀ x ∈ frsB frs, x < w.heap.size
  | [], _, _, x, hx => by simp [frsB] at hx
  | fr :: up, ps, h, x, hx => by
    simp only [frsB, Fr.blks, List.mem_append, List.mem_cons] at hx
    rcases hx with (rfl | rfl | hx | hx) | hx
    · exact h.1.lt
    · exact h.2.1.lt
    · exact h.2.2.1.lt x hx
    · exact h.2.2.2.1.lt x hx
    · exact FrsIn.lt h.2.2.2.2 x hx
theorem FrsIn.kids {w : World} {t : F} {fr : Fr} {up : List Fr} (ht : t.In w) (h : FrsIn w t.ptrs (fr :: up)) : (F.node fr.b fr.kb fr.cap fr.al (fr.kids t) .nil).In w := by
  have e1 : (fr.kids t).len = fr.l.len + t.ptrs.length + fr.r.len := by unfold Fr.kids; rw [F.len_app, F.len_app, F.ptrs_len]; omega
  have e2 : (fr.kids t).ptrs = fr.l.ptrs ++ t.ptrs ++ fr.r.ptrs := by unfold Fr.kids; rw [F.ptrs_app, F.ptrs_app, List.append_assoc]
  exact ⟨by rw [e1]; exact h.1, by rw [e2]; exact h.2.1, F.in_app.2 ⟨h.2.2.1, F.in_app.2 ⟨ht, h.2.2.2.1⟩⟩, trivial⟩
theorem F.flat_sub (al : Int) : ∀ f : F, List.Sublist (f.flat al).blks f.blks
  | .nil => List.Sublist.refl _
  | .leaf b _ _ _ r => (F.flat_sub al r).cons_cons b
  | .node b kb _ a ks r => by
    unfold F.flat
    split
    · rw [F.blks_app]
      exact (((List.Sublist.refl ks.blks).append (F.flat_sub al r)).cons kb).cons b
    · exact (((List.Sublist.refl ks.blks).append (F.flat_sub al r)).cons_cons kb).cons_cons b
theorem F.flat_ge (al : Int) : ∀ f : F, f.has1 → f.len ≤ (f.flat al).len
  | .nil, _ => Nat.le_refl _
  | .leaf _ _ _ _ r, h => by have := F.flat_ge al r h; simp [F.flat, F.len]; omega
  | .node _ _ _ a ks r, h => by
    have h1 := F.flat_ge al r h.2.2
    have h2 := h.1
    unfold F.flat
    split
    · rw [F.len_app]; simp [F.len]; omega
    · simp [F.len]; omega
/-- A row of the call's own as a row of kids. -/
theorem RowAt.of_own {w : World} {B g n c : Nat} {xs : List Value} (h : w.ownsRow B 63 1 (.slice (some ⟨g, 0, none⟩) n c) n xs) : RowAt w g c xs := by
  have hl : xs.length = n := by have := h.1; omega
  rcases h.2 with ⟨he, _⟩ | ⟨g', cap, cur, he, _, hh, h1, _, h2, h3⟩
  · cases he
  · injection he with e1 _ e2
    have e3 : g = g' := by injection e1 with e1; injection e1
    subst e3 e2
    refine ⟨by omega, cur.toList.drop n, by rw [List.length_drop, Array.length_toList]; omega, ?_⟩
    have e4 : xs ++ cur.toList.drop n = cur.toList := by
      rw [← h3, Nat.mul_one, List.take_append_drop]
    unfold BL
    rw [e4, hh]
end Go.Proofs.YtkanglfpiahecaaDoor.Lyt
/- A split made of kids. -/
namespace Go.Proofs.YtkanglfpiahecaaDoor.Lyt
open Go.RowKit

set_option maxRecDepth 100000 in
set_option maxHeartbeats 8000000 in
theorem split_at {al : Int} {kb c : Nat} {K : F} {w : World} (hin : K.In w) (h1 : K.has1) (hcell : ∀ i v, K.ptrs[i]? = some v → w.cell? ⟨kb, i, none⟩ = some v) (hcnt : K.cnt ≤ 1000000) :
    Calls Tryd.prog 29 #[.int .i64 al, .slice (some ⟨kb, 0, none⟩) K.len c] w fun e w' => ∃ u, w'.ownsRow (w.heap.size + 1) 63 1 u (K.flat al).len (K.flat al).ptrs ∧ BL w' w.heap.size 53 [.int .i64 0, .int .i64 0, .int .i64 0, .int .i64 al, u] ∧ Below w.heap.size w w' ∧
      (((K.flat al).len = 1 ∧ ∃ v, (K.flat al).ptrs = [v] ∧ e = .returned v) ∨ ((K.flat al).len ≠ 1 ∧ e = .returned (pV w.heap.size))) := by
  have hpl := F.ptrs_len K
  have hfl := F.flatP_len al K
  have hfp := F.flat_ptrs al K
  have hfn : (K.flatP al).flatten.length = (K.flat al).len := by rw [← hfp, F.ptrs_len]
  have hflc : (K.flat al).len ≤ 1000000 := by
    have := F.len_cnt (K.flat al) (F.flat_has1 al h1)
    rw [F.flat_cnt] at this
    omega
  have hK : K.len ≤ 1000000 := by have := F.len_cnt K h1; omega
  have hptr : ∀ q ∈ (K.flatP al).flatten, q.oneCell' = true := by
    rw [← hfp]
    have : ∀ f : F, ∀ q ∈ f.ptrs, q.oneCell' = true := by
      intro f
      induction f with
      | nil => intro q hq; cases hq
      | leaf b p s0 s1 r ih => intro q hq; rcases List.mem_cons.1 hq with rfl | hq; rfl; exact ih q hq
      | node b kb cap a ks r _ ih => intro q hq; rcases List.mem_cons.1 hq with rfl | hq; rfl; exact ih q hq
    exact this _
  have hlook := fun V (hV : Below w.heap.size w V) i v ps => F.look al K (hin.below hV) h1 i v ps
  have HLOOK := Lib.hid hlook
  have HPTR := Lib.hid hptr
  have hcell2 : ∀ V, Below w.heap.size w V → ∀ i, i < K.len → V.cell? ⟨kb, i, none⟩ = some (K.ptrs.getD i undef) := fun V hV i hi => by
    have h0 := hcell i _ (getD_some (by omega))
    exact (hV.cell (p := ⟨kb, i, none⟩) (World.block_lt_of_cell? w _ h0)).trans h0
  have HC := Lib.hid hcell2
  have HFP := Lib.hid (And.intro hfp hfn)
  have hle : ∀ i, ((K.flatP al).take i).flatten.length ≤ 1000000 := fun i => by
    have e : (K.flatP al).flatten = ((K.flatP al).take i).flatten ++ ((K.flatP al).drop i).flatten := by rw [← List.flatten_append, List.take_append_drop]
    rw [e, List.length_append] at hfn
    omega
  have HLE := Lib.hid hle
  have hA := BL.new w 53 [.int .i64 0, .int .i64 0, .int .i64 0, .int .i64 al, .slice none 0 0]
  clear hlook hptr hcell2 hcell hin h1 hcnt hfp hfn hle
  generalize K.flatP al = P at *
  generalize K.flat al = KF at *
  go_enter Tryd.func29, Tryd.ntmps29
  go_wp2_with fail
  go_loopw [13] (fun i wr => ∃ j : Nat, j ≤ K.len ∧ i = .int .i64 (j : Int) ∧ ∃ u, BL wr w.heap.size 53 [.int .i64 0, .int .i64 0, .int .i64 0, .int .i64 al, u] ∧ wr.ownsRow (w.heap.size + 1) 63 1 u (P.take j).flatten.length (P.take j).flatten ∧ Below w.heap.size w wr) (fun i _ => K.len - (intOf i).toNat)
  case atStart => exact ⟨0, Nat.zero_le _, rfl, _, hA, World.ownsRow_nil _ _ _ _, (Below.refl _ _).alloc (Nat.le_refl _) _⟩
  case round =>
    obtain ⟨j, hj, rfl, u, hS, hu, hb⟩ := hrel
    by_cases hlt : j < K.len
    · have j1 : (j : Int) < (K.len : Int) := by omega
      have hc := HC.out wr hb j hlt
      have hpj : j < P.length := by omega
      have htk : P.take (j + 1) = P.take j ++ [P[j]] := List.take_succ_eq_append_getElem hpj
      have hfl2 : (P.take (j + 1)).flatten = (P.take j).flatten ++ P[j] := by rw [htk, List.flatten_append]; simp
      have hle2 := HLE.out (j + 1)
      rw [hfl2, List.length_append] at hle2
      obtain ⟨b, hvb, hcase⟩ := HLOOK.out wr hb j _ _ (getD_some (by omega)) (List.getElem?_eq_getElem hpj)
      rw [hvb] at hc
      have hpt1 : ∀ q ∈ P[j], q.oneCell' = true := fun q hq => HPTR.out q (List.mem_flatten.2 ⟨_, List.getElem_mem hpj, hq⟩)
      have HF2 := Lib.hid hfl2
      have HPT1 := Lib.hid hpt1
      clear htk hfl2 hvb hpt1
      generalize P[j] = ps at *
      generalize hacc : (P.take j).flatten = acc at *
      clear hacc
      have hsw := hS.lt
      have s4 : wr.cell? ⟨w.heap.size, 4, none⟩ = some u := hS.cell 4
      rcases hcase with ⟨p, s0, s1, hN, rfl⟩ | ⟨kb2, n2, cap2, a2, hN, hn2, ⟨hne, rfl⟩ | ⟨rfl, hps, hpc⟩⟩
      · have kg := goes_at b 0 0 none 0 al wr (hN.cell 4) (hN.cell 3)
        have e : decide ((0 : Nat) ≠ 0 ∧ (0 : Int) = al) = false := by simp
        rw [e] at kg
        have hS2 := hS.alloc (.cells #[pV b] 63)
        have s4' := hS2.cell 4
        have KG := Lib.hid kg
        have HU := Lib.hid hu
        have HB := Lib.hid hb
        have HS := Lib.hid hS
        clear kg hu hN hb hS hS2
        unfold pV at KG s4' HF2
        go_wp2_with (first
          | (go_at_call 54; refine KG.out.mono ?_; rintro _ w2 ⟨rfl, rfl⟩)
          | (at_builtin; refine wpList_app_ptr rfl (.tmp 36) (.tmp 38) rfl (w.heap.size + 1) u acc.length acc (.pointer (some ⟨b, 0, none⟩)) 1 rfl HU.out rfl rfl (by omega) (by omega) ?_; intro v' w3 hown3 hb3 hg3 hw3 hne3; obtain ⟨g2, c2, rfl, hg2⟩ := own_some hown3 (by omega); have hS3 := HS.out.keep (hb3.block _ (Nat.lt_succ_self _)); have t4 := hS3.cell 4; have t4f := hS3.frozen 4; have HS3 := Lib.hid hS3; have HO3 := Lib.hid hown3; clear hS3 hown3))
        go_roundw
        case rel =>
          refine ⟨j + 1, by omega, by go_num, _, HS3.out.set_ 4 _, ?_, (HB.out.trans (hb3.mono (by omega))).setCell (p := ⟨w.heap.size, 4, none⟩) (Nat.le_refl _) _⟩
          rw [HF2.out, List.length_append]
          refine own_only (G := [w.heap.size]) HO3.out ((Only.refl _ _).setCell (p := ⟨w.heap.size, 4, none⟩) (.inl (by simp)) _) fun k hk => ?_
          have := (HO3.out.lt k hk).1
          simp; omega
        case measure => simp [intOf]; omega
      · have kg := goes_at b n2 cap2 (some ⟨kb2, 0, none⟩) a2 al wr (hN.cell 4) (hN.cell 3)
        have e : decide (n2 ≠ 0 ∧ a2 = al) = false := by simp [hne]
        rw [e] at kg
        have hS2 := hS.alloc (.cells #[pV b] 63)
        have s4' := hS2.cell 4
        have KG := Lib.hid kg
        have HU := Lib.hid hu
        have HB := Lib.hid hb
        have HS := Lib.hid hS
        clear kg hu hN hb hS hS2
        unfold pV at KG s4' HF2
        go_wp2_with (first
          | (go_at_call 54; refine KG.out.mono ?_; rintro _ w2 ⟨rfl, rfl⟩)
          | (at_builtin; refine wpList_app_ptr rfl (.tmp 36) (.tmp 38) rfl (w.heap.size + 1) u acc.length acc (.pointer (some ⟨b, 0, none⟩)) 1 rfl HU.out rfl rfl (by omega) (by omega) ?_; intro v' w3 hown3 hb3 hg3 hw3 hne3; obtain ⟨g2, c2, rfl, hg2⟩ := own_some hown3 (by omega); have hS3 := HS.out.keep (hb3.block _ (Nat.lt_succ_self _)); have t4 := hS3.cell 4; have t4f := hS3.frozen 4; have HS3 := Lib.hid hS3; have HO3 := Lib.hid hown3; clear hS3 hown3))
        go_roundw
        case rel =>
          refine ⟨j + 1, by omega, by go_num, _, HS3.out.set_ 4 _, ?_, (HB.out.trans (hb3.mono (by omega))).setCell (p := ⟨w.heap.size, 4, none⟩) (Nat.le_refl _) _⟩
          rw [HF2.out, List.length_append]
          refine own_only (G := [w.heap.size]) HO3.out ((Only.refl _ _).setCell (p := ⟨w.heap.size, 4, none⟩) (.inl (by simp)) _) fun k hk => ?_
          have := (HO3.out.lt k hk).1
          simp; omega
        case measure => simp [intOf]; omega
      · have kg := goes_at b n2 cap2 (some ⟨kb2, 0, none⟩) a2 a2 wr (hN.cell 4) (hN.cell 3)
        have e : decide (n2 ≠ 0 ∧ a2 = a2) = true := by simp; omega
        rw [e] at kg
        have n4 : wr.drew.cell? ⟨b, 4, none⟩ = some (.slice (some ⟨kb2, 0, none⟩) n2 cap2) := hN.cell 4
        have s4d : wr.drew.cell? ⟨w.heap.size, 4, none⟩ = some u := s4
        have hud : wr.drew.ownsRow (w.heap.size + 1) 63 1 u acc.length acc := own_below hu ((Below.refl _ _).drew)
        have hnews : ∀ (j : Nat) u, ps[j]? = some u → wr.drew.cell? ((⟨kb2, 0, none⟩ : Addr).add j) = some u := fun j u hu => by
          have e2 : (⟨kb2, 0, none⟩ : Addr).add j = ⟨kb2, 0 + j, none⟩ := by unfold Addr.add; split <;> simp_all
          rw [e2, Nat.zero_add]
          exact hpc j u hu
        have KG := Lib.hid kg
        have HU := Lib.hid hud
        have HB := Lib.hid hb
        have HS := Lib.hid hS.drew
        have HNW := Lib.hid hnews
        have HBX := Lib.hid hb.size
        clear kg hu hud hN hb hS hnews hpc
        unfold pV at KG
        go_wp2_with (first
          | (go_at_call 54; refine KG.out.mono ?_; rintro _ w2 ⟨rfl, rfl⟩))
        go_region_law
          (first
            | (refine step_app info_ptr Tryd.underlying51 rfl (by decide) (by decide) rfl (.tmp 24) (.tmp 28) rfl (w.heap.size + 1) u acc.length acc kb2 n2 cap2 ps rfl HU.out rfl (by omega) HNW.out HPT1.out (by omega) (by exact Nat.le_trans hsw (Nat.le_refl _)) (by omega) ?_; intro g2 c2 w3 hown3 hb3 hw3 _; have hS3 := HS.out.keep (hb3.block _ (Nat.lt_succ_self _)); have t4 := hS3.cell 4; have t4f := hS3.frozen 4; have HS3 := Lib.hid hS3; have HO3 := Lib.hid hown3; clear hS3 hown3))
        all_goals go_wp2_with fail
        all_goals
          have hrel2 : (w3.setCell ⟨w.heap.size, 4, none⟩ (.slice (some ⟨g2, 0, none⟩) (acc.length + n2) c2)).ownsRow (w.heap.size + 1) 63 1 (.slice (some ⟨g2, 0, none⟩) (acc.length + n2) c2) (P.take (j + 1)).flatten.length (P.take (j + 1)).flatten := by
            rw [HF2.out, List.length_append, hps]
            refine own_only (G := [w.heap.size]) HO3.out ((Only.refl _ _).setCell (p := ⟨w.heap.size, 4, none⟩) (.inl (by simp)) _) fun k hk => ?_
            have := (HO3.out.lt k hk).1
            simp; omega
          have HR2 := Lib.hid hrel2
          clear hrel2
          go_roundw
        all_goals first
          | exact ⟨j + 1, by omega, by go_num, _, HS3.out.set_ 4 _, HR2.out, ((HB.out.drew).trans (hb3.mono (by omega))).setCell (p := ⟨w.heap.size, 4, none⟩) (Nat.le_refl _) _⟩
          | (simp [intOf]; omega)
    · obtain rfl : j = K.len := by omega
      rw [← hfl, List.take_length, HFP.out.2, ← HFP.out.1] at hu
      have s4 : wr.cell? ⟨w.heap.size, 4, none⟩ = some u := hS.cell 4
      obtain ⟨A, cc, rfl⟩ := own_slice hu
      by_cases hone : KF.len = 1
      · obtain ⟨g, c2, he, hg⟩ := own_some hu (by omega)
        obtain ⟨v, hv⟩ : ∃ v, KF.ptrs = [v] := List.length_eq_one_iff.1 (by rw [F.ptrs_len]; exact hone)
        injection he with e1 _ e2
        subst e1
        have c0 : wr.cell? ⟨g, 0, none⟩ = some v := by
          have := hu.cells (g := g) rfl 0 v (by rw [hv]; rfl)
          simpa [Addr.add] using this
        rw [hone] at s4
        have HU := Lib.hid hu
        have HS := Lib.hid hS
        have HB := Lib.hid hb
        have HV := Lib.hid hv
        have HONE := Lib.hid hone
        clear hu hS hb hv hone HFP hflc
        go_wp2_with fail
        go_ret
        exact ⟨_, HU.out, HS.out, HB.out, .inl ⟨HONE.out, v, HV.out, rfl⟩⟩
      · have hnn : ¬ (KF.len : Int) = 1 := by omega
        have HU := Lib.hid hu
        have HS := Lib.hid hS
        have HB := Lib.hid hb
        clear hu hS hb HFP
        go_wp2_with fail
        go_ret
        exact ⟨_, HU.out, HS.out, HB.out, .inr ⟨hone, rfl⟩⟩
end Go.Proofs.YtkanglfpiahecaaDoor.Lyt
/- A split made anew: what lies there then. -/
namespace Go.Proofs.YtkanglfpiahecaaDoor.Lyt
open Go.RowKit

theorem remk_blks {b kb cap : Nat} {al : Int} {K : F} : ∀ x ∈ (F.remk b kb cap al K).blks, x = b ∨ x = kb ∨ x ∈ K.blks := by
  intro x hx
  have hs := F.flat_sub al K
  unfold F.remk at hx
  split at hx
  · generalize K.flat al = L at *
    cases L with
    | nil => simp [F.move, F.blks] at hx
    | leaf c p s0 s1 r =>
      rcases List.mem_cons.1 hx with rfl | hx
      · exact .inl rfl
      · exact .inr (.inr (hs.subset (by simp [F.blks, hx])))
    | node c kb2 cap2 a ks r =>
      rcases List.mem_cons.1 hx with rfl | hx
      · exact .inl rfl
      · exact .inr (.inr (hs.subset (List.mem_cons_of_mem _ hx)))
  · simp only [F.blks, List.mem_cons, List.append_nil] at hx
    rcases hx with rfl | rfl | hx
    · exact .inl rfl
    · exact .inr (.inl rfl)
    · exact .inr (.inr (hs.subset hx))
theorem remk_nodup {b kb cap : Nat} {al : Int} {K : F} (h : K.blks.Nodup) (hb : b ∉ K.blks) (hk : kb ∉ K.blks) (hne : b ≠ kb) : (F.remk b kb cap al K).blks.Nodup := by
  have hs := F.flat_sub al K
  have hn := h.sublist hs
  have hb' : b ∉ (K.flat al).blks := fun hx => hb (hs.subset hx)
  have hk' : kb ∉ (K.flat al).blks := fun hx => hk (hs.subset hx)
  unfold F.remk
  split
  · generalize K.flat al = L at *
    cases L with
    | nil => exact List.nodup_nil
    | leaf c p s0 s1 r => exact List.nodup_cons.2 ⟨fun hx => hb' (List.mem_cons_of_mem _ hx), (List.nodup_cons.1 hn).2⟩
    | node c kb2 cap2 a ks r => exact List.nodup_cons.2 ⟨fun hx => hb' (List.mem_cons_of_mem _ hx), (List.nodup_cons.1 hn).2⟩
  · simp only [F.blks, List.append_nil]
    exact List.nodup_cons.2 ⟨fun hx => by rcases List.mem_cons.1 hx with e | hx; exact hne e; exact hb' hx, List.nodup_cons.2 ⟨hk', hn⟩⟩
theorem remk_cnt {b kb cap : Nat} {al : Int} {K : F} : (F.remk b kb cap al K).cnt = K.cnt := by
  unfold F.remk
  split
  · rw [← F.flat_cnt al K]
    generalize K.flat al = L at *
    cases L <;> rfl
  · simp [F.cnt, F.flat_cnt]
theorem remk_has1 {b kb cap : Nat} {al : Int} {K : F} (h : K.has1) (hl : 1 ≤ K.len) : (F.remk b kb cap al K).has1 := by
  have h1 := F.flat_has1 al h
  have h2 := F.flat_ge al K h
  unfold F.remk
  split
  · generalize K.flat al = L at *
    cases L <;> exact h1
  · exact ⟨by omega, h1, trivial⟩
theorem remk_ptrs {b kb cap : Nat} {al : Int} {K : F} : (F.remk b kb cap al K).ptrs = [pV b] := by
  unfold F.remk
  split
  next h =>
    generalize K.flat al = L at *
    cases L with
    | nil => simp [F.len] at h
    | leaf c p s0 s1 r =>
      cases r with
      | nil => rfl
      | leaf _ _ _ _ _ => simp [F.len] at h
      | node _ _ _ _ _ _ => simp [F.len] at h
    | node c kb2 cap2 a ks r =>
      cases r with
      | nil => rfl
      | leaf _ _ _ _ _ => simp [F.len] at h
      | node _ _ _ _ _ _ => simp [F.len] at h
  · rfl
theorem remk_len {b kb cap : Nat} {al : Int} {K : F} : (F.remk b kb cap al K).len = 1 := by
  rw [← F.ptrs_len, remk_ptrs]
  rfl
/-- The five cells of what is made, and what lies there when they are stored in place. -/
theorem res5 {b s : Nat} {al : Int} {K : F} {w3 : World} {u : Value} {e : Ending} {V : World} (hs : s = V.heap.size) (hin : K.In V) (hb3 : Below V.heap.size V w3) (h1 : K.has1) (hl : 1 ≤ K.len) (hown : w3.ownsRow (s + 1) 63 1 u (K.flat al).len (K.flat al).ptrs) (hbl : BL w3 s 53 [.int .i64 0, .int .i64 0, .int .i64 0, .int .i64 al, u])
    (hor : ((K.flat al).len = 1 ∧ ∃ v, (K.flat al).ptrs = [v] ∧ e = .returned v) ∨ ((K.flat al).len ≠ 1 ∧ e = .returned (pV s))) (hb : b ∉ K.blks) (hbs : b < s) :
    ∃ b1 x0 x1 x2 x3 A n c, e = .returned (pV b1) ∧ BN w3 b1 [.int .i64 x0, .int .i64 x1, .int .i64 x2, .int .i64 x3, .slice A n c] ∧
      ∀ w4, BN w4 b [.int .i64 x0, .int .i64 x1, .int .i64 x2, .int .i64 x3, .slice A n c] → Only [b] w3 w4 → ∃ kb2 cap2, s ≤ kb2 ∧ kb2 < w4.heap.size ∧ (F.remk b kb2 cap2 al K).In w4 := by
  have hin3 := F.flat_in al (hin.below hb3)
  have hsub := (F.flat_sub al K).subset
  have hge := F.flat_ge al K h1
  have hb' : ∀ x ∈ (K.flat al).blks, x ∉ [b] := fun x hx hm => by
    rw [List.mem_singleton] at hm
    subst hm
    exact hb (hsub hx)
  have hsl := hbl.lt
  rcases hor with ⟨hone, v, hv, rfl⟩ | ⟨hne, rfl⟩
  · have hrk : ∀ kb2 cap2, F.remk b kb2 cap2 al K = (K.flat al).move b := fun kb2 cap2 => by unfold F.remk; rw [if_pos hone]
    generalize K.flat al = L at *
    cases L with
    | nil => simp [F.len] at hone
    | leaf c p s0 s1 r =>
      obtain rfl : pV c = v := by simp [F.ptrs] at hv; exact hv.1
      refine ⟨c, p, s0, s1, 0, none, 0, 0, rfl, hin3.1, fun w4 h4 ho => ⟨s, 0, Nat.le_refl _, Nat.lt_of_lt_of_le hsl ho.size, ?_⟩⟩
      rw [hrk]
      exact ⟨h4, hin3.2.only ho fun x hx => hb' x (by simp [F.blks, hx])⟩
    | node c kb cap a ks r =>
      obtain rfl : pV c = v := by simp [F.ptrs] at hv; exact hv.1
      refine ⟨c, 0, 0, 0, a, _, _, _, rfl, hin3.1, fun w4 h4 ho => ⟨s, 0, Nat.le_refl _, Nat.lt_of_lt_of_le hsl ho.size, ?_⟩⟩
      rw [hrk]
      exact ⟨h4, hin3.2.1.only ho (hb' _ (by simp [F.blks])), hin3.2.2.1.only ho fun x hx => hb' x (by simp [F.blks, hx]), hin3.2.2.2.only ho fun x hx => hb' x (by simp [F.blks, hx])⟩
  · obtain ⟨g, c, rfl, hg⟩ := own_some hown (by omega)
    have hgl := (hown.lt g rfl).2
    refine ⟨s, 0, 0, 0, al, some ⟨g, 0, none⟩, (K.flat al).len, c, rfl, ⟨_, hbl⟩, fun w4 h4 ho => ⟨g, c, by omega, Nat.lt_of_lt_of_le hgl ho.size, ?_⟩⟩
    unfold F.remk
    rw [if_neg hne]
    exact ⟨h4, (RowAt.of_own hown).only ho (by simp; omega), hin3.only ho hb', trivial⟩
end Go.Proofs.YtkanglfpiahecaaDoor.Lyt
