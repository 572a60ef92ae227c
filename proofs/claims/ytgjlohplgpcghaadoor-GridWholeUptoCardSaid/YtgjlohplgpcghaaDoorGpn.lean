/- A cell that is not laid; a cell laid, or not. -/
import Derived.Test.YtgjlohplgpcghaaDoorGrf
import Derived.Laws.IdiomStrings
import Derived.Laws.RangeAny
namespace Go.Proofs.YtgjlohplgpcghaaDoor.Grd
open Go.RowKit Cel Sty

/-- A grid with a cell laid, if it may be, and has room. -/
def putG (G : GS) (x y : Int) (c : Ce) : GS :=
  if h : (0 ≤ y ∧ y.toNat < G.scr.length) ∧ mayS c.1 c.2.1 c.2.2.1 c.2.2.2.1 c.2.2.2.2 = true ∧ 0 ≤ x ∧ x + c.2.1 ≤ (G.cols : Int) then
    { G with scr := G.scr.set y.toNat { G.scr[y.toNat]'(h.1.2) with l := putL (G.scr[y.toNat]'(h.1.2)).l x.toNat c } } else G
theorem may_width {r wd s1 s2 s3 : Int} (h : mayS r wd s1 s2 s3 = true) : wd = 1 ∨ wd = 2 := by
  have h1 : 0 < wd ∧ wd = width r := by unfold mayS at h; simp at h; exact ⟨h.1, h.2.1⟩
  have := width_bd r
  omega
section
variable {P : Program} {ops : Array Oper} {Q : Exit → Act → World → Prop} {md : Region.Mode} {S : World → Prop}
/-- An operation that is taken first, its slot named. -/
theorem any_take {i : Nat} {d : Tmp} {oi : Oper} {v : Value} {fuel : Nat} {listed : Array Bool} {a : Act} {w : World} (hi : ops[i]? = some oi) (hd : oi.dst = some d)
    (hs : Region.noSelect ops = true) (hf : Region.free md ops listed i = true) (hr : (Region.ready md ops listed).contains i = true)
    (hQ : ∀ c a w, Q (.panic c) (a.put oi.dst v) w → Q (.panic c) a w) (hw : Region.wanted oi (yielded ops a.tmps) = true) (hy : ∀ w, S w → (execOp a.eval oi).run P w = .ok (.value v) w) (hS : S w)
    (h : wpAnyH P md ops Q S fuel (listed.setIfInBounds i true) (a.put (some d) v) w) : wpAnyH P md ops Q S (fuel + 1) listed a w :=
  wpAnyH_take hi hs hf hr hQ (.inl ⟨hw, hy⟩) hS (by rw [hd]; exact h)
/-- An operation that is not carried out. -/
theorem any_skip {i : Nat} {oi : Oper} {fuel : Nat} {listed : Array Bool} {a : Act} {w : World} (hi : ops[i]? = some oi)
    (hs : Region.noSelect ops = true) (hf : Region.free md ops listed i = true) (hr : (Region.ready md ops listed).contains i = true)
    (hQ : ∀ c a w, Q (.panic c) (a.put oi.dst undef) w → Q (.panic c) a w) (hw : Region.wanted oi (yielded ops a.tmps) = false) (hu : a.put oi.dst undef = a) (hS : S w)
    (h : wpAnyH P md ops Q S fuel (listed.setIfInBounds i true) a w) : wpAnyH P md ops Q S (fuel + 1) listed a w :=
  wpAnyH_take hi hs hf hr hQ (.inr ⟨hw, rfl⟩) hS (by rw [hu]; exact h)
end
set_option maxRecDepth 100000 in
set_option maxHeartbeats 2000000 in
/-- No such row. -/
theorem put_no_row {B : Nat} {w : World} {g s : Nat} {pv : Value} {fp : List Nat} {G : GS} (h : GridAt w g s pv fp G) (ht : Tabs B w) (hB : B ≤ w.heap.size) (x y : Int) (r wd s1 s2 s3 : Int) (hno : decide (0 ≤ y ∧ y < G.scr.length) = false) :
    Calls Tryd.prog 11 #[.pointer (some ⟨g, 0, none⟩), .int .i64 x, .int .i64 y, .agg #[.int .i32 r, .int .i64 wd, .int .i64 s1, .int .i64 s2, .int .i64 s3]] w fun e w' => e = .returned (.tuple #[]) ∧ Below w.heap.size w w' := by
  have hsh := fun w h => shows_any (w := w) (g := g) (s := s) (pv := pv) (fp := fp) (G := G) h y false hno
  have hgl := h.blk.lt
  have hA := BL.new w 35 [.int .i32 r, .int .i64 wd, .int .i64 s1, .int .i64 s2, .int .i64 s3]
  have hb0 : Below w.heap.size w (w.alloc (.cells #[.int .i32 r, .int .i64 wd, .int .i64 s1, .int .i64 s2, .int .i64 s3] 35)) := (Below.refl _ _).alloc (Nat.le_refl _) _
  have hs0 := hb0.size
  have HA := Lib.hid hA
  have HG := Lib.hid (h.below hb0)
  have HT := Lib.hid (ht.below hb0 hB)
  have hAl := hA.lt
  have HB0 := Lib.hid hb0
  clear hA h ht hb0 hno HT
  go_enter Tryd.func11, Tryd.ntmps11
  go_wp2_with fail
  generalize w.alloc (.cells #[.int .i32 r, .int .i64 wd, .int .i64 s1, .int .i64 s2, .int .i64 s3] 35) = W at *
  have hdr : Below W.heap.size W W.drew := (Below.refl _ _).drew
  go_cut [32] (fun s32 wx => s32 = .bool true ∧ Below W.heap.size W wx)
  case first =>
    have hq : ∀ n, Calls Tryd.prog 35 #[.pointer (some ⟨g, 0, none⟩), .int .i64 y] (W.drewN n) fun e w' => e = .returned (.bool false) ∧ w' = W.drewN n := fun n =>
      (hsh (W.drewN n) (HG.out.only (F := []) ⟨rfl, rfl, rfl, Nat.le_refl _, fun _ _ _ => rfl⟩ (by simp))).mono fun _ _ h => ⟨h.1, h.2.symm⟩
    clear HB0 HA HG
    go_quiet ((go_at_call 35; exact Calls.quiet_of_same (hq _)))
    all_goals go_wp2_with fail
    all_goals go_meet
    all_goals exact ⟨rfl, ⟨rfl, rfl, rfl, Nat.le_refl _, fun _ _ => rfl⟩⟩
  case rest =>
    obtain ⟨rfl, hb1⟩ := hcut
    have HF := Lib.hid (HB0.out.trans (hb1.mono hs0))
    go_wp2_with fail
    exact bodyPost_ret (results_none rfl _ _) rfl ⟨rfl, HF.out⟩
set_option maxRecDepth 100000 in
set_option maxHeartbeats 2000000 in
/-- No cell that may be put. -/
theorem put_no_may {B : Nat} {w : World} {g s : Nat} {pv : Value} {fp : List Nat} {G : GS} (h : GridAt w g s pv fp G) (ht : Tabs B w) (hB : B ≤ w.heap.size) (x y : Int) (r wd s1 s2 s3 : Int) (hr0 : -2147483648 ≤ r) (hr1 : r ≤ 2147483647) (hsh0 : decide (0 ≤ y ∧ y < G.scr.length) = true) (hmay : mayS r wd s1 s2 s3 = false) :
    Calls Tryd.prog 11 #[.pointer (some ⟨g, 0, none⟩), .int .i64 x, .int .i64 y, .agg #[.int .i32 r, .int .i64 wd, .int .i64 s1, .int .i64 s2, .int .i64 s3]] w fun e w' => e = .returned (.tuple #[]) ∧ Below w.heap.size w w' := by
  have hsh := fun w h => shows_any (w := w) (g := g) (s := s) (pv := pv) (fp := fp) (G := G) h y true hsh0
  have hmb := fun w ht hB => mayBePut_any (B := B) r wd s1 s2 s3 hr0 hr1 false hmay w ht hB
  have hgl := h.blk.lt
  have hA := BL.new w 35 [.int .i32 r, .int .i64 wd, .int .i64 s1, .int .i64 s2, .int .i64 s3]
  have hb0 : Below w.heap.size w (w.alloc (.cells #[.int .i32 r, .int .i64 wd, .int .i64 s1, .int .i64 s2, .int .i64 s3] 35)) := (Below.refl _ _).alloc (Nat.le_refl _) _
  have hs0 := hb0.size
  have HA := Lib.hid hA
  have HG := Lib.hid (h.below hb0)
  have HT := Lib.hid (ht.below hb0 hB)
  have hAl := hA.lt
  have HB0 := Lib.hid hb0
  clear hA h ht hb0 hsh0 hmay hr0 hr1
  go_enter Tryd.func11, Tryd.ntmps11
  go_wp2_with fail
  generalize w.alloc (.cells #[.int .i32 r, .int .i64 wd, .int .i64 s1, .int .i64 s2, .int .i64 s3] 35) = W at *
  have hdr : Below W.heap.size W W.drew := (Below.refl _ _).drew
  go_cut [32] (fun s32 wx => s32 = .bool true ∧ Below W.heap.size W wx)
  case first =>
    have SS : ∀ V, Below W.heap.size W V → (V.cell? ⟨w.heap.size, 0, none⟩ = some (.int .i32 r) ∧ V.cell? ⟨w.heap.size, 1, none⟩ = some (.int .i64 wd) ∧ V.cell? ⟨w.heap.size, 2, none⟩ = some (.int .i64 s1) ∧ V.cell? ⟨w.heap.size, 3, none⟩ = some (.int .i64 s2) ∧ V.cell? ⟨w.heap.size, 4, none⟩ = some (.int .i64 s3) ∧ GridAt V g s pv fp G ∧ Tabs B V ∧ Below W.heap.size W V) := fun V hkk => by
      have hA2 := HA.out.only (F := []) (Only.of_below hkk) (by simp)
      exact ⟨hA2.cell 0, hA2.cell 1, hA2.cell 2, hA2.cell 3, hA2.cell 4, HG.out.below hkk, HT.out.below hkk (by omega), hkk⟩
    clear HB0
    refine wp_region_held_drew (S := fun V => V.cell? ⟨w.heap.size, 0, none⟩ = some (.int .i32 r) ∧ V.cell? ⟨w.heap.size, 1, none⟩ = some (.int .i64 wd) ∧ V.cell? ⟨w.heap.size, 2, none⟩ = some (.int .i64 s1) ∧ V.cell? ⟨w.heap.size, 3, none⟩ = some (.int .i64 s2) ∧ V.cell? ⟨w.heap.size, 4, none⟩ = some (.int .i64 s3) ∧ GridAt V g s pv fp G ∧ Tabs B V ∧ Below W.heap.size W V) (by kernel_rfl) (SS _ hdr) (fun hHeld => ?_)
    refine any_take (i := 0) (d := 9) (v := .pointer (some ⟨g, 0, none⟩)) rfl rfl (by kernel_rfl) (by kernel_rfl) (by kernel_rfl) (fun _ _ _ h => h) rfl ?_ (by assumption) ?_
    · intro V hV
      obtain ⟨_, _, _, _, _, _, _, _⟩ := hV
      go_simp
    simp only [Act.put, List.setIfInBounds_toArray, List.set_cons_zero, List.set_cons_succ]
    refine any_take (i := 1) (d := 10) (v := .int .i64 y) rfl rfl (by kernel_rfl) (by kernel_rfl) (by kernel_rfl) (fun _ _ _ h => h) rfl ?_ (by assumption) ?_
    · intro V hV
      obtain ⟨_, _, _, _, _, _, _, _⟩ := hV
      go_simp
    simp only [Act.put, List.setIfInBounds_toArray, List.set_cons_zero, List.set_cons_succ]
    refine wpAnyH_ready (rs := [2]) (by kernel_rfl) (by simp) ?_
    refine AllReadyH.cons rfl (fun K hK => ?_) AllReadyH.nil
    go_simp
    obtain ⟨_, _, _, _, _, kg, _, _⟩ := hHeld
    refine (hsh _ kg).mono ?_
    rintro _ w2 ⟨rfl, rfl⟩
    go_wp2_with fail
    refine hK.out _ _ ?_ (fun hHeld => ?_)
    · exact SS _ hdr
    clear hK K
    refine any_take (i := 3) (d := 12) (v := .bool false) rfl rfl (by kernel_rfl) (by kernel_rfl) (by kernel_rfl) (fun _ _ _ h => h) rfl ?_ (by assumption) ?_
    · intro V hV
      obtain ⟨_, _, _, _, _, _, _, _⟩ := hV
      go_simp
    simp only [Act.put, List.setIfInBounds_toArray, List.set_cons_zero, List.set_cons_succ]
    refine any_take (i := 4) (d := 13) (v := .bool false) rfl rfl (by kernel_rfl) (by kernel_rfl) (by kernel_rfl) (fun _ _ _ h => h) rfl ?_ (by assumption) ?_
    · intro V hV
      obtain ⟨_, _, _, _, _, _, _, _⟩ := hV
      go_simp
    simp only [Act.put, List.setIfInBounds_toArray, List.set_cons_zero, List.set_cons_succ]
    refine any_take (i := 5) (d := 14) (v := .agg #[.int .i32 r, .int .i64 wd, .int .i64 s1, .int .i64 s2, .int .i64 s3]) rfl rfl (by kernel_rfl) (by kernel_rfl) (by kernel_rfl) (fun _ _ _ h => h) rfl ?_ (by assumption) ?_
    · intro V hV
      obtain ⟨_, _, _, _, _, _, _, _⟩ := hV
      go_simp
    simp only [Act.put, List.setIfInBounds_toArray, List.set_cons_zero, List.set_cons_succ]
    refine wpAnyH_ready (rs := [6]) (by kernel_rfl) (by simp) ?_
    refine AllReadyH.cons rfl (fun K hK => ?_) AllReadyH.nil
    go_simp
    obtain ⟨_, _, _, _, _, _, kt, k3⟩ := hHeld
    refine (hmb _ kt (by have := k3.size; omega)).mono ?_
    rintro _ w3 ⟨rfl, hb3⟩
    have hby := k3.trans (hb3.mono k3.size)
    go_wp2_with fail
    refine hK.out _ _ ?_ (fun hHeld => ?_)
    · exact SS _ hby
    clear hK K
    refine any_take (i := 7) (d := 16) (v := .bool true) rfl rfl (by kernel_rfl) (by kernel_rfl) (by kernel_rfl) (fun _ _ _ h => h) rfl ?_ (by assumption) ?_
    · intro V hV
      obtain ⟨_, _, _, _, _, _, _, _⟩ := hV
      go_simp
    simp only [Act.put, List.setIfInBounds_toArray, List.set_cons_zero, List.set_cons_succ]
    refine any_take (i := 8) (d := 17) (v := .bool true) rfl rfl (by kernel_rfl) (by kernel_rfl) (by kernel_rfl) (fun _ _ _ h => h) rfl ?_ (by assumption) ?_
    · intro V hV
      obtain ⟨_, _, _, _, _, _, _, _⟩ := hV
      go_simp
    simp only [Act.put, List.setIfInBounds_toArray, List.set_cons_zero, List.set_cons_succ]
    refine any_take (i := 9) (d := 18) (v := .bool true) rfl rfl (by kernel_rfl) (by kernel_rfl) (by kernel_rfl) (fun _ _ _ h => h) rfl ?_ (by assumption) ?_
    · intro V hV
      obtain ⟨_, _, _, _, _, _, _, _⟩ := hV
      go_simp
    simp only [Act.put, List.setIfInBounds_toArray, List.set_cons_zero, List.set_cons_succ]
    refine any_skip (i := 10) rfl (by kernel_rfl) (by kernel_rfl) (by kernel_rfl) (fun _ _ _ h => h) rfl rfl (by assumption) ?_
    refine any_skip (i := 11) rfl (by kernel_rfl) (by kernel_rfl) (by kernel_rfl) (fun _ _ _ h => h) rfl rfl (by assumption) ?_
    refine any_take (i := 12) (d := 21) (v := .bool true) rfl rfl (by kernel_rfl) (by kernel_rfl) (by kernel_rfl) (fun _ _ _ h => h) rfl ?_ (by assumption) ?_
    · intro V hV
      obtain ⟨_, _, _, _, _, _, _, _⟩ := hV
      go_simp
    simp only [Act.put, List.setIfInBounds_toArray, List.set_cons_zero, List.set_cons_succ]
    refine any_take (i := 13) (d := 22) (v := .bool true) rfl rfl (by kernel_rfl) (by kernel_rfl) (by kernel_rfl) (fun _ _ _ h => h) rfl ?_ (by assumption) ?_
    · intro V hV
      obtain ⟨_, _, _, _, _, _, _, _⟩ := hV
      go_simp
    simp only [Act.put, List.setIfInBounds_toArray, List.set_cons_zero, List.set_cons_succ]
    refine any_skip (i := 14) rfl (by kernel_rfl) (by kernel_rfl) (by kernel_rfl) (fun _ _ _ h => h) rfl rfl (by assumption) ?_
    refine any_skip (i := 15) rfl (by kernel_rfl) (by kernel_rfl) (by kernel_rfl) (fun _ _ _ h => h) rfl rfl (by assumption) ?_
    refine any_skip (i := 16) rfl (by kernel_rfl) (by kernel_rfl) (by kernel_rfl) (fun _ _ _ h => h) rfl rfl (by assumption) ?_
    refine any_skip (i := 17) rfl (by kernel_rfl) (by kernel_rfl) (by kernel_rfl) (fun _ _ _ h => h) rfl rfl (by assumption) ?_
    refine any_skip (i := 18) rfl (by kernel_rfl) (by kernel_rfl) (by kernel_rfl) (fun _ _ _ h => h) rfl rfl (by assumption) ?_
    refine any_skip (i := 19) rfl (by kernel_rfl) (by kernel_rfl) (by kernel_rfl) (fun _ _ _ h => h) rfl rfl (by assumption) ?_
    refine any_skip (i := 20) rfl (by kernel_rfl) (by kernel_rfl) (by kernel_rfl) (fun _ _ _ h => h) rfl rfl (by assumption) ?_
    refine any_skip (i := 21) rfl (by kernel_rfl) (by kernel_rfl) (by kernel_rfl) (fun _ _ _ h => h) rfl rfl (by assumption) ?_
    refine any_skip (i := 22) rfl (by kernel_rfl) (by kernel_rfl) (by kernel_rfl) (fun _ _ _ h => h) rfl rfl (by assumption) ?_
    refine any_take (i := 23) (d := 32) (v := .bool true) rfl rfl (by kernel_rfl) (by kernel_rfl) (by kernel_rfl) (fun _ _ _ h => h) rfl ?_ (by assumption) ?_
    · intro V hV
      obtain ⟨_, _, _, _, _, _, _, _⟩ := hV
      go_simp
    simp only [Act.put, List.setIfInBounds_toArray, List.set_cons_zero, List.set_cons_succ]
    refine wpAnyH_done (by kernel_rfl) ?_ _
    go_wp2_with fail
    go_meet
    exact ⟨rfl, hby⟩
  case rest =>
    obtain ⟨rfl, hb1⟩ := hcut
    have HF := Lib.hid (HB0.out.trans (hb1.mono hs0))
    go_wp2_with fail
    exact bodyPost_ret (results_none rfl _ _) rfl ⟨rfl, HF.out⟩
set_option maxRecDepth 100000 in
set_option maxHeartbeats 2000000 in
/-- No room. -/
theorem put_no_room {B : Nat} {w : World} {g s : Nat} {pv : Value} {fp : List Nat} {G : GS} (h : GridAt w g s pv fp G) (ht : Tabs B w) (hB : B ≤ w.heap.size) (x y : Int) (r wd s1 s2 s3 : Int) (hr0 : -2147483648 ≤ r) (hr1 : r ≤ 2147483647) (hsh0 : decide (0 ≤ y ∧ y < G.scr.length) = true) (hmay : mayS r wd s1 s2 s3 = true) (hx0 : 0 ≤ x) (hx1 : x ≤ 4611686018427387904) (hno : (G.cols : Int) < x + wd) :
    Calls Tryd.prog 11 #[.pointer (some ⟨g, 0, none⟩), .int .i64 x, .int .i64 y, .agg #[.int .i32 r, .int .i64 wd, .int .i64 s1, .int .i64 s2, .int .i64 s3]] w fun e w' => e = .returned (.tuple #[]) ∧ Below w.heap.size w w' := by
  have hsh := fun w h => shows_any (w := w) (g := g) (s := s) (pv := pv) (fp := fp) (G := G) h y true hsh0
  have hmb := fun w ht hB => mayBePut_any (B := B) r wd s1 s2 s3 hr0 hr1 true hmay w ht hB
  have hc1 := h.c1
  have hc2 := h.c2
  have hw := may_width hmay
  obtain ⟨n, hn⟩ : ∃ n, G.cols = n := ⟨_, rfl⟩
  have HCN := Lib.hid hn
  rw [hn] at hno hc1 hc2
  have d1 : decide (x < 0) = false := by simpa using hx0
  have d2 : decide ((n : Int) - wd < x) = true := by simp; omega
  have d3 : (n : Int) - wd < x := by omega
  have j1 : IntKind.i64.wrap ((n : Int) - wd) = (n : Int) - wd := IntWalk.i64_in _ ⟨by omega, by omega⟩
  have hgl := h.blk.lt
  have hA := BL.new w 35 [.int .i32 r, .int .i64 wd, .int .i64 s1, .int .i64 s2, .int .i64 s3]
  have hb0 : Below w.heap.size w (w.alloc (.cells #[.int .i32 r, .int .i64 wd, .int .i64 s1, .int .i64 s2, .int .i64 s3] 35)) := (Below.refl _ _).alloc (Nat.le_refl _) _
  have hs0 := hb0.size
  have HA := Lib.hid hA
  have HG := Lib.hid (h.below hb0)
  have HT := Lib.hid (ht.below hb0 hB)
  have hAl := hA.lt
  have HB0 := Lib.hid hb0
  clear hA h ht hb0 hsh0 hmay hr0 hr1 hn hw hno
  go_enter Tryd.func11, Tryd.ntmps11
  go_wp2_with fail
  generalize w.alloc (.cells #[.int .i32 r, .int .i64 wd, .int .i64 s1, .int .i64 s2, .int .i64 s3] 35) = W at *
  have hdr : Below W.heap.size W W.drew := (Below.refl _ _).drew
  go_cut [32] (fun s32 wx => s32 = .bool true ∧ Below W.heap.size W wx)
  case first =>
    have SS : ∀ V, Below W.heap.size W V → (V.cell? ⟨w.heap.size, 0, none⟩ = some (.int .i32 r) ∧ V.cell? ⟨w.heap.size, 1, none⟩ = some (.int .i64 wd) ∧ V.cell? ⟨w.heap.size, 2, none⟩ = some (.int .i64 s1) ∧ V.cell? ⟨w.heap.size, 3, none⟩ = some (.int .i64 s2) ∧ V.cell? ⟨w.heap.size, 4, none⟩ = some (.int .i64 s3) ∧ V.cell? ⟨g, 0, none⟩ = some (.int .i64 (n : Int)) ∧ GridAt V g s pv fp G ∧ Tabs B V ∧ Below W.heap.size W V) := fun V hkk => by
      have hA2 := HA.out.only (F := []) (Only.of_below hkk) (by simp)
      have hG2 := HG.out.below hkk
      exact ⟨hA2.cell 0, hA2.cell 1, hA2.cell 2, hA2.cell 3, hA2.cell 4, by rw [← HCN.out]; exact hG2.f0, hG2, HT.out.below hkk (by omega), hkk⟩
    clear HB0
    go_region_held3 (fun V => V.cell? ⟨w.heap.size, 0, none⟩ = some (.int .i32 r) ∧ V.cell? ⟨w.heap.size, 1, none⟩ = some (.int .i64 wd) ∧ V.cell? ⟨w.heap.size, 2, none⟩ = some (.int .i64 s1) ∧ V.cell? ⟨w.heap.size, 3, none⟩ = some (.int .i64 s2) ∧ V.cell? ⟨w.heap.size, 4, none⟩ = some (.int .i64 s3) ∧ V.cell? ⟨g, 0, none⟩ = some (.int .i64 (n : Int)) ∧ GridAt V g s pv fp G ∧ Tabs B V ∧ Below W.heap.size W V)
      (first
        | (refine SS _ ?_; assumption)
        | fail)
      (first
        | (go_at_call 35; obtain ⟨_, _, _, _, _, _, kg, _, k2⟩ := (by assumption : _ ∧ _ ∧ _ ∧ _ ∧ _ ∧ _ ∧ GridAt _ g s pv fp G ∧ Tabs B _ ∧ Below W.heap.size W _); refine (hsh _ kg).mono ?_; rintro _ w2 ⟨rfl, rfl⟩)
        | (go_at_call 36; obtain ⟨_, _, _, _, _, _, _, kt, k3⟩ := (by assumption : _ ∧ _ ∧ _ ∧ _ ∧ _ ∧ _ ∧ GridAt _ g s pv fp G ∧ Tabs B _ ∧ Below W.heap.size W _); refine (hmb _ kt (by have := k3.size; omega)).mono ?_; rintro _ w3 ⟨rfl, hb3⟩; have hby := k3.trans (hb3.mono k3.size)))
    all_goals go_wp2_with fail
    all_goals go_meet
    all_goals exact ⟨rfl, hby⟩
  case rest =>
    obtain ⟨rfl, hb1⟩ := hcut
    have HF := Lib.hid (HB0.out.trans (hb1.mono hs0))
    go_wp2_with fail
    exact bodyPost_ret (results_none rfl _ _) rfl ⟨rfl, HF.out⟩
theorem put_no {B : Nat} {w : World} {g s : Nat} {pv : Value} {fp : List Nat} {G : GS} (h : GridAt w g s pv fp G) (ht : Tabs B w) (hB : B ≤ w.heap.size) (x y : Int) (r wd s1 s2 s3 : Int) (hr0 : -2147483648 ≤ r) (hr1 : r ≤ 2147483647) (hx0 : 0 ≤ x) (hx1 : x ≤ 4611686018427387904)
    (hno : ¬ ((0 ≤ y ∧ y < G.scr.length) ∧ mayS r wd s1 s2 s3 = true ∧ 0 ≤ x ∧ x + wd ≤ (G.cols : Int))) :
    Calls Tryd.prog 11 #[.pointer (some ⟨g, 0, none⟩), .int .i64 x, .int .i64 y, .agg #[.int .i32 r, .int .i64 wd, .int .i64 s1, .int .i64 s2, .int .i64 s3]] w fun e w' => e = .returned (.tuple #[]) ∧ Below w.heap.size w w' := by
  cases hsh : decide (0 ≤ y ∧ y < G.scr.length) with
  | false => exact put_no_row h ht hB x y r wd s1 s2 s3 hsh
  | true =>
    cases hmay : mayS r wd s1 s2 s3 with
    | false => exact put_no_may h ht hB x y r wd s1 s2 s3 hr0 hr1 hsh hmay
    | true =>
      refine put_no_room h ht hB x y r wd s1 s2 s3 hr0 hr1 hsh hmay hx0 hx1 ?_
      have h1 : 0 ≤ y ∧ y < G.scr.length := by simpa using hsh
      rcases Int.lt_or_le (G.cols : Int) (x + wd) with h2 | h2
      · exact h2
      · exact absurd ⟨h1, hmay, hx0, h2⟩ hno
/-- A cell laid, or not. -/
theorem put_gen {B : Nat} {w : World} {g s : Nat} {pv : Value} {fp : List Nat} {G : GS} (h : GridAt w g s pv fp G) (ht : Tabs B w) (hB : B ≤ w.heap.size) (x y : Int) (r wd s1 s2 s3 : Int) (hr0 : -2147483648 ≤ r) (hr1 : r ≤ 2147483647) (hx0 : 0 ≤ x) (hx1 : x ≤ 4611686018427387904) :
    Calls Tryd.prog 11 #[.pointer (some ⟨g, 0, none⟩), .int .i64 x, .int .i64 y, .agg #[.int .i32 r, .int .i64 wd, .int .i64 s1, .int .i64 s2, .int .i64 s3]] w fun e w' => e = .returned (.tuple #[]) ∧ GridAt w' g s pv fp (putG G x y (r, wd, s1, s2, s3)) ∧ Only (G.scr.map MR.b) w w' := by
  by_cases hc : (0 ≤ y ∧ y.toNat < G.scr.length) ∧ mayS r wd s1 s2 s3 = true ∧ 0 ≤ x ∧ x + wd ≤ (G.cols : Int)
  · have e : putG G x y (r, wd, s1, s2, s3) = { G with scr := G.scr.set y.toNat { G.scr[y.toNat]'(hc.1.2) with l := putL (G.scr[y.toNat]'(hc.1.2)).l x.toNat (r, wd, s1, s2, s3) } } := by
      unfold putG
      rw [dif_pos hc]
    rw [e]
    have h1 := put_any h ht hB x.toNat y.toNat hc.1.2 r wd s1 s2 s3 hr0 hr1 hc.2.1 (by rw [Int.toNat_of_nonneg hc.2.2.1]; exact hc.2.2.2)
    rw [Int.toNat_of_nonneg hc.2.2.1, Int.toNat_of_nonneg hc.1.1] at h1
    refine h1.mono ?_
    rintro e w' ⟨he, hG, ho⟩
    exact ⟨he, hG, ho.mono (fun z hz => by rw [List.mem_singleton] at hz; rw [hz]; exact List.mem_map_of_mem (List.getElem_mem _))⟩
  · have e : putG G x y (r, wd, s1, s2, s3) = G := by unfold putG; rw [dif_neg hc]
    rw [e]
    refine (put_no h ht hB x y r wd s1 s2 s3 hr0 hr1 hx0 hx1 (fun h1 => hc ⟨⟨h1.1.1, by have := h1.1.2; have := h1.1.1; omega⟩, h1.2⟩)).mono ?_
    rintro e w' ⟨he, hb⟩
    exact ⟨he, h.below hb, Only.of_below hb⟩
end Go.Proofs.YtgjlohplgpcghaaDoor.Grd
/- The law's sameCells. -/
namespace Go.Proofs.YtgjlohplgpcghaaDoor.Grd
open Go.RowKit

set_option maxRecDepth 100000 in
set_option maxHeartbeats 1000000 in
theorem sameCells_any {w : World} {b1 c1 b2 c2 : Nat} {l1 l2 : List Ce} (h1 : CellsAt w b1 l1 c1) (h2 : CellsAt w b2 l2 c2) (d1 d2 : Nat) (hl : l1.length ≤ 1000000) (hl2 : l2.length ≤ 1000000) (hd1 : l1.length ≤ d1) (hd2 : l2.length ≤ d2) (eq : Bool) (heq : decide (l1 = l2) = eq) :
    Calls Tryd.prog 32 #[slV b1 0 l1.length d1, slV b2 0 l2.length d2] w fun e w' => e = .returned (.bool eq) ∧ Below w.heap.size w w' := by
  unfold slV
  have HE := Lib.hid heq
  clear heq
  obtain ⟨n, hn⟩ : ∃ n, l1.length = n := ⟨_, rfl⟩
  obtain ⟨m, hm⟩ : ∃ m, l2.length = m := ⟨_, rfl⟩
  have HN := Lib.hid hn
  have HM := Lib.hid hm
  rw [hn] at hl hd1
  rw [hm] at hl2 hd2
  rw [hn, hm]
  clear hn hm
  by_cases hnm : n = m
  · subst hnm
    go_enter Tryd.func32, Tryd.ntmps32
    go_wp2_with fail
    go_loopw [4, 5] (fun _ i wr => ∃ k : Nat, k ≤ n ∧ i = .int .i64 (k : Int) ∧ Hid (l1.take k = l2.take k) ∧ Below w.heap.size w wr) (fun _ i _ => n - (intOf i).toNat)
    case atStart => exact ⟨0, Nat.zero_le _, rfl, rfl, Below.refl _ _⟩
    case round =>
      obtain ⟨k, hk, rfl, hT, hb⟩ := hrel
      by_cases hlt : k < n
      · have k1 : k < l1.length := by have := HN.out; omega
        have k2 : k < l2.length := by have := HM.out; omega
        have hbd := hb.drew
        obtain ⟨e0, e1, e2, e3, e4⟩ := (h1.only (F := []) (Only.of_below hbd) (by simp)).five k1
        obtain ⟨f0, f1, f2, f3, f4⟩ := (h2.only (F := []) (Only.of_below hbd) (by simp)).five k2
        have HT := Lib.hid (take_eq_succ hT.out k1 k2)
        have HX := Lib.hid (ne_of_at k1 k2)
        obtain ⟨⟨r, wd, s1, s2, s3⟩, hq⟩ : ∃ q, l1[k] = q := ⟨_, rfl⟩
        obtain ⟨⟨r', wd', s1', s2', s3'⟩, hq'⟩ : ∃ q, l2[k] = q := ⟨_, rfl⟩
        rw [hq] at e0 e1 e2 e3 e4 HT HX
        rw [hq'] at f0 f1 f2 f3 f4 HT HX
        simp only at e0 e1 e2 e3 e4 f0 f1 f2 f3 f4
        clear hq hq' hT h1 h2
        have j0 : (0 : Int) ≤ (k : Int) := Int.natCast_nonneg _
        have j1 : (k : Int) < (n : Int) := by omega
        have hnew : ∀ P : Prop, ((r, wd, s1, s2, s3) : Ce) ≠ (r', wd', s1', s2', s3') → eq = false := fun _ hne => by rw [← HE.out]; exact HX.out hne
        by_cases q0 : r = r'
        · subst q0
          by_cases q1 : wd = wd'
          · subst q1
            by_cases q2 : s1 = s1'
            · subst q2
              by_cases q3 : s2 = s2'
              · subst q3
                by_cases q4 : s3 = s3'
                · subst q4
                  go_wp2_with fail
                  go_region
                  all_goals go_wp2_with fail
                  go_roundw
                  case rel => exact ⟨k + 1, by omega, by go_num, HT.out (by simp), hbd⟩
                  case measure => simp [intOf]; omega
                · have p : (s3 == s3') = false := by simpa using q4
                  have HV := Lib.hid (hnew True (by simp [q4]))
                  clear hnew q4
                  go_wp2_with fail
                  go_region
                  all_goals go_wp2_with fail
                  go_ret
                  exact ⟨by rw [HV.out]; first | done | rfl, hbd⟩
              · have p : (s2 == s2') = false := by simpa using q3
                have HV := Lib.hid (hnew True (by simp [q3]))
                clear hnew q3
                go_wp2_with fail
                go_region
                all_goals go_wp2_with fail
                go_ret
                exact ⟨by rw [HV.out]; first | done | rfl, hbd⟩
            · have p : (s1 == s1') = false := by simpa using q2
              have HV := Lib.hid (hnew True (by simp [q2]))
              clear hnew q2
              go_wp2_with fail
              go_region
              all_goals go_wp2_with fail
              go_ret
              exact ⟨by rw [HV.out]; first | done | rfl, hbd⟩
          · have p : (wd == wd') = false := by simpa using q1
            have HV := Lib.hid (hnew True (by simp [q1]))
            clear hnew q1
            go_wp2_with fail
            go_region
            all_goals go_wp2_with fail
            go_ret
            exact ⟨by rw [HV.out]; first | done | rfl, hbd⟩
        · have p : (r == r') = false := by simpa using q0
          have HV := Lib.hid (hnew True (by simp [q0]))
          clear hnew q0
          go_wp2_with fail
          go_region
          all_goals go_wp2_with fail
          go_ret
          exact ⟨by rw [HV.out]; first | done | rfl, hbd⟩
      · obtain rfl : k = n := by omega
        have HV : Hid (eq = true) := by
          show _ = _
          rw [← HE.out]
          have h3 := hT.out
          rw [List.take_of_length_le (by have := HN.out; omega), List.take_of_length_le (by have := HM.out; omega)] at h3
          simp [h3]
        go_wp2_with fail
        go_ret
        exact ⟨by rw [HV.out]; first | done | rfl, hb⟩
  · have d : ((n : Int) == (m : Int)) = false := by simp; omega
    have d2 : ((n : Int) != (m : Int)) = true := by simp; omega
    have HV : Hid (eq = false) := by
      show _ = _
      rw [← HE.out]
      simp only [decide_eq_false_iff_not]
      rintro rfl
      exact hnm (HN.out.symm.trans HM.out)
    clear hnm
    go_enter Tryd.func32, Tryd.ntmps32
    go_wp2_with fail
    go_ret
    exact ⟨by rw [HV.out]; first | done | rfl, Below.refl _ _⟩
end Go.Proofs.YtgjlohplgpcghaaDoor.Grd
/- A text's runes, in memory. -/
namespace Go.Proofs.YtgjlohplgpcghaaDoor.Grd
open Go.RowKit Cel Sty

def RuneV (v : Value) : Prop := ∃ r : Int, v = .int .i32 r ∧ 0 ≤ r ∧ r ≤ 2147483647
theorem runesFrom_is (s : ByteArray) : ∀ (bound i : Nat) (acc : Array Value), (∀ v ∈ acc, RuneV v) → ∀ v ∈ Conv.runesFrom s bound i acc, RuneV v
  | 0, _, acc, h => by simpa [Conv.runesFrom] using h
  | bound + 1, i, acc, h => by
    unfold Conv.runesFrom
    split
    · refine runesFrom_is s bound _ _ fun v hv => ?_
      rcases Array.mem_push.1 hv with hv | rfl
      · exact h v hv
      · exact ⟨Int.ofNat (Utf8.decode s i).1, rfl, Int.natCast_nonneg _, Int.ofNat_le.2 (decode_le s i)⟩
    · exact h
theorem runeVs (l : List Value) (h : ∀ v ∈ l, RuneV v) : ∃ rs : List Int, l = rs.map (Value.int .i32) ∧ ∀ r ∈ rs, 0 ≤ r ∧ r ≤ 2147483647 := by
  induction l with
  | nil => exact ⟨[], rfl, fun _ h => by cases h⟩
  | cons v l ih =>
    obtain ⟨rs, rfl, hr⟩ := ih fun v hv => h v (List.mem_cons_of_mem _ hv)
    obtain ⟨r, rfl, h1, h2⟩ := h v (List.mem_cons_self ..)
    exact ⟨r :: rs, rfl, fun x hx => by rcases List.mem_cons.1 hx with rfl | hx; exact ⟨h1, h2⟩; exact hr x hx⟩
/-- The runes of a text, as a new list. -/
theorem runes_conv (s : ByteArray) (w : World) (hs : s.size ≤ 70368744177664) : ∃ (rs : List Int) (c : Nat) (w1 : World), (convert 9 53 (.string s)).run Tryd.prog w = .ok (.slice (some ⟨w.heap.size, 0, none⟩) rs.length c) w1 ∧ Below w.heap.size w w1 ∧ w.heap.size < w1.heap.size ∧ rs.length ≤ s.size ∧ (∀ k (h : k < rs.length), w1.cell? ⟨w.heap.size, k, none⟩ = some (.int .i32 rs[k])) ∧ ∀ r ∈ rs, 0 ≤ r ∧ r ≤ 2147483647 := by
  have hsz : (Conv.runesFrom s s.size 0 #[]).size ≤ s.size := by simpa using size_runesFrom s s.size 0 #[]
  have hr := run_runes_of_string (P := Tryd.prog) w 9 53 21 s Tryd.underlying9 Tryd.underlying53 Tryd.underlying21 (by omega)
  obtain ⟨rs, hl, hb⟩ := runeVs (Conv.runesFrom s s.size 0 #[]).toList (fun v hv => runesFrom_is s s.size 0 #[] (fun _ h => by simp at h) v (Array.mem_toList_iff.1 hv))
  generalize Conv.runesFrom s s.size 0 #[] = cs at *
  have hn : cs.size = rs.length := by rw [← Array.length_toList, hl, List.length_map]
  rw [hn] at hr hsz
  refine ⟨rs, _, _, hr, ((Below.refl _ _).drew).alloc (Nat.le_refl _) _, by rw [size_alloc]; exact Nat.lt_succ_self _, hsz, fun k hk => ?_, hb⟩
  have h1 := World.cell?_alloc_mark w.drew (cs ++ Array.replicate (grownCap w rs.length 0 21 - rs.length) (.int .i32 0)) 21 (0, 0) k
  refine h1.trans ?_
  rw [Array.getElem?_append_left (by omega), ← Array.getElem?_toList, hl]
  simp [List.getElem?_eq_getElem hk]

end Go.Proofs.YtgjlohplgpcghaaDoor.Grd
/- A grid in plain words: how many columns, its limit, its rows; what its calls make of them. -/
namespace Go.Proofs.YtgjlohplgpcghaaDoor.Grd
open Go.RowKit Cel Sty

/-- The grid at g, in the blocks F. -/
def GA (w : World) (g : Nat) (F : List Nat) (c lim : Nat) (past rows : List Ro) : Prop :=
  ∃ s pv fp G, GridAt w g s pv fp G ∧ F = foot g s fp G ∧ G.cols = c ∧ G.limit = lim ∧ G.past.map MR.pl = past ∧ G.scr.map MR.pl = rows
/-- As many new blank rows. -/
def blankR (c : Nat) (s : St) : Ro := (List.replicate c (32, 1, s), false)
def plainR (c : Nat) : Ro := (List.replicate c plainCe, false)
/-- A cell laid, if it may be, and has room. -/
def putP (c : Nat) (rs : List Ro) (x y : Int) (cc : Ce) : List Ro :=
  if (0 ≤ y ∧ y.toNat < rs.length) ∧ mayS cc.1 cc.2.1 cc.2.2.1 cc.2.2.2.1 cc.2.2.2.2 = true ∧ 0 ≤ x ∧ x + cc.2.1 ≤ (c : Int) then
    rs.set y.toNat (putL (rs.getD y.toNat ([], false)).1 x.toNat cc, (rs.getD y.toNat ([], false)).2) else rs
def wrapP (rs : List Ro) (k : Nat) (is : Bool) : List Ro := rs.set k ((rs.getD k ([], false)).1, is)
def upP (rs : List Ro) (top len q : Nat) (b : Ro) : List Ro := rs.take top ++ ((rs.drop (top + q)).take (len - q) ++ (List.replicate q b ++ rs.drop (top + len)))
def downP (rs : List Ro) (top len q : Nat) (b : Ro) : List Ro := rs.take top ++ (List.replicate q b ++ ((rs.drop top).take (len - q) ++ rs.drop (top + len)))
theorem map_getD {ms : List MR} {k : Nat} (h : k < ms.length) : (ms.map MR.pl).getD k ([], false) = (ms[k].l, ms[k].wr) := by simp [h, MR.pl]
theorem putG_pl (G : GS) (x y : Int) (cc : Ce) : (putG G x y cc).scr.map MR.pl = putP G.cols (G.scr.map MR.pl) x y cc := by
  unfold putG putP
  rw [List.length_map]
  split
  · rename_i h
    rw [map_getD h.1.2, List.map_set]
    rfl
  · rfl
theorem putG_same (G : GS) (x y : Int) (cc : Ce) : (putG G x y cc).cols = G.cols ∧ (putG G x y cc).limit = G.limit ∧ (putG G x y cc).past = G.past := by
  unfold putG
  split <;> exact ⟨rfl, rfl, rfl⟩
theorem scr_put (G : GS) (x y : Int) (cc : Ce) : (putG G x y cc).scr.map MR.b = G.scr.map MR.b := by
  unfold putG
  split
  · rename_i h
    exact set_b h.1.2 (m := { G.scr[y.toNat]'(h.1.2) with l := putL (G.scr[y.toNat]'(h.1.2)).l x.toNat cc }) rfl
  · rfl
theorem alike_pl {B c : Nat} {s : St} : ∀ {ms : List MR}, Alike B (List.replicate c (32, 1, s)) ms → ms.map MR.pl = List.replicate ms.length (blankR c s)
  | [], _ => rfl
  | m :: ms, h => by
    have h1 := h m (List.mem_cons_self ..)
    rw [List.map_cons, List.length_cons, List.replicate_succ, alike_pl (ms := ms) fun x hx => h x (List.mem_cons_of_mem _ hx)]
    congr 1
    unfold MR.pl blankR
    rw [h1.1, h1.2.1]
theorem foot_same {g s : Nat} {fp : List Nat} {G H : GS} (hp : H.past = G.past) (hs : H.scr.map MR.b = G.scr.map MR.b) : foot g s fp H = foot g s fp G := by
  unfold foot
  rw [hp, List.map_append, List.map_append, hs]
section
variable {w w' : World} {g : Nat} {F : List Nat} {c lim : Nat} {past rows : List Ro}
theorem GA.of {s : Nat} {pv : Value} {fp : List Nat} {G : GS} (h : GridAt w g s pv fp G) : GA w g (foot g s fp G) G.cols G.limit (G.past.map MR.pl) (G.scr.map MR.pl) := ⟨s, pv, fp, G, h, rfl, rfl, rfl, rfl, rfl⟩
theorem GA.only (h : GA w g F c lim past rows) {K : List Nat} (ho : Only K w w') (hF : ∀ x ∈ F, x ∉ K) : GA w' g F c lim past rows := by
  obtain ⟨s, pv, fp, G, h1, rfl, h2⟩ := h
  exact ⟨s, pv, fp, G, h1.only ho hF, rfl, h2⟩
theorem GA.below (h : GA w g F c lim past rows) (ho : Below w.heap.size w w') : GA w' g F c lim past rows := h.only (K := []) (Only.of_below ho) (fun _ _ h => by cases h)
theorem GA.mem (h : GA w g F c lim past rows) : g ∈ F := by
  obtain ⟨s, pv, fp, G, h1, rfl, h2⟩ := h
  simp [foot]
theorem GA.lt (h : GA w g F c lim past rows) : ∀ x ∈ F, x < w.heap.size := by
  obtain ⟨s, pv, fp, G, h1, rfl, h2⟩ := h
  intro x hx
  unfold foot at hx
  rcases List.mem_append.1 hx with hx | hx
  · simp only [List.mem_cons] at hx
    rcases hx with rfl | rfl | hx
    · exact h1.blk.lt
    · exact h1.scr.lt
    · exact h1.tab.lt x hx
  · obtain ⟨m, hm, rfl⟩ := List.mem_map.1 hx
    exact h1.held.lt hm
structure GBd (c lim : Nat) (past rows : List Ro) : Prop where
  c1 : 1 ≤ c
  c2 : c ≤ 250
  r1 : 1 ≤ rows.length
  r2 : rows.length ≤ 120
  l2 : lim ≤ 2000
  p2 : past.length ≤ lim
  cells : ∀ r ∈ past ++ rows, r.1.length = c
theorem GA.bd (h : GA w g F c lim past rows) : GBd c lim past rows := by
  obtain ⟨s, pv, fp, G, h1, rfl, rfl, rfl, rfl, rfl⟩ := h
  refine ⟨h1.c1, h1.c2, by rw [List.length_map]; exact h1.r1, by rw [List.length_map]; exact h1.r2, h1.l2, by rw [List.length_map]; exact h1.p2, fun r hr => ?_⟩
  rw [← List.map_append] at hr
  obtain ⟨m, hm, rfl⟩ := List.mem_map.1 hr
  exact h1.cells m hm
/-- What a call left: an answer, the grid, its frame. -/
def Left (w : World) (g : Nat) (F : List Nat) (c lim : Nat) (past rows : List Ro) (v : Value) (e : Ending) (w' : World) : Prop :=
  e = .returned v ∧ ∃ F', GA w' g F' c lim past rows ∧ Went F F' w w'
theorem new_ga (c r h : Nat) (hc1 : 1 ≤ c) (hc2 : c ≤ 250) (hr1 : 1 ≤ r) (hr2 : r ≤ 120) (hh : h ≤ 2000) (w : World) :
    Calls Tryd.prog 23 #[.int .i64 (c : Int), .int .i64 (r : Int), .int .i64 (h : Int)] w fun e w' => ∃ g F, e = .returned (.tuple #[.pointer (some ⟨g, 0, none⟩), .int .i64 0]) ∧
      GA w' g F c h [] (List.replicate r (plainR c)) ∧ (∀ x ∈ F, w.heap.size ≤ x) ∧ Below w.heap.size w w' := by
  refine (new_any c r h hc1 hc2 hr1 hr2 hh w).mono ?_
  rintro e w' ⟨g, s, ms, rfl, hG, hl, hA, hg, hs, hb⟩
  have hp : ms.map MR.pl = List.replicate r (plainR c) := by rw [alike_pl hA, hl]; rfl
  have := GA.of hG
  simp only [List.map_nil, hp] at this
  refine ⟨g, _, rfl, this, fun x hx => ?_, hb⟩
  unfold foot at hx
  simp only [List.nil_append, List.cons_append, List.mem_cons, List.mem_map] at hx
  rcases hx with rfl | rfl | ⟨m, hm, rfl⟩
  · exact hg
  · exact hs
  · exact (hA m hm).2.2
theorem put_ga {B : Nat} (h : GA w g F c lim past rows) (ht : Tabs B w) (hB : B ≤ w.heap.size) (x y : Int) (r wd s1 s2 s3 : Int) (hr0 : -2147483648 ≤ r) (hr1 : r ≤ 2147483647) (hx0 : 0 ≤ x) (hx1 : x ≤ 4611686018427387904) :
    Calls Tryd.prog 11 #[.pointer (some ⟨g, 0, none⟩), .int .i64 x, .int .i64 y, .agg #[.int .i32 r, .int .i64 wd, .int .i64 s1, .int .i64 s2, .int .i64 s3]] w (fun e w' => e = .returned (.tuple #[]) ∧ GA w' g F c lim past (putP c rows x y (r, wd, s1, s2, s3)) ∧ Only F w w') := by
  obtain ⟨s, pv, fp, G, h1, rfl, rfl, rfl, rfl, rfl⟩ := h
  refine (put_gen h1 ht hB x y r wd s1 s2 s3 hr0 hr1 hx0 hx1).mono ?_
  rintro e w' ⟨rfl, hG, ho⟩
  obtain ⟨e1, e2, e3⟩ := putG_same G x y (r, wd, s1, s2, s3)
  refine ⟨rfl, ⟨s, pv, fp, _, hG, (foot_same e3 (scr_put G x y _)).symm, e1, e2, by rw [e3], putG_pl G x y _⟩, ho.mono fun z hz => ?_⟩
  obtain ⟨m, hm, rfl⟩ := List.mem_map.1 hz
  exact List.mem_append_right _ (List.mem_map_of_mem (List.mem_append_right _ hm))
theorem wrap_ga (h : GA w g F c lim past rows) (k : Nat) (hk : k < rows.length) (is : Bool) :
    Calls Tryd.prog 17 #[.pointer (some ⟨g, 0, none⟩), .int .i64 (k : Int), .bool is] w (fun e w' => e = .returned (.tuple #[]) ∧ GA w' g F c lim past (wrapP rows k is) ∧ Only F w w') := by
  obtain ⟨s, pv, fp, G, h1, rfl, rfl, rfl, rfl, rfl⟩ := h
  rw [List.length_map] at hk
  refine (wrap_any h1 k hk is).mono ?_
  rintro e w' ⟨rfl, hG, ho⟩
  have hf : foot g s fp { G with scr := G.scr.set k { G.scr[k] with wr := is } } = foot g s fp G := foot_same rfl (set_b hk rfl)
  refine ⟨rfl, ⟨s, pv, fp, _, hG, hf.symm, rfl, rfl, rfl, ?_⟩, ho.mono fun z hz => by rw [List.mem_singleton] at hz; rw [hz]; simp [foot]⟩
  unfold wrapP
  rw [map_getD hk, List.map_set]
  rfl
theorem upL_pl {scr : List MR} {top len q : Nat} {ms : List MR} {cc : Nat} {s : St} {B : Nat} (hms : ms.length = q) (hA : Alike B (List.replicate cc (32, 1, s)) ms) : (upL scr top len q ms).map MR.pl = upP (scr.map MR.pl) top len q (blankR cc s) := by
  unfold upL upP
  simp only [List.map_append, List.map_take, List.map_drop, alike_pl hA, hms]
theorem downL_pl {scr : List MR} {top len q : Nat} {ms : List MR} {cc : Nat} {s : St} {B : Nat} (hms : ms.length = q) (hA : Alike B (List.replicate cc (32, 1, s)) ms) : (downL scr top len q ms).map MR.pl = downP (scr.map MR.pl) top len q (blankR cc s) := by
  unfold downL downP
  simp only [List.map_append, List.map_take, List.map_drop, alike_pl hA, hms]
theorem upL_mem {scr : List MR} {top len q : Nat} {ms : List MR} {m : MR} (h : m ∈ upL scr top len q ms) : m ∈ scr ∨ m ∈ ms := by
  unfold upL at h
  simp only [List.mem_append] at h
  rcases h with h | h | h | h
  · exact .inl (List.mem_of_mem_take h)
  · exact .inl (List.mem_of_mem_drop (List.mem_of_mem_take h))
  · exact .inr h
  · exact .inl (List.mem_of_mem_drop h)
theorem downL_mem {scr : List MR} {top len q : Nat} {ms : List MR} {m : MR} (h : m ∈ downL scr top len q ms) : m ∈ scr ∨ m ∈ ms := by
  unfold downL at h
  simp only [List.mem_append] at h
  rcases h with h | h | h | h
  · exact .inl (List.mem_of_mem_take h)
  · exact .inr h
  · exact .inl (List.mem_of_mem_drop (List.mem_of_mem_take h))
  · exact .inl (List.mem_of_mem_drop h)
/-- The blocks of a grid whose rows were its own, or are new. -/
theorem foot_new {g s : Nat} {fp fp' : List Nat} {G H : GS} {B : Nat} {ms : List MR} {l : List Ce} (hA : Alike B l ms) (hm : ∀ m ∈ H.past ++ H.scr, m ∈ G.past ++ G.scr ∨ m ∈ ms) (hfp : ∀ x ∈ fp', x ∈ fp ∨ B ≤ x) : ∀ x ∈ foot g s fp' H, x ∈ foot g s fp G ∨ B ≤ x := by
  intro x hx
  unfold foot at hx ⊢
  rcases List.mem_append.1 hx with hx | hx
  · simp only [List.mem_cons] at hx
    rcases hx with rfl | rfl | hx
    · exact .inl (by simp)
    · exact .inl (by simp)
    · exact (hfp x hx).imp (fun h => by simp [h]) id
  · obtain ⟨m, h1, rfl⟩ := List.mem_map.1 hx
    rcases hm m h1 with h2 | h2
    · exact .inl (List.mem_append_right _ (List.mem_map_of_mem h2))
    · exact .inr (hA m h2).2.2
theorem up_ga (h : GA w g F c lim past rows) (top bottom q : Nat) (htb : top ≤ bottom) (hbr : bottom < rows.length) (n : Int) (hn : 1 ≤ n) (hq : (q : Int) = min n ((bottom : Int) + 1 - (top : Int)))
    (s1 s2 s3 : Int) (hst : rightS s1 s2 s3 = true) (kp : Bool) (hkp : kp = false ∨ 0 < top) :
    Calls Tryd.prog 15 #[.pointer (some ⟨g, 0, none⟩), .int .i64 (top : Int), .int .i64 (bottom : Int), .int .i64 n, .agg #[.int .i64 s1, .int .i64 s2, .int .i64 s3], .bool kp] w
      (Left w g F c lim past (upP rows top (bottom + 1 - top) q (blankR c (s1, s2, s3))) (.tuple #[])) := by
  obtain ⟨s, pv, fp, G, h1, rfl, rfl, rfl, rfl, rfl⟩ := h
  rw [List.length_map] at hbr
  refine (up_plain h1 top bottom q htb hbr n hn hq s1 s2 s3 hst kp hkp).mono ?_
  rintro e w' ⟨rfl, ms, hms, hA, hG, ho⟩
  refine ⟨rfl, _, ⟨s, pv, fp, _, hG, rfl, rfl, rfl, rfl, upL_pl hms hA⟩, ⟨foot_new hA (fun m hm => ?_) (fun x hx => .inl hx), ho.mono fun z hz => by rw [List.mem_singleton] at hz; rw [hz]; simp [foot]⟩⟩
  rcases List.mem_append.1 hm with hm | hm
  · exact .inl (List.mem_append_left _ hm)
  · exact (upL_mem hm).imp (List.mem_append_right _) id
theorem keep_ga (h : GA w g F c lim past rows) (bottom q : Nat) (hbr : bottom < rows.length) (n : Int) (hn : 1 ≤ n) (hq : (q : Int) = min n ((bottom : Int) + 1))
    (s1 s2 s3 : Int) (hst : rightS s1 s2 s3 = true) :
    Calls Tryd.prog 15 #[.pointer (some ⟨g, 0, none⟩), .int .i64 0, .int .i64 (bottom : Int), .int .i64 n, .agg #[.int .i64 s1, .int .i64 s2, .int .i64 s3], .bool true] w
      (Left w g F c lim ((past ++ rows.take q).drop (past.length + q - lim)) (upP rows 0 (bottom + 1) q (blankR c (s1, s2, s3))) (.tuple #[])) := by
  obtain ⟨s, pv, fp, G, h1, rfl, rfl, rfl, rfl, rfl⟩ := h
  rw [List.length_map] at hbr
  refine (up_keep h1 bottom q hbr n hn hq s1 s2 s3 hst).mono ?_
  rintro e w' ⟨rfl, pv', fp', ms, hms, hA, hG, hfp, ho⟩
  refine ⟨rfl, _, ⟨s, pv', fp', _, hG, rfl, rfl, rfl, ?_, upL_pl hms hA⟩, ⟨foot_new hA (fun m hm => ?_) hfp, ho.mono fun z hz => ?_⟩⟩
  · simp only [List.map_drop, List.map_append, List.map_take, List.length_map]
  · rcases List.mem_append.1 hm with hm | hm
    · rcases List.mem_append.1 (List.mem_of_mem_drop hm) with hm | hm
      · exact .inl (List.mem_append_left _ hm)
      · exact .inl (List.mem_append_right _ (List.mem_of_mem_take hm))
    · exact (upL_mem hm).imp (List.mem_append_right _) id
  · exact List.mem_append_left _ hz
theorem down_ga (h : GA w g F c lim past rows) (top bottom q : Nat) (htb : top ≤ bottom) (hbr : bottom < rows.length) (n : Int) (hn : 1 ≤ n) (hq : (q : Int) = min n ((bottom : Int) + 1 - (top : Int)))
    (s1 s2 s3 : Int) (hst : rightS s1 s2 s3 = true) :
    Calls Tryd.prog 16 #[.pointer (some ⟨g, 0, none⟩), .int .i64 (top : Int), .int .i64 (bottom : Int), .int .i64 n, .agg #[.int .i64 s1, .int .i64 s2, .int .i64 s3]] w
      (Left w g F c lim past (downP rows top (bottom + 1 - top) q (blankR c (s1, s2, s3))) (.tuple #[])) := by
  obtain ⟨s, pv, fp, G, h1, rfl, rfl, rfl, rfl, rfl⟩ := h
  rw [List.length_map] at hbr
  refine (down_any h1 top bottom q htb hbr n hn hq s1 s2 s3 hst).mono ?_
  rintro e w' ⟨rfl, ms, hms, hA, hG, ho⟩
  refine ⟨rfl, _, ⟨s, pv, fp, _, hG, rfl, rfl, rfl, rfl, downL_pl hms hA⟩, ⟨foot_new hA (fun m hm => ?_) (fun x hx => .inl hx), ho.mono fun z hz => by rw [List.mem_singleton] at hz; rw [hz]; simp [foot]⟩⟩
  rcases List.mem_append.1 hm with hm | hm
  · exact .inl (List.mem_append_left _ hm)
  · exact (downL_mem hm).imp (List.mem_append_right _) id
theorem clone_ga (h : GA w g F c lim past rows) :
    Calls Tryd.prog 29 #[.pointer (some ⟨g, 0, none⟩)] w fun e w' => ∃ g2 F2, e = .returned (.pointer (some ⟨g2, 0, none⟩)) ∧ GA w' g2 F2 c lim past rows ∧ (∀ x ∈ F2, w.heap.size ≤ x) ∧ Below w.heap.size w w' := by
  obtain ⟨s, pv, fp, G, h1, rfl, rfl, rfl, rfl, rfl⟩ := h
  refine (clone_grid h1).mono ?_
  rintro e w' ⟨g2, s2, p2, np, ns, rfl, hG, hp, hs, hF, hb⟩
  exact ⟨g2, _, rfl, ⟨s2, _, _, _, hG, rfl, rfl, rfl, hp, hs⟩, hF, hb⟩
/-! ### What is asked of it -/
theorem rows_ga (h : GA w g F c lim past rows) : Calls Tryd.prog 22 #[.pointer (some ⟨g, 0, none⟩)] w fun e w' => e = .returned (.int .i64 (rows.length : Int)) ∧ w = w' := by
  obtain ⟨s, pv, fp, G, h1, rfl, rfl, rfl, rfl, rfl⟩ := h
  rw [List.length_map]
  exact rows_any h1
theorem cols_ga (h : GA w g F c lim past rows) : Calls Tryd.prog 21 #[.pointer (some ⟨g, 0, none⟩)] w fun e w' => e = .returned (.int .i64 (c : Int)) ∧ w = w' := by
  obtain ⟨s, pv, fp, G, h1, rfl, rfl, rfl, rfl, rfl⟩ := h
  exact cols_any h1
theorem limit_ga (h : GA w g F c lim past rows) : Calls Tryd.prog 9 #[.pointer (some ⟨g, 0, none⟩)] w fun e w' => e = .returned (.int .i64 (lim : Int)) ∧ w = w' := by
  obtain ⟨s, pv, fp, G, h1, rfl, rfl, rfl, rfl, rfl⟩ := h
  exact limit_any h1
theorem history_ga (h : GA w g F c lim past rows) : Calls Tryd.prog 20 #[.pointer (some ⟨g, 0, none⟩)] w fun e w' => e = .returned (.int .i64 (past.length : Int)) ∧ w = w' := by
  obtain ⟨s, pv, fp, G, h1, rfl, rfl, rfl, rfl, rfl⟩ := h
  rw [List.length_map]
  exact history_any h1
/-- A row that there is: which one, and that it can be asked for in each world that has the grid. -/
def RowOf (w : World) (g : Nat) (y : Int) (r : Ro) : Prop := ∃ m : MR, m.l = r.1 ∧ m.wr = r.2 ∧ CellsAt w m.b m.l m.cap ∧ 0 < m.l.length ∧ m.l.length ≤ 250 ∧ ∀ w', Below w.heap.size w w' → RowIs w' g y m
theorem GA.scr_row (h : GA w g F c lim past rows) (k : Nat) (hk : k < rows.length) : RowOf w g (k : Int) rows[k] := by
  obtain ⟨s, pv, fp, G, h1, rfl, rfl, rfl, rfl, rfl⟩ := h
  rw [List.length_map] at hk
  have hm : G.scr[k] ∈ G.past ++ G.scr := List.mem_append_right _ (List.getElem_mem hk)
  have hl := h1.cells _ hm
  refine ⟨G.scr[k], by simp [MR.pl], by simp [MR.pl], h1.held.at_ _ hm, by rw [hl]; exact h1.c1, by rw [hl]; exact h1.c2, fun w' hb => row_scr (h1.below hb) k hk⟩
theorem GA.past_row (h : GA w g F c lim past rows) (k : Nat) (hk : k < past.length) : RowOf w g ((k : Int) - (past.length : Int)) past[k] := by
  obtain ⟨s, pv, fp, G, h1, rfl, rfl, rfl, rfl, rfl⟩ := h
  rw [List.length_map] at hk ⊢
  have hm : G.past[k] ∈ G.past ++ G.scr := List.mem_append_left _ (List.getElem_mem hk)
  have hl := h1.cells _ hm
  refine ⟨G.past[k], by simp [MR.pl], by simp [MR.pl], h1.held.at_ _ hm, by rw [hl]; exact h1.c1, by rw [hl]; exact h1.c2, fun w' hb => row_past (h1.below hb) k hk⟩
theorem line_ga {y : Int} {r : Ro} (h : RowOf w g y r) :
    Calls Tryd.prog 31 #[.pointer (some ⟨g, 0, none⟩), .int .i64 y] w fun e w' => ∃ b cap, e = .returned (.slice (some ⟨b, 0, none⟩) r.1.length cap) ∧ CellsAt w' b r.1 cap ∧ w.heap.size ≤ b ∧ Below w.heap.size w w' := by
  obtain ⟨m, h1, h2, h3, h4, h5, h6⟩ := h
  rw [← h1]
  exact line_of (h6 w (Below.refl _ _)) h3 h4 (by omega)
theorem wrapped_ga {y : Int} {r : Ro} (h : RowOf w g y r) :
    Calls Tryd.prog 34 #[.pointer (some ⟨g, 0, none⟩), .int .i64 y] w fun e w' => e = .returned (.bool r.2) ∧ Below w.heap.size w w' := by
  obtain ⟨m, h1, h2, h3, h4, h5, h6⟩ := h
  rw [← h2]
  exact wrapped_of (h6 w (Below.refl _ _))
theorem cell_ga {y : Int} {r : Ro} (h : RowOf w g y r) (x : Nat) (hx : x < r.1.length) :
    Calls Tryd.prog 27 #[.pointer (some ⟨g, 0, none⟩), .int .i64 (x : Int), .int .i64 y] w fun e w' => e = .returned (.agg #[.int .i32 r.1[x].1, .int .i64 r.1[x].2.1, .int .i64 r.1[x].2.2.1, .int .i64 r.1[x].2.2.2.1, .int .i64 r.1[x].2.2.2.2]) ∧ Below w.heap.size w w' := by
  obtain ⟨m, h1, h2, h3, h4, h5, h6⟩ := h
  simp only [← h1] at hx ⊢
  exact cell_of h6 h3 x hx
theorem text_ga {y : Int} {r : Ro} (h : RowOf w g y r) (ha : ∀ c ∈ r.1, c.2.1 ≠ 0 → 0 ≤ c.1 ∧ c.1 < 128) :
    Calls Tryd.prog 33 #[.pointer (some ⟨g, 0, none⟩), .int .i64 y] w fun e w' => e = .returned (.string ⟨(Lib.trimRightB (lettersL r.1) 32).toArray⟩) ∧ Below w.heap.size w w' := by
  obtain ⟨m, h1, h2, h3, h4, h5, h6⟩ := h
  rw [← h1] at ha ⊢
  exact text_of h6 h3 (by omega) ha
/-! ### Laid anew -/
theorem resize_ga (h : GA w g F c lim past rows) (cols n : Nat) (X Y : Int) (hc1 : 1 ≤ cols) (hc2 : cols ≤ 250) (hr1 : 1 ≤ n) (hr2 : n ≤ 120) (hsz : (past.length + rows.length) * c ≤ 400000) :
    Calls Tryd.prog 18 #[.pointer (some ⟨g, 0, none⟩), .int .i64 (cols : Int), .int .i64 (n : Int), .agg #[.int .i64 X, .int .i64 Y], .bool true] w fun e w' =>
      ∃ P, P = flowOf (past ++ rows) ((past.length : Int) + (clampZ Y rows.length : Int)) (clampZ X c : Int) cols ∧ Left w g F cols lim ((P.rows.take (firstOf P n)).drop (firstOf P n - lim)) (filledR (P.rows.drop (firstOf P n)) cols n) (.tuple #[.agg #[.int .i64 P.px, .int .i64 (P.py - (firstOf P n : Int))], .int .i64 0]) e w' := by
  obtain ⟨s, pv, fp, G, h1, rfl, rfl, rfl, rfl, rfl⟩ := h
  rw [List.length_map, List.length_map] at hsz ⊢
  refine (resize_flow h1 cols n X Y hc1 hc2 hr1 hr2 hsz).mono ?_
  rintro e w' ⟨v, rfl, P, s', pv', fp', past', scr', hP, hv, hG, hp, hs, hF, ho⟩
  injection hv with hv
  subst hv
  rw [List.map_append] at hP
  refine ⟨P, hP, rfl, _, ⟨s', pv', fp', _, hG, rfl, rfl, rfl, hp, hs⟩, fun z hz => (hF z hz).imp (fun e => by rw [e]; simp [foot]) id, ho.mono fun z hz => by rw [List.mem_singleton] at hz; rw [hz]; simp [foot]⟩
end
end Go.Proofs.YtgjlohplgpcghaaDoor.Grd
