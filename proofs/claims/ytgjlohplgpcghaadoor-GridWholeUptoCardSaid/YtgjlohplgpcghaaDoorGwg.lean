/- A grid whose wide cells are whole, and what keeps it so. -/
import Derived.Test.YtgjlohplgpcghaaDoorGwo
import Derived.Test.YtgjlohplgpcghaaDoorGnu
import Derived.Test.YtgjlohplgpcghaaDoorGrc
namespace Go.Proofs.YtgjlohplgpcghaaDoor.Grd
open Go.RowKit Cel Sty

/-- What stays: all that was there, and the law's own block. -/
def Fr2 (w0 : World) (bb g : Nat) (w : World) : Prop := Below w0.heap.size w0 w ∧ BL w bb 30 [.pointer (some ⟨g, 0, none⟩), .pointer none]
/-- A grid that keeps wide cells whole, of blocks of the call's own. -/
def WG (w0 : World) (g lim bb : Nat) (w : World) : Prop := ∃ F c past rows, GA w g F c lim past rows ∧ AllW c (past ++ rows) ∧ c ≤ 30 ∧ (∀ x ∈ F, w0.heap.size ≤ x ∧ x ≠ bb) ∧ Fr2 w0 bb g w
section
variable {w0 w w' : World} {g lim bb c c' : Nat} {F F' : List Nat} {past past' rows rows' : List Ro}
theorem Fr2.only (hb : Fr2 w0 bb g w) (hF : ∀ x ∈ F, w0.heap.size ≤ x ∧ x ≠ bb) (ho : Only F w w') : Fr2 w0 bb g w' :=
  ⟨hb.1.trans (ho.below hb.1.size fun x hx => (hF x hx).1), hb.2.only ho fun hx => (hF bb hx).2 rfl⟩
theorem WG.went (hF : ∀ x ∈ F, w0.heap.size ≤ x ∧ x ≠ bb) (hb : Fr2 w0 bb g w) (hG : GA w' g F' c' lim past' rows') (hW : Went F F' w w') (hA : AllW c' (past' ++ rows')) (hc : c' ≤ 30) : WG w0 g lim bb w' := by
  have hs := hb.1.size
  have hl := hb.2.lt
  refine ⟨F', c', past', rows', hG, hA, hc, fun x hx => ?_, hb.only hF hW.only⟩
  rcases hW.foot x hx with h | h
  · exact hF x h
  · exact ⟨by omega, by omega⟩
theorem WG.same (hF : ∀ x ∈ F, w0.heap.size ≤ x ∧ x ≠ bb) (hb : Fr2 w0 bb g w) (hG : GA w' g F c' lim past' rows') (ho : Only F w w') (hA : AllW c' (past' ++ rows')) (hc : c' ≤ 30) : WG w0 g lim bb w' := ⟨F, c', past', rows', hG, hA, hc, hF, hb.only hF ho⟩
theorem WG.below (h : WG w0 g lim bb w) (hb : Below w.heap.size w w') : WG w0 g lim bb w' := by
  obtain ⟨F, c, past, rows, h1, h2, h3, h4, h5⟩ := h
  exact ⟨F, c, past, rows, h1.below hb, h2, h3, h4, h5.only h4 (Only.of_below hb)⟩
theorem AllW.mem {a b : List Ro} (h : AllW c a) (hs : ∀ r ∈ b, r ∈ a) : AllW c b := fun r hr => h r (hs r hr)
theorem AllW.left {a b : List Ro} (h : AllW c (a ++ b)) : AllW c a := h.mem fun _ hr => List.mem_append_left _ hr
theorem AllW.right {a b : List Ro} (h : AllW c (a ++ b)) : AllW c b := h.mem fun _ hr => List.mem_append_right _ hr
theorem AllW.app {a b : List Ro} (ha : AllW c a) (hb : AllW c b) : AllW c (a ++ b) := fun r hr => (List.mem_append.1 hr).elim (ha r) (hb r)
theorem AllW.set {a : List Ro} (h : AllW c a) (k : Nat) {r : Ro} (h1 : Whole r.1) (h2 : r.1.length = c) : AllW c (a.set k r) := fun x hx => by
  rcases List.mem_or_eq_of_mem_set hx with hx | rfl
  · exact h x hx
  · exact ⟨h1, h2⟩
theorem AllW.blanks (n : Nat) (s : St) : AllW c (List.replicate n (blankR c s)) := fun r hr => by
  rw [List.eq_of_mem_replicate hr]
  exact ⟨.blanks c s, List.length_replicate⟩
theorem putP_allW (h : AllW c rows) (x y : Int) (cc : Ce) : AllW c (putP c rows x y cc) := by
  unfold putP
  split
  · rename_i hc
    obtain ⟨⟨h1, h2⟩, h3, h4, h5⟩ := hc
    have hg : rows.getD y.toNat ([], false) = rows[y.toNat] := by simp [h2]
    obtain ⟨k1, k2⟩ := h rows[y.toNat] (List.getElem_mem h2)
    rw [hg]
    exact h.set _ (putL_whole k1 (may_width h3) (by rw [k2, Int.toNat_of_nonneg h4]; exact h5)) ((putL_len _ _ _).trans k2)
  · exact h
theorem wrapP_allW (h : AllW c rows) {k : Nat} (hk : k < rows.length) (is : Bool) : AllW c (wrapP rows k is) := by
  unfold wrapP
  have hg : rows.getD k ([], false) = rows[k] := by simp [hk]
  obtain ⟨k1, k2⟩ := h rows[k] (List.getElem_mem hk)
  rw [hg]
  exact h.set _ k1 k2
theorem upP_allW (h : AllW c rows) (top len q : Nat) (s : St) : AllW c (upP rows top len q (blankR c s)) :=
  (h.mem fun _ hr => List.mem_of_mem_take hr).app ((h.mem fun _ hr => List.mem_of_mem_drop (List.mem_of_mem_take hr)).app ((AllW.blanks q s).app (h.mem fun _ hr => List.mem_of_mem_drop hr)))
theorem downP_allW (h : AllW c rows) (top len q : Nat) (s : St) : AllW c (downP rows top len q (blankR c s)) :=
  (h.mem fun _ hr => List.mem_of_mem_take hr).app ((AllW.blanks q s).app ((h.mem fun _ hr => List.mem_of_mem_drop (List.mem_of_mem_take hr)).app (h.mem fun _ hr => List.mem_of_mem_drop hr)))
theorem cropP_allW {cols : Nat} (h : AllW c rows) : AllW cols (cropP c cols rows) := by
  unfold cropP
  split
  · rename_i e; rw [e]; exact h
  · intro r hr
    obtain ⟨q, hq, rfl⟩ := List.mem_map.1 hr
    exact ⟨cropL_whole (h q hq).1 cols, cropL_len _ _⟩
end
/-- A row with blanks put between, as the program does it. -/
theorem ins_is (l : List Ce) (c x q : Nat) (s : St) (hl : l.length = c) (hq : x + q ≤ c) : fillR ((cutL (cutL l x) (c - q)).take (x + q) ++ ((cutL (cutL l x) (c - q)).drop x).take (c - (x + q))) x q s = insL l x q s := by
  unfold insL
  rw [hl]
  have hL : (cutL (cutL l x) (c - q)).length = c := by rw [cutL_len, cutL_len, hl]
  generalize cutL (cutL l x) (c - q) = L at *
  have e1 : (L.take (x + q)).length = x + q := by rw [List.length_take]; omega
  unfold fillR
  rw [List.take_append_of_le_length (by omega), List.take_take, Nat.min_eq_left (by omega), List.drop_left' e1, List.drop_take, show c - q - x = c - (x + q) by omega]
/-- A row with cells taken out, as the program does it. -/
theorem del_is (l : List Ce) (c x q : Nat) (s : St) (hl : l.length = c) (hq : x + q ≤ c) : fillR ((cutL (cutL l x) (x + q)).take x ++ (cutL (cutL l x) (x + q)).drop (x + q) ++ (cutL (cutL l x) (x + q)).drop (c - q)) (c - q) q s = delL l x q s := by
  unfold delL
  have hL : (cutL (cutL l x) (x + q)).length = c := by rw [cutL_len, cutL_len, hl]
  generalize cutL (cutL l x) (x + q) = L at *
  have e1 : (L.take x ++ L.drop (x + q)).length = c - q := by rw [List.length_append, List.length_take, List.length_drop]; omega
  unfold fillR
  have e2 : (L.take x ++ L.drop (x + q) ++ L.drop (c - q)).drop (c - q + q) = [] := List.drop_of_length_le (by rw [List.length_append, e1, List.length_drop]; omega)
  rw [List.take_left' e1, e2, List.append_nil]
theorem eraseL_len {l : List Ce} {x q : Nat} (s : St) (hq : x + q ≤ l.length) : (eraseL l x q s).length = l.length := by
  unfold eraseL
  rw [fillR_len (by rw [cutL_len, cutL_len]; omega), cutL_len, cutL_len]
theorem insL_len {l : List Ce} {x q : Nat} (s : St) (hq : x + q ≤ l.length) : (insL l x q s).length = l.length := by
  unfold insL
  simp only [List.length_append, List.length_take, List.length_drop, List.length_replicate, cutL_len]
  omega
theorem delL_len {l : List Ce} {x q : Nat} (s : St) (hq : x + q ≤ l.length) : (delL l x q s).length = l.length := by
  unfold delL
  simp only [List.length_append, List.length_take, List.length_drop, List.length_replicate, cutL_len]
  omega
/-- A row set anew. -/
theorem GA.row_set {w' : World} {g s k : Nat} {pv : Value} {fp : List Nat} {G : GS} (hk : k < G.scr.length) {l : List Ce} (hG : GridAt w' g s pv fp { G with scr := G.scr.set k { G.scr[k] with l := l } }) :
    GA w' g (foot g s fp G) G.cols G.limit (G.past.map MR.pl) ((G.scr.map MR.pl).set k (l, G.scr[k].wr)) := by
  have hf : foot g s fp { G with scr := G.scr.set k { G.scr[k] with l := l } } = foot g s fp G := foot_same rfl (set_b hk rfl)
  exact ⟨s, pv, fp, _, hG, hf.symm, rfl, rfl, rfl, by rw [List.map_set]; rfl⟩
theorem mayR_true {cols rows : Nat} {x y n s1 s2 s3 : Int} (h : mayR cols rows x y n s1 s2 s3 = true) : ∃ k i : Nat, y = (k : Int) ∧ k < rows ∧ x = (i : Int) ∧ i < cols ∧ 1 ≤ n ∧ rightS s1 s2 s3 = true := by
  unfold mayR at h
  simp only [Bool.and_eq_true, decide_eq_true_eq] at h
  obtain ⟨⟨h1, h2⟩, ⟨h3, h4⟩, h5, h6⟩ := h
  exact ⟨y.toNat, x.toNat, by omega, by omega, by omega, by omega, h5, h6⟩
theorem erase_wg {w0 w : World} {g lim bb : Nat} (h : WG w0 g lim bb w) (x y n s1 s2 s3 : Int) :
    Calls Tryd.prog 12 #[.pointer (some ⟨g, 0, none⟩), .int .i64 x, .int .i64 y, .int .i64 n, .agg #[.int .i64 s1, .int .i64 s2, .int .i64 s3]] w fun e w' => e = .returned (.tuple #[]) ∧ WG w0 g lim bb w' := by
  have hw := h
  obtain ⟨F, c, past, rows, hG, hA, hc, hF, hb⟩ := h
  obtain ⟨s, pv, fp, G, h1, rfl, rfl, rfl, rfl, rfl⟩ := hG
  cases hm : mayR G.cols G.scr.length x y n s1 s2 s3 with
  | false =>
    refine (erase_no h1 x y n s1 s2 s3 hm).mono ?_
    rintro e w' ⟨he, hb'⟩
    exact ⟨he, hw.below hb'⟩
  | true =>
    obtain ⟨k, i, rfl, hk, rfl, hi, hn, hst⟩ := mayR_true hm
    obtain ⟨q, hq⟩ : ∃ q : Nat, (q : Int) = min n ((G.cols : Int) - (i : Int)) := ⟨(min n ((G.cols : Int) - (i : Int))).toNat, by omega⟩
    have hqc : i + q ≤ G.cols := by omega
    refine (erase_any h1 i k q hk hi n s1 s2 s3 hn hq hst).mono ?_
    rintro e w' ⟨he, hG2, ho⟩
    have hcl := h1.cells _ (List.mem_append_right _ (List.getElem_mem hk))
    have hwl : Whole G.scr[k].l := (hA _ (List.mem_append_right _ (List.mem_map_of_mem (List.getElem_mem hk)))).1
    refine ⟨he, WG.same hF hb (GA.row_set hk hG2) (ho.mono fun z hz => ?_) (hA.left.app (hA.right.set k ?_ ?_)) hc⟩
    · rw [List.mem_singleton] at hz
      rw [hz]
      exact List.mem_append_right _ (List.mem_map_of_mem (List.mem_append_right _ (List.getElem_mem hk)))
    · exact eraseL_whole hwl _ _ _
    · exact (eraseL_len (x := i) (q := q) (s1, s2, s3) (l := G.scr[k].l) (by rw [hcl]; exact hqc)).trans hcl
theorem insert_wg {w0 w : World} {g lim bb : Nat} (h : WG w0 g lim bb w) (x y n s1 s2 s3 : Int) :
    Calls Tryd.prog 13 #[.pointer (some ⟨g, 0, none⟩), .int .i64 x, .int .i64 y, .int .i64 n, .agg #[.int .i64 s1, .int .i64 s2, .int .i64 s3]] w fun e w' => e = .returned (.tuple #[]) ∧ WG w0 g lim bb w' := by
  have hw := h
  obtain ⟨F, c, past, rows, hG, hA, hc, hF, hb⟩ := h
  obtain ⟨s, pv, fp, G, h1, rfl, rfl, rfl, rfl, rfl⟩ := hG
  cases hm : mayR G.cols G.scr.length x y n s1 s2 s3 with
  | false =>
    refine (insert_no h1 x y n s1 s2 s3 hm).mono ?_
    rintro e w' ⟨he, hb'⟩
    exact ⟨he, hw.below hb'⟩
  | true =>
    obtain ⟨k, i, rfl, hk, rfl, hi, hn, hst⟩ := mayR_true hm
    obtain ⟨q, hq⟩ : ∃ q : Nat, (q : Int) = min n ((G.cols : Int) - (i : Int)) := ⟨(min n ((G.cols : Int) - (i : Int))).toNat, by omega⟩
    have hqc : i + q ≤ G.cols := by omega
    refine (insert_any h1 i k q hk hi n s1 s2 s3 hn hq hst).mono ?_
    rintro e w' ⟨he, hG2, ho⟩
    have hcl := h1.cells _ (List.mem_append_right _ (List.getElem_mem hk))
    have hwl : Whole G.scr[k].l := (hA _ (List.mem_append_right _ (List.mem_map_of_mem (List.getElem_mem hk)))).1
    rw [ins_is _ _ _ _ _ hcl hqc] at hG2
    refine ⟨he, WG.same hF hb (GA.row_set hk hG2) (ho.mono fun z hz => ?_) (hA.left.app (hA.right.set k ?_ ?_)) hc⟩
    · rw [List.mem_singleton] at hz
      rw [hz]
      exact List.mem_append_right _ (List.mem_map_of_mem (List.mem_append_right _ (List.getElem_mem hk)))
    · exact insL_whole hwl _ (by rw [hcl]; exact hqc)
    · exact (insL_len (x := i) (q := q) (s1, s2, s3) (l := G.scr[k].l) (by rw [hcl]; exact hqc)).trans hcl
theorem delete_wg {w0 w : World} {g lim bb : Nat} (h : WG w0 g lim bb w) (x y n s1 s2 s3 : Int) :
    Calls Tryd.prog 14 #[.pointer (some ⟨g, 0, none⟩), .int .i64 x, .int .i64 y, .int .i64 n, .agg #[.int .i64 s1, .int .i64 s2, .int .i64 s3]] w fun e w' => e = .returned (.tuple #[]) ∧ WG w0 g lim bb w' := by
  have hw := h
  obtain ⟨F, c, past, rows, hG, hA, hc, hF, hb⟩ := h
  obtain ⟨s, pv, fp, G, h1, rfl, rfl, rfl, rfl, rfl⟩ := hG
  cases hm : mayR G.cols G.scr.length x y n s1 s2 s3 with
  | false =>
    refine (delete_no h1 x y n s1 s2 s3 hm).mono ?_
    rintro e w' ⟨he, hb'⟩
    exact ⟨he, hw.below hb'⟩
  | true =>
    obtain ⟨k, i, rfl, hk, rfl, hi, hn, hst⟩ := mayR_true hm
    obtain ⟨q, hq⟩ : ∃ q : Nat, (q : Int) = min n ((G.cols : Int) - (i : Int)) := ⟨(min n ((G.cols : Int) - (i : Int))).toNat, by omega⟩
    have hqc : i + q ≤ G.cols := by omega
    refine (delete_any h1 i k q hk hi n s1 s2 s3 hn hq hst).mono ?_
    rintro e w' ⟨he, hG2, ho⟩
    have hcl := h1.cells _ (List.mem_append_right _ (List.getElem_mem hk))
    have hwl : Whole G.scr[k].l := (hA _ (List.mem_append_right _ (List.mem_map_of_mem (List.getElem_mem hk)))).1
    rw [del_is _ _ _ _ _ hcl hqc] at hG2
    refine ⟨he, WG.same hF hb (GA.row_set hk hG2) (ho.mono fun z hz => ?_) (hA.left.app (hA.right.set k ?_ ?_)) hc⟩
    · rw [List.mem_singleton] at hz
      rw [hz]
      exact List.mem_append_right _ (List.mem_map_of_mem (List.mem_append_right _ (List.getElem_mem hk)))
    · exact delL_whole hwl _ _ _
    · exact (delL_len (x := i) (q := q) (s1, s2, s3) (l := G.scr[k].l) (by rw [hcl]; exact hqc)).trans hcl
theorem wrap_wg {w0 w : World} {g lim bb : Nat} (h : WG w0 g lim bb w) (y : Int) (is : Bool) :
    Calls Tryd.prog 17 #[.pointer (some ⟨g, 0, none⟩), .int .i64 y, .bool is] w fun e w' => e = .returned (.tuple #[]) ∧ WG w0 g lim bb w' := by
  have hw := h
  obtain ⟨F, c, past, rows, hG, hA, hc, hF, hb⟩ := h
  by_cases hy : 0 ≤ y ∧ y.toNat < rows.length
  · obtain ⟨k, rfl⟩ : ∃ k : Nat, y = (k : Int) := ⟨y.toNat, by omega⟩
    have hk : k < rows.length := by have := hy.2; simpa using this
    refine (wrap_ga hG k hk is).mono ?_
    rintro e w' ⟨he, hG2, ho⟩
    exact ⟨he, WG.same hF hb hG2 ho (hA.left.app (wrapP_allW hA.right hk is)) hc⟩
  · obtain ⟨s, pv, fp, G, h1, rfl, rfl, rfl, rfl, rfl⟩ := hG
    rw [List.length_map] at hy
    refine (wrap_no h1 y is (by simp; omega)).mono ?_
    rintro e w' ⟨he, rfl⟩
    exact ⟨he, hw⟩
theorem mayU_true {rows : Nat} {top bottom n s1 s2 s3 : Int} (h : mayU rows top bottom n s1 s2 s3 = true) : ∃ t b : Nat, top = (t : Int) ∧ bottom = (b : Int) ∧ t ≤ b ∧ b < rows ∧ 1 ≤ n ∧ rightS s1 s2 s3 = true := by
  unfold mayU at h
  simp only [Bool.and_eq_true, decide_eq_true_eq] at h
  obtain ⟨⟨h1, h2, h3⟩, h5, h6⟩ := h
  exact ⟨top.toNat, bottom.toNat, by omega, by omega, by omega, by omega, h5, h6⟩
theorem down_wg {w0 w : World} {g lim bb : Nat} (h : WG w0 g lim bb w) (top bottom n s1 s2 s3 : Int) :
    Calls Tryd.prog 16 #[.pointer (some ⟨g, 0, none⟩), .int .i64 top, .int .i64 bottom, .int .i64 n, .agg #[.int .i64 s1, .int .i64 s2, .int .i64 s3]] w fun e w' => e = .returned (.tuple #[]) ∧ WG w0 g lim bb w' := by
  have hw := h
  obtain ⟨F, c, past, rows, hG, hA, hc, hF, hb⟩ := h
  cases hm : mayU rows.length top bottom n s1 s2 s3 with
  | false =>
    obtain ⟨s, pv, fp, G, h1, rfl, rfl, rfl, rfl, rfl⟩ := hG
    rw [List.length_map] at hm
    refine (down_no h1 top bottom n s1 s2 s3 hm).mono ?_
    rintro e w' ⟨he, hb'⟩
    exact ⟨he, hw.below hb'⟩
  | true =>
    obtain ⟨t, b, rfl, rfl, htb, hbr, hn, hst⟩ := mayU_true hm
    obtain ⟨q, hq⟩ : ∃ q : Nat, (q : Int) = min n ((b : Int) + 1 - (t : Int)) := ⟨(min n ((b : Int) + 1 - (t : Int))).toNat, by omega⟩
    refine (down_ga hG t b q htb hbr n hn hq s1 s2 s3 hst).mono ?_
    rintro e w' ⟨he, F', hG2, hW⟩
    exact ⟨he, WG.went hF hb hG2 hW (hA.left.app (downP_allW hA.right _ _ _ _)) hc⟩
theorem up_wg {w0 w : World} {g lim bb : Nat} (h : WG w0 g lim bb w) (top bottom n s1 s2 s3 : Int) (kp : Bool) :
    Calls Tryd.prog 15 #[.pointer (some ⟨g, 0, none⟩), .int .i64 top, .int .i64 bottom, .int .i64 n, .agg #[.int .i64 s1, .int .i64 s2, .int .i64 s3], .bool kp] w fun e w' => e = .returned (.tuple #[]) ∧ WG w0 g lim bb w' := by
  obtain ⟨F, c, past, rows, hG, hA, hc, hF, hb⟩ := h
  cases hm : mayU rows.length top bottom n s1 s2 s3 with
  | false =>
    obtain ⟨s, pv, fp, G, h1, rfl, rfl, rfl, rfl, rfl⟩ := hG
    rw [List.length_map] at hm
    refine (up_no h1 top bottom n s1 s2 s3 kp hm).mono ?_
    rintro e w' ⟨he, hG2, ho⟩
    exact ⟨he, WG.same hF hb (GA.of hG2) (ho.mono fun z hz => by rw [List.mem_singleton] at hz; rw [hz]; simp [foot]) hA hc⟩
  | true =>
    obtain ⟨t, b, rfl, rfl, htb, hbr, hn, hst⟩ := mayU_true hm
    by_cases hk : kp = false ∨ 0 < t
    · obtain ⟨q, hq⟩ : ∃ q : Nat, (q : Int) = min n ((b : Int) + 1 - (t : Int)) := ⟨(min n ((b : Int) + 1 - (t : Int))).toNat, by omega⟩
      refine (up_ga hG t b q htb hbr n hn hq s1 s2 s3 hst kp hk).mono ?_
      rintro e w' ⟨he, F', hG2, hW⟩
      exact ⟨he, WG.went hF hb hG2 hW (hA.left.app (upP_allW hA.right _ _ _ _)) hc⟩
    · obtain rfl : kp = true := by
        cases kp
        · exact absurd (.inl rfl) hk
        · rfl
      obtain rfl : t = 0 := by omega
      obtain ⟨q, hq⟩ : ∃ q : Nat, (q : Int) = min n ((b : Int) + 1) := ⟨(min n ((b : Int) + 1)).toNat, by omega⟩
      refine (keep_ga hG b q hbr n hn hq s1 s2 s3 hst).mono ?_
      rintro e w' ⟨he, F', hG2, hW⟩
      exact ⟨he, WG.went hF hb hG2 hW (AllW.app ((hA.left.app (hA.right.mem fun _ hr => List.mem_of_mem_take hr)).mem fun _ hr => List.mem_of_mem_drop hr) (upP_allW hA.right _ _ _ _)) hc⟩
theorem put_wg {B : Nat} {w0 w : World} {g lim bb : Nat} (h : WG w0 g lim bb w) (ht : Tabs B w0) (hB : B ≤ w0.heap.size) (x y : Int) (r wd s1 s2 s3 : Int) (hr0 : -2147483648 ≤ r) (hr1 : r ≤ 2147483647) :
    Calls Tryd.prog 11 #[.pointer (some ⟨g, 0, none⟩), .int .i64 x, .int .i64 y, .agg #[.int .i32 r, .int .i64 wd, .int .i64 s1, .int .i64 s2, .int .i64 s3]] w fun e w' => e = .returned (.tuple #[]) ∧ WG w0 g lim bb w' := by
  have hw := h
  obtain ⟨F, c, past, rows, hG, hA, hc, hF, hb⟩ := h
  have ht' := ht.below hb.1 hB
  have hB' : B ≤ w.heap.size := by have := hb.1.size; omega
  have hbd := hG.bd
  by_cases hx : 0 ≤ x ∧ x ≤ 4611686018427387904
  · refine (put_ga hG ht' hB' x y r wd s1 s2 s3 hr0 hr1 hx.1 hx.2).mono ?_
    rintro e w' ⟨he, hG2, ho⟩
    exact ⟨he, WG.same hF hb hG2 ho (hA.left.app (putP_allW hA.right _ _ _)) hc⟩
  · obtain ⟨s, pv, fp, G, h1, rfl, rfl, rfl, rfl, rfl⟩ := hG
    have key : Calls Tryd.prog 11 #[.pointer (some ⟨g, 0, none⟩), .int .i64 x, .int .i64 y, .agg #[.int .i32 r, .int .i64 wd, .int .i64 s1, .int .i64 s2, .int .i64 s3]] w fun e w' => e = .returned (.tuple #[]) ∧ Below w.heap.size w w' := by
      cases hsh : decide (0 ≤ y ∧ y < G.scr.length) with
      | false => exact put_no_row h1 ht' hB' x y r wd s1 s2 s3 hsh
      | true =>
        cases hmay : mayS r wd s1 s2 s3 with
        | false => exact put_no_may h1 ht' hB' x y r wd s1 s2 s3 hr0 hr1 hsh hmay
        | true =>
          have hwd := may_width hmay
          have hc2 := h1.c2
          by_cases hx0 : x < 0
          · exact put_neg h1 ht' hB' x y r wd s1 s2 s3 hr0 hr1 hsh hmay hx0
          · exact put_far h1 ht' hB' x y r wd s1 s2 s3 hr0 hr1 hsh hmay (by omega) (by omega)
    refine key.mono ?_
    rintro e w' ⟨he, hb'⟩
    exact ⟨he, hw.below hb'⟩
theorem resize_wg {w0 w : World} {g lim bb c : Nat} {F : List Nat} {past rows : List Ro} (hG : GA w g F c lim past rows) (hA : AllW c (past ++ rows)) (hc : c ≤ 30) (hF : ∀ x ∈ F, w0.heap.size ≤ x ∧ x ≠ bb) (hb : Fr2 w0 bb g w) (cols n : Nat) (hc1 : 1 ≤ cols) (hc2 : cols ≤ 30) (hn1 : 1 ≤ n) (hn2 : n ≤ 120) (X Y : Int) (is : Bool) :
    Calls Tryd.prog 18 #[.pointer (some ⟨g, 0, none⟩), .int .i64 (cols : Int), .int .i64 (n : Int), .agg #[.int .i64 X, .int .i64 Y], .bool is] w fun e w' => ∃ a b : Int, e = .returned (.tuple #[.agg #[.int .i64 a, .int .i64 b], .int .i64 0]) ∧ WG w0 g lim bb w' ∧ Only F w w' := by
  have hbd := hG.bd
  cases is with
  | true =>
    have hsz : (past.length + rows.length) * c ≤ 400000 := by
      have z1 := hbd.p2
      have z2 := hbd.l2
      have z3 := hbd.r2
      have z4 : (past.length + rows.length) * c ≤ 2120 * 30 := Nat.mul_le_mul (by omega) hc
      omega
    refine (resize_ga hG cols n X Y hc1 (by omega) hn1 hn2 hsz).mono ?_
    rintro e w' ⟨P, hP, he, F', hG2, hW⟩
    have hAP : AllW cols P.rows := by
      rw [hP]
      exact flowOf_whole _ _ _ _ hc1 fun r hr => (hA r hr).1
    exact ⟨_, _, he, WG.went hF hb hG2 hW ((hAP.mem fun _ hr => List.mem_of_mem_take (List.mem_of_mem_drop hr)).app (filledR_whole (hAP.mem fun _ hr => List.mem_of_mem_drop hr))) hc2, hW.only⟩
  | false =>
    obtain ⟨s, pv, fp, G, h1, rfl, rfl, rfl, rfl, rfl⟩ := hG
    refine (resize_crop h1 cols n X Y hc1 (by omega) hn1 hn2).mono ?_
    rintro e w' ⟨he, s', past2, scr2, hG2, hp, hs, hft, ho⟩
    have hGA := GA.of hG2
    simp only at hGA
    refine ⟨_, _, he, WG.went hF hb hGA ⟨hft, ho⟩ ?_ hc2, ho⟩
    rw [hp, hs]
    exact (cropP_allW hA.left).app (filledR_whole (cropP_allW hA.right))
end Go.Proofs.YtgjlohplgpcghaaDoor.Grd
