/- Calls that came in. -/
import Derived.Test.YtgjlohplgpcghaaDoorGls
import Derived.Test.YtgjlohplgpcghaaDoorGwk
namespace Go.Proofs.YtgjlohplgpcghaaDoor.Grd
open Go.RowKit Go.ChangeShapes Go.WideShapes Go.ChangeAt Go.Joins Cel Sty

theorem k_bool2 : Tryd.prog.cellsOf 4 = 1 := by kernel_rfl
theorem k_int2 : Tryd.prog.cellsOf 3 = 1 := by kernel_rfl
theorem k_i322 : Tryd.prog.cellsOf 21 = 1 := by kernel_rfl
theorem k_sty : Tryd.prog.cellsOf 33 = 3 := by kernel_rfl
theorem k_cell : Tryd.prog.cellsOf 35 = 5 := by kernel_rfl
theorem k_op : Tryd.prog.cellsOf 37 = 11 := by kernel_rfl
section
variable {H : Type} {enc : TypeId × Value → H} {w : World}
set_option maxRecDepth 100000 in
theorem open_sty {n : Nat} {cs : List Value} {y : DataW H × List MemPlace} (h : DataW.trod enc Tryd.prog w 0 (fun _ => true) true n 33 cs = some y) : ∃ a b c : Int, cs = [.int .i64 a, .int .i64 b, .int .i64 c] := by
  obtain ⟨xs, m, _, hx, hl, hlen, hf⟩ := DataW.trod_struct Tryd.underlying33 h
  rw [k_sty] at hl
  match cs, hl, xs, hlen with
  | [c0, c1, c2], _, [y0, y1, y2], _ =>
    have g0 : DataW.trod enc Tryd.prog w 0 (fun _ => true) true m 3 [c0] = some y0 := by simpa [k_int2] using hf 0 _ rfl
    have g1 : DataW.trod enc Tryd.prog w 0 (fun _ => true) true m 3 [c1] = some y1 := by simpa [k_int2] using hf 1 _ rfl
    have g2 : DataW.trod enc Tryd.prog w 0 (fun _ => true) true m 3 [c2] = some y2 := by simpa [k_int2] using hf 2 _ rfl
    obtain ⟨a, e0, _, _⟩ := DataW.trod_int Tryd.underlying3 g0
    obtain ⟨b, e1, _, _⟩ := DataW.trod_int Tryd.underlying3 g1
    obtain ⟨c, e2, _, _⟩ := DataW.trod_int Tryd.underlying3 g2
    injection e0 with e0
    injection e1 with e1
    injection e2 with e2
    exact ⟨a, b, c, by rw [e0, e1, e2]⟩
set_option maxRecDepth 100000 in
theorem open_cell {n : Nat} {cs : List Value} {y : DataW H × List MemPlace} (h : DataW.trod enc Tryd.prog w 0 (fun _ => true) true n 35 cs = some y) : ∃ r a b c d : Int, cs = [.int .i32 r, .int .i64 a, .int .i64 b, .int .i64 c, .int .i64 d] ∧ (-2147483648 ≤ r ∧ r ≤ 2147483647) := by
  obtain ⟨xs, m, _, hx, hl, hlen, hf⟩ := DataW.trod_struct Tryd.underlying35 h
  rw [k_cell] at hl
  match cs, hl, xs, hlen with
  | [c0, c1, c2, c3, c4], _, [y0, y1, y2], _ =>
    have g0 : DataW.trod enc Tryd.prog w 0 (fun _ => true) true m 21 [c0] = some y0 := by simpa [k_i322] using hf 0 _ rfl
    have g1 : DataW.trod enc Tryd.prog w 0 (fun _ => true) true m 3 [c1] = some y1 := by simpa [k_int2] using hf 1 _ rfl
    have g2 : DataW.trod enc Tryd.prog w 0 (fun _ => true) true m 33 [c2, c3, c4] = some y2 := by simpa [k_sty] using hf 2 _ rfl
    obtain ⟨r, e0, _, wr⟩ := DataW.trod_int Tryd.underlying21 g0
    obtain ⟨a, e1, _, _⟩ := DataW.trod_int Tryd.underlying3 g1
    obtain ⟨b, c, d, e2⟩ := open_sty g2
    simp [Lit.wf, IntKind.min, IntKind.max, IntKind.signed, IntKind.bits] at wr
    injection e0 with e0
    injection e1 with e1
    injection e2 with e2 e3
    injection e3 with e3 e4
    injection e4 with e4
    exact ⟨r, a, b, c, d, by rw [e0, e1, e2, e3, e4], wr⟩
set_option maxRecDepth 100000 in
theorem open_op {n : Nat} {cs : List Value} {y : DataW H × List MemPlace} (h : DataW.trod enc Tryd.prog w 0 (fun _ => true) true n 37 cs = some y) : ∃ o : OpV, cs = opL o ∧ o.ok := by
  obtain ⟨xs, m, _, hx, hl, hlen, hf⟩ := DataW.trod_struct Tryd.underlying37 h
  rw [k_op] at hl
  match cs, hl, xs, hlen with
  | [c0, c1, c2, c3, c4, c5, c6, c7, c8, c9, c10], _, [y0, y1, y2, y3, y4, y5, y6], _ =>
    have g0 : DataW.trod enc Tryd.prog w 0 (fun _ => true) true m 3 [c0] = some y0 := by simpa [k_int2] using hf 0 _ rfl
    have g1 : DataW.trod enc Tryd.prog w 0 (fun _ => true) true m 3 [c1] = some y1 := by simpa [k_int2] using hf 1 _ rfl
    have g2 : DataW.trod enc Tryd.prog w 0 (fun _ => true) true m 3 [c2] = some y2 := by simpa [k_int2] using hf 2 _ rfl
    have g3 : DataW.trod enc Tryd.prog w 0 (fun _ => true) true m 3 [c3] = some y3 := by simpa [k_int2] using hf 3 _ rfl
    have g4 : DataW.trod enc Tryd.prog w 0 (fun _ => true) true m 3 [c4] = some y4 := by simpa [k_int2] using hf 4 _ rfl
    have g5 : DataW.trod enc Tryd.prog w 0 (fun _ => true) true m 35 [c5, c6, c7, c8, c9] = some y5 := by simpa [k_cell] using hf 5 _ rfl
    have g6 : DataW.trod enc Tryd.prog w 0 (fun _ => true) true m 4 [c10] = some y6 := by simpa [k_bool2] using hf 6 _ rfl
    obtain ⟨k, e0, _, wk⟩ := DataW.trod_int Tryd.underlying3 g0
    obtain ⟨x, e1, _, _⟩ := DataW.trod_int Tryd.underlying3 g1
    obtain ⟨yy, e2, _, _⟩ := DataW.trod_int Tryd.underlying3 g2
    obtain ⟨nn, e3, _, wn⟩ := DataW.trod_int Tryd.underlying3 g3
    obtain ⟨mm, e4, _, wm⟩ := DataW.trod_int Tryd.underlying3 g4
    obtain ⟨r, a, b, c, d, e5, wr⟩ := open_cell g5
    obtain ⟨is, e6, _⟩ := DataW.trod_bool Tryd.underlying4 g6
    simp [Lit.wf, IntKind.min, IntKind.max, IntKind.signed, IntKind.bits] at wk wn wm
    injection e0 with e0
    injection e1 with e1
    injection e2 with e2
    injection e3 with e3
    injection e4 with e4
    injection e5 with q0 q1
    injection q1 with q1 q2
    injection q2 with q2 q3
    injection q3 with q3 q4
    injection q4 with q4
    injection e6 with e6
    exact ⟨⟨k, x, yy, nn, mm, (r, a, b, c, d), is⟩, by unfold opL; simp only; rw [e0, e1, e2, e3, e4, q0, q1, q2, q3, q4, e6], wk, wn, wm, wr⟩
set_option maxRecDepth 100000 in
theorem open_ops {r : Reach} {b0 : Nat} {v : Value} {d : DataW H} {p : List MemPlace}
    (hv : Value.okWide Tryd.prog w r b0 23 v) (h : DataW.Trod enc Tryd.prog w 0 (fun _ => true) true 23 v d p) :
    ∃ (A : Option Addr) (n c : Nat) (ops : Nat → OpV), v = .slice A n c ∧ RdO w A n ops ∧ n ≤ 9223372036854775807 := by
  obtain ⟨a0, n0, c0, rfl⟩ := okWide_slice Tryd.underlying23 hv
  obtain ⟨fuel, hf⟩ := h
  rcases DataW.trod_slice Tryd.underlying23 hf with ⟨e, _⟩ | ⟨a, len, cap, elems, rest, n, _, e, hx, _, hl, hm, hel, hat, _, _⟩
  · simp [Value.cells] at e
    obtain ⟨rfl, rfl, rfl⟩ := e
    exact ⟨none, 0, 0, fun _ => ⟨0, 0, 0, 0, 0, default, false⟩, rfl, (fun k hk => by simp at hk), by simp⟩
  · simp [Value.cells] at e
    obtain ⟨rfl, rfl, rfl⟩ := e
    unfold maxLen at hm
    rw [k_op] at hat
    have hex : ∀ k, ∃ o : OpV, k < n0 → o.ok ∧ ∀ j, j < 11 → w.cell? ((a.add (k * 11)).add j) = (opL o)[j]? := fun k => by
      by_cases hk : k < n0
      · have h1 := hat k hk
        rw [List.getElem?_eq_getElem (show k < elems.length by omega)] at h1
        obtain ⟨cs, hcs, ht⟩ := Option.bind_eq_some_iff.1 h1
        obtain ⟨o, rfl, hok⟩ := open_op ht
        obtain ⟨_, _, hc⟩ := World.cells?_some hcs
        exact ⟨o, fun _ => ⟨hok, hc⟩⟩
      · exact ⟨⟨0, 0, 0, 0, 0, default, false⟩, fun h => absurd h hk⟩
    obtain ⟨ops, hops⟩ : ∃ ops : Nat → OpV, ∀ k, k < n0 → (ops k).ok ∧ ∀ j, j < 11 → w.cell? ((a.add (k * 11)).add j) = (opL (ops k))[j]? := ⟨fun k => Classical.choose (hex k), fun k => Classical.choose_spec (hex k)⟩
    clear hex hat hx hf hv
    refine ⟨some a, n0, c0, ops, rfl, fun k hk => ?_, by omega⟩
    have h0 := (hops 0 (by omega)).2 0 (by omega)
    obtain ⟨hok, hcell⟩ := hops k hk
    clear hops
    obtain ⟨g, o, sp⟩ := a
    have e0 : (((⟨g, o, sp⟩ : Addr).add (0 * 11)).add 0) = ⟨g, o, sp⟩ := by unfold Addr.add; simp
    rw [e0] at h0
    have h0' : w.cell? ⟨g, o, sp⟩ = some (.int .i64 (ops 0).k) := h0
    clear h0 e0
    have hsn : sp = none := by
      unfold World.cell? at h0'
      cases sp with
      | none => rfl
      | some x => simp at h0'; split at h0' <;> simp at h0'
    subst hsn
    have hg : g < w.heap.size := by
      rcases Nat.lt_or_ge g w.heap.size with q | q
      · exact q
      · unfold World.cell? at h0'
        simp [Array.getElem?_eq_none q] at h0'
    refine ⟨g, o, rfl, hg, hok, fun j hj => ?_⟩
    have h1 := hcell j hj
    have ek : (((⟨g, o, none⟩ : Addr).add (k * 11)).add j) = ⟨g, o + k * 11 + j, none⟩ := by
      unfold Addr.add
      by_cases hk0 : k * 11 = 0
      · by_cases hj0 : j = 0
        · simp [hk0, hj0]
        · simp [hk0, hj0]
      · by_cases hj0 : j = 0
        · simp [hk0, hj0]
        · simp [hk0, hj0]
    rw [ek] at h1
    exact h1
end
end Go.Proofs.YtgjlohplgpcghaaDoor.Grd
