/- A list of actions that came in, opened. -/
import Derived.Test.YtmhmbeofcedjjaaDoorRpt
import Derived.Test.YtmhmbeofcedjjaaDoorVli
namespace Go.Proofs.YtmhmbeofcedjjaaDoor.Vt
open Go.RowKit Go.ChangeShapes Go.WideShapes
open Cel (Blk Kept Tabs low Owns At good enc)

section
variable {H : Type} {enc : TypeId × Value → H} {w : World}
theorem k_int : Tryd.prog.cellsOf 3 = 1 := by kernel_rfl
theorem k_i32 : Tryd.prog.cellsOf 21 = 1 := by kernel_rfl
theorem k_u8 : Tryd.prog.cellsOf 5 = 1 := by kernel_rfl
theorem k_ints : Tryd.prog.cellsOf 28 = 1 := by kernel_rfl
theorem k_str : Tryd.prog.cellsOf 9 = 1 := by kernel_rfl
theorem k_act : Tryd.prog.cellsOf 38 = 6 := by kernel_rfl
theorem bulk_lits (k : IntKind) (zs : List Int) : Rows.uptoBulkAll (lits (H := H) k zs) = zs.length := by
  induction zs with
  | nil => rfl
  | cons z zs ih =>
    show Rows.uptoBulk (DataW.lit (H := H) (.int k z)) + Rows.uptoBulkAll (lits k zs) = _
    rw [ih]
    show 1 + zs.length = zs.length + 1
    omega
/-- Numbers within an action. -/
theorem open_nums {n : Nat} {v : Value} {y : DataW H × List MemPlace} (h : DataW.trod enc Tryd.prog w 0 (fun _ => true) true n 28 [v] = some y) :
    ∃ (A : Option Addr) (c : Nat) (zs : List Int), v = .slice A zs.length c ∧ RdB w.heap.size w A zs ∧ zs.length ≤ Rows.uptoBulk y.1 := by
  rcases open_ints Tryd.underlying28 Tryd.underlying3 k_int h with ⟨e, _⟩ | ⟨a, len, cap, zs, e, _, hl, hm, hn, rfl, hcell, hwf⟩
  · simp at e
    exact ⟨none, 0, [], e, (fun k hk => by simp at hk), by simp⟩
  · simp at e
    rw [if_pos rfl] at hn
    have hlen : (zs.take len).length = len := by rw [List.length_take]; omega
    refine ⟨some a, cap, zs.take len, by rw [e, hlen], fun k hk => ?_, ?_⟩
    · rw [hlen] at hk
      have h0 := hcell 0 (by omega)
      have hk' := hcell k (by omega)
      obtain ⟨g, o, sp⟩ := a
      have e0 : (⟨g, o, sp⟩ : Addr).add 0 = ⟨g, o, sp⟩ := by unfold Addr.add; rw [if_pos rfl]
      rw [e0] at h0
      have hsp : sp = none := by
        unfold World.cell? at h0
        cases sp with
        | none => rfl
        | some x => simp at h0; split at h0 <;> simp at h0
      subst hsp
      have ek : (⟨g, o, none⟩ : Addr).add k = ⟨g, o + k, none⟩ := by unfold Addr.add; split <;> simp_all
      rw [ek] at hk'
      have hg : g < w.heap.size := by
        rcases Nat.lt_or_ge g w.heap.size with q | q
        · exact q
        · unfold World.cell? at hk'
          simp [Array.getElem?_eq_none q] at hk'
      refine ⟨g, o, rfl, hg, ?_⟩
      rw [hk', List.getElem_take]
      simp [List.getD_eq_getElem?_getD, List.getElem?_eq_getElem (show k < zs.length by omega)]
    · show _ ≤ Rows.uptoBulkAll (lits .i64 (zs.take len)) + Rows.uptoBulkAll (lits .i64 (zs.drop len)) + 1
      rw [bulk_lits]
      omega
/-- An action. -/
theorem open_act {n : Nat} {cs : List Value} {y : DataW H × List MemPlace} (h : DataW.trod enc Tryd.prog w 0 (fun _ => true) true n 38 cs = some y) :
    ∃ t : To, cs = acL t ∧ (0 ≤ t.1.b ∧ t.1.b ≤ 255) ∧ (∃ A2 c2, t.2 = .slice A2 t.1.ps.length c2 ∧ RdB w.heap.size w A2 t.1.ps) ∧ t.1.it.length ≤ Rows.uptoBulk y.1 ∧ t.1.tx.length ≤ Rows.uptoBulk y.1 ∧ t.1.ps.length ≤ Rows.uptoBulk y.1 ∧ 1 ≤ Rows.uptoBulk y.1 := by
  obtain ⟨xs, m, _, hx, hl, hlen, hf⟩ := DataW.trod_struct Tryd.underlying38 h
  rw [k_act] at hl
  match cs, hl, xs, hlen with
  | [c0, c1, c2, c3, c4, c5], _, [y0, y1, y2, y3, y4, y5], _ =>
    have g0 : DataW.trod enc Tryd.prog w 0 (fun _ => true) true m 3 [c0] = some y0 := by simpa [k_int] using hf 0 _ rfl
    have g1 : DataW.trod enc Tryd.prog w 0 (fun _ => true) true m 21 [c1] = some y1 := by simpa [k_i32] using hf 1 _ rfl
    have g2 : DataW.trod enc Tryd.prog w 0 (fun _ => true) true m 5 [c2] = some y2 := by simpa [k_u8] using hf 2 _ rfl
    have g3 : DataW.trod enc Tryd.prog w 0 (fun _ => true) true m 28 [c3] = some y3 := by simpa [k_ints] using hf 3 _ rfl
    have g4 : DataW.trod enc Tryd.prog w 0 (fun _ => true) true m 9 [c4] = some y4 := by simpa [k_str] using hf 4 _ rfl
    have g5 : DataW.trod enc Tryd.prog w 0 (fun _ => true) true m 9 [c5] = some y5 := by simpa [k_str] using hf 5 _ rfl
    obtain ⟨k, e0, _, _⟩ := DataW.trod_int Tryd.underlying3 g0
    obtain ⟨r, e1, _, _⟩ := DataW.trod_int Tryd.underlying21 g1
    obtain ⟨b, e2, _, wb⟩ := DataW.trod_int Tryd.underlying5 g2
    obtain ⟨A2, cc, zs, e3, hr, hb3⟩ := open_nums g3
    obtain ⟨s4, e4, rfl, _⟩ := DataW.trod_string Tryd.underlying9 g4
    obtain ⟨s5, e5, rfl, _⟩ := DataW.trod_string Tryd.underlying9 g5
    injection e0 with e0
    injection e1 with e1
    injection e2 with e2
    injection e4 with e4
    injection e5 with e5
    subst e0; subst e1; subst e2; subst e3; subst e4; subst e5
    simp [Lit.wf, IntKind.min, IntKind.max, IntKind.signed, IntKind.bits] at wb
    have hy : y.1 = .agg [y0.1, y1.1, y2.1, y3.1, .lit (.string s4.data.toList), .lit (.string s5.data.toList)] := by rw [hx]; rfl
    have hbk : Rows.uptoBulk y.1 = Rows.uptoBulk y0.1 + (Rows.uptoBulk y1.1 + (Rows.uptoBulk y2.1 + (Rows.uptoBulk y3.1 + ((s4.data.toList.length + 1) + ((s5.data.toList.length + 1) + 0))))) + 1 := by rw [hy]; rfl
    refine ⟨(⟨k, r, b, zs, s4.data.toList, s5.data.toList⟩, .slice A2 zs.length cc), ?_, wb, ⟨A2, cc, rfl, hr⟩, ?_, ?_, ?_, ?_⟩
    · unfold acL
      rw [← bs_of s4, ← bs_of s5]
    · show s4.data.toList.length ≤ _; omega
    · show s5.data.toList.length ≤ _; omega
    · show zs.length ≤ _; omega
    · omega
theorem bulk_mem {y : DataW H} : ∀ {l : List (DataW H)}, y ∈ l → Rows.uptoBulk y ≤ Rows.uptoBulkAll l
  | x :: l, h => by
    show _ ≤ Rows.uptoBulk x + Rows.uptoBulkAll l
    rcases List.mem_cons.1 h with rfl | h
    · omega
    · have := bulk_mem h; omega
theorem bulk_len : ∀ {l : List (DataW H)}, (∀ y ∈ l, 1 ≤ Rows.uptoBulk y) → l.length ≤ Rows.uptoBulkAll l
  | [], _ => Nat.zero_le _
  | x :: l, h => by
    show l.length + 1 ≤ Rows.uptoBulk x + Rows.uptoBulkAll l
    have h1 := h x (by simp)
    have h2 := bulk_len (l := l) fun y hy => h y (by simp [hy])
    omega
theorem open_acts {r : Reach} {b0 : Nat} {v : Value} {d : DataW H} {p : List MemPlace} (hv : Value.okWide Tryd.prog w r b0 22 v) (h : DataW.Trod enc Tryd.prog w 0 (fun _ => true) true 22 v d p) :
    ∃ (A : Option Addr) (c : Nat) (l : List To), v = .slice A l.length c ∧ RdA w.heap.size w A l ∧ l.length ≤ Rows.uptoBulk d ∧ ∀ t ∈ l, (0 ≤ t.1.b ∧ t.1.b ≤ 255) ∧ t.1.it.length ≤ Rows.uptoBulk d ∧ t.1.tx.length ≤ Rows.uptoBulk d ∧ t.1.ps.length ≤ Rows.uptoBulk d := by
  obtain ⟨a0, n0, c0, rfl⟩ := okWide_slice Tryd.underlying22 hv
  obtain ⟨fuel, hf⟩ := h
  rcases DataW.trod_slice Tryd.underlying22 hf with ⟨e, _⟩ | ⟨a, len, cap, elems, rest, n, _, e, hx, _, hl, hm, hel, hat, _, _⟩
  · simp [Value.cells] at e
    obtain ⟨rfl, rfl, rfl⟩ := e
    exact ⟨none, 0, [], rfl, (fun k hk => by simp at hk), Nat.zero_le _, fun t ht => by simp at ht⟩
  · simp [Value.cells] at e
    obtain ⟨rfl, rfl, rfl⟩ := e
    rw [k_act] at hat
    have hd : d = .slice (elems.map (·.1)) (rest.map (·.1)) := by injection hx
    have hex : ∀ i : Fin n0, ∃ t : To, (∀ j, j < 6 → w.cell? ((a.add (i.1 * 6)).add j) = (acL t)[j]?) ∧ (0 ≤ t.1.b ∧ t.1.b ≤ 255) ∧ (∃ A2 c2, t.2 = .slice A2 t.1.ps.length c2 ∧ RdB w.heap.size w A2 t.1.ps) ∧
        t.1.it.length ≤ Rows.uptoBulk (elems[i.1]'(by omega)).1 ∧ t.1.tx.length ≤ Rows.uptoBulk (elems[i.1]'(by omega)).1 ∧ t.1.ps.length ≤ Rows.uptoBulk (elems[i.1]'(by omega)).1 ∧ 1 ≤ Rows.uptoBulk (elems[i.1]'(by omega)).1 := fun i => by
      have hi := i.2
      have h1 := hat i.1 hi
      rw [List.getElem?_eq_getElem (show i.1 < elems.length by omega)] at h1
      obtain ⟨cs, hcs, ht⟩ := Option.bind_eq_some_iff.1 h1
      obtain ⟨t, rfl, hb, hr, q1, q2, q3, q4⟩ := open_act ht
      obtain ⟨_, _, hc⟩ := World.cells?_some hcs
      exact ⟨t, hc, hb, hr, q1, q2, q3, q4⟩
    have hbm : ∀ i (hi : i < elems.length), Rows.uptoBulk elems[i].1 ≤ Rows.uptoBulk d := fun i hi => by
      rw [hd]
      show _ ≤ Rows.uptoBulkAll (elems.map (·.1)) + Rows.uptoBulkAll (rest.map (·.1)) + 1
      have := bulk_mem (l := elems.map (·.1)) (List.mem_map.2 ⟨elems[i], List.getElem_mem hi, rfl⟩)
      omega
    have hln : (List.ofFn fun i : Fin n0 => Classical.choose (hex i)).length = n0 := List.length_ofFn
    refine ⟨some a, c0, List.ofFn fun i : Fin n0 => Classical.choose (hex i), by rw [hln], fun k hk => ?_, ?_, fun t ht => ?_⟩
    · rw [hln] at hk
      have hsp := Classical.choose_spec (hex ⟨k, hk⟩)
      have e : (List.ofFn fun i : Fin n0 => Classical.choose (hex i))[k]'(by rw [hln]; exact hk) = Classical.choose (hex ⟨k, hk⟩) := by simp
      rw [e]
      have h0 := (Classical.choose_spec (hex ⟨0, by omega⟩)).1 0 (by omega)
      generalize Classical.choose (hex ⟨k, hk⟩) = t at *
      generalize Classical.choose (hex ⟨0, by omega⟩) = t0 at h0
      obtain ⟨g, o, sp⟩ := a
      have e0 : (((⟨g, o, sp⟩ : Addr).add (0 * 6)).add 0) = ⟨g, o, sp⟩ := by unfold Addr.add; simp
      rw [e0] at h0
      have h0' : w.cell? ⟨g, o, sp⟩ = some (.int .i64 t0.1.k) := h0
      have hsn : sp = none := by
        unfold World.cell? at h0'
        cases sp with
        | none => rfl
        | some x => simp at h0'; split at h0' <;> simp at h0'
      subst hsn
      have hg : g < w.heap.size := by
        rcases Nat.lt_or_ge g w.heap.size with q | q
        · exact q
        · unfold World.cell? at h0'
          simp [Array.getElem?_eq_none q] at h0'
      refine ⟨⟨g, o, rfl, hg, fun j hj => ?_⟩, hsp.2.2.1⟩
      have h1 := hsp.1 j hj
      have ek : (((⟨g, o, none⟩ : Addr).add (k * 6)).add j) = ⟨g, o + k * 6 + j, none⟩ := by
        unfold Addr.add
        by_cases hk0 : k * 6 = 0
        · by_cases hj0 : j = 0
          · simp [hk0, hj0]
          · simp [hk0, hj0]
        · by_cases hj0 : j = 0
          · simp [hk0, hj0]
          · simp [hk0, hj0]
      rw [ek] at h1
      exact h1
    · rw [hln, hd]
      show _ ≤ Rows.uptoBulkAll (elems.map (·.1)) + Rows.uptoBulkAll (rest.map (·.1)) + 1
      have h2 := bulk_len (l := elems.map (·.1)) fun y hy => by
        obtain ⟨x, hx', rfl⟩ := List.mem_map.1 hy
        obtain ⟨i, hi, rfl⟩ := List.getElem_of_mem hx'
        exact (Classical.choose_spec (hex ⟨i, by omega⟩)).2.2.2.2.2.2
      rw [List.length_map] at h2
      omega
    · rw [List.mem_ofFn] at ht
      obtain ⟨i, rfl⟩ := ht
      obtain ⟨_, hb, _, q1, q2, q3, _⟩ := Classical.choose_spec (hex i)
      have := hbm i.1 (by have := i.2; omega)
      exact ⟨hb, by omega, by omega, by omega⟩
end
end Go.Proofs.YtmhmbeofcedjjaaDoor.Vt
