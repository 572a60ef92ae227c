/- lex: texts and pairs that came in; a world for the witness. -/
import Derived.Test.YtplikjbajejciaaDoorCards
import Derived.Test.YtplikjbajejciaaDoorTie
import Derived.Test.YtplikjbajejciaaDoorPost
import Derived.Test.YtplikjbajejciaaDoorQjo
import Derived.Test.YtplikjbajejciaaDoorQsh
import Derived.ProofKit
import Derived.OpenShut
import Derived.Lay
import Derived.LaidLaws
import Derived.Lib.SmallJoins
import Derived.ChangeMaps5
import Derived.SliceStrings
import Derived.Deep.DeepHandedRow
namespace Go.Proofs.YtplikjbajejciaaDoor.Lex
open Go.RowKit Go.ChangeShapes Go.WideShapes Go.ChangeAt
theorem own : ownKnob Tryd.prog.godebug = none := by kernel_rfl
theorem witness_row_shaped {H : Type} {enc : TypeId × Value → H} {C : Checked} {os : Os} {f : FuncId} {fn : Func} {s : OpenSpec} {conds : List PathCond} {apart : Bool} {laid : List (String × DataW Unit)} (w0 : World) (args : Array Value) (hos : w0.os = os)
    (hsh : (w0.forCall (fun _ _ => 0) ⟨#[], args, []⟩).Shaped C.prog)
    (hok : Input.okWideB C.prog (w0.forCall (fun _ _ => 0) ⟨#[], args, []⟩) f ⟨#[], args, []⟩ = true)
    (hrow : s.preRow enc C.prog fn conds apart laid (w0.forCall (fun _ _ => 0) ⟨#[], args, []⟩).memory args) :
    ∃ (w : World) (tape : Tape) (i : Input), w.os = os ∧ (w.forCall tape i).Shaped C.prog ∧ i.vars = [] ∧ Input.okWide C.prog (w.forCall tape i) .any w.heap.size f i ∧
      s.preRow enc C.prog fn conds apart laid (w.forCall tape i).memory i.args ∧ ({} : Assume).holds C.prog (lone (Frame.enter C.prog f i.args .normal) [] (w.forCall tape i)) :=
  ⟨w0, fun _ _ => 0, ⟨#[], args, []⟩, hos, hsh, (Input.okWide_of_okWideB (base := 0) hok).1, (Input.okWide_of_okWideB hok).2, hrow, by simp [Assume.holds]⟩
theorem k_str2 : Tryd.prog.cellsOf 9 = 1 := by kernel_rfl
theorem k_pair : Tryd.prog.cellsOf 39 = 2 := by kernel_rfl
theorem bulk_texts {H : Type} : ∀ (ss : List ByteArray), total (ss.map fun s => s.data.toList) + ss.length ≤ Rows.uptoBulkAll (strs (H := H) ss)
  | [] => by unfold total; simp [strs, Rows.uptoBulkAll]
  | t :: ss => by
    have := bulk_texts (H := H) ss
    unfold strs at this ⊢
    rw [List.map_cons, List.map_cons, total_cons, Rows.uptoBulkAll]
    simp only [Rows.uptoBulk, List.length_cons]
    omega
set_option maxRecDepth 100000 in
/-- Texts that came in. -/
theorem open_texts {H : Type} {enc : TypeId × Value → H} {w : World} {r : Reach} {b0 : Nat} {v : Value} {d : DataW H} {p : List MemPlace}
    (hv : Value.okWide Tryd.prog w r b0 22 v) (h : DataW.Trod enc Tryd.prog w 0 (fun _ => true) true 22 v d p) :
    ∃ (A : Option Addr) (c : Nat) (l : List Tx), v = .slice A l.length c ∧ StAt w.heap.size w A l ∧ total l + l.length ≤ Rows.uptoBulk d := by
  obtain ⟨a0, n0, c0, rfl⟩ := okWide_slice Tryd.underlying22 hv
  obtain ⟨fuel, hf⟩ := h
  rcases open_strings Tryd.underlying22 Tryd.underlying9 (by kernel_rfl) hf with ⟨e, _⟩ | ⟨a, len, cap, ss, e, _, hl, hm, hn, hx, hcell, hwf⟩
  · simp [Value.cells] at e
    obtain ⟨rfl, rfl, rfl⟩ := e
    exact ⟨none, 0, [], rfl, (fun k hk => by simp at hk), by unfold total; simp⟩
  · simp [Value.cells] at e
    obtain ⟨rfl, rfl, rfl⟩ := e
    simp only [Prod.mk.injEq] at hx
    obtain ⟨rfl, _⟩ := hx
    rw [if_pos rfl] at hn
    have hlen : (ss.take n0).length = n0 := by rw [List.length_take]; omega
    refine ⟨some a, c0, (ss.take n0).map fun s => s.data.toList, by rw [List.length_map, hlen], fun k hk => ?_, ?_⟩
    · rw [List.length_map, hlen] at hk
      have h0 := hcell 0 (by omega)
      have hk' := hcell k (by omega)
      obtain ⟨g, o, sp⟩ := a
      have e0 : (⟨g, o, sp⟩ : Addr).add 0 = ⟨g, o, sp⟩ := by unfold Addr.add; rw [if_pos rfl]
      rw [e0] at h0
      have hsp : sp = none := by
        unfold World.cell? at h0
        cases sp with
        | none => rfl
        | some x => simp at h0; split at h0 <;> simp at h0
      subst hsp
      have ek : (⟨g, o, none⟩ : Addr).add k = ⟨g, o + k, none⟩ := by unfold Addr.add; split <;> simp_all
      rw [ek] at hk'
      have hg : g < w.heap.size := by
        rcases Nat.lt_or_ge g w.heap.size with q | q
        · exact q
        · unfold World.cell? at hk'
          simp [Array.getElem?_eq_none q] at hk'
      refine ⟨g, o, rfl, hg, ?_⟩
      rw [List.getElem_map, List.getElem_take, hk', List.getD_eq_getElem?_getD, List.getElem?_eq_getElem (by omega), Option.getD_some, ← bs_of]
    · have h1 := bulk_texts (H := H) (ss.take n0)
      simp only [Rows.uptoBulk, List.length_map]
      omega
theorem b_pair : Tryd.prog.bytesOf 39 = 32 := by kernel_rfl
section
variable {H : Type} {enc : TypeId × Value → H} {w : World}
theorem weights_mem {P : Program} {e : TypeId} {d : DataW H} {n : Nat} : ∀ {ds : List (DataW H)}, d ∈ ds → n ∈ d.weights P e → n ∈ DataW.weightsAll P e ds
  | a :: r, h, hn => by
    rw [DataW.weightsAll, List.mem_append]
    rcases List.mem_cons.1 h with rfl | h
    · exact .inl hn
    · exact .inr (weights_mem h hn)
set_option maxRecDepth 100000 in
theorem open_pair {n : Nat} {cs : List Value} {y : DataW H × List MemPlace} (h : DataW.trod enc Tryd.prog w 0 (fun _ => true) true n 39 cs = some y) :
    ∃ o : Tx × Tx, cs = [.string (bs o.1), .string (bs o.2)] ∧ o.1.length ∈ y.1.weights Tryd.prog 39 ∧ o.2.length ∈ y.1.weights Tryd.prog 39 := by
  obtain ⟨xs, m, _, hx, hl, hlen, hf⟩ := DataW.trod_struct Tryd.underlying39 h
  rw [k_pair] at hl
  match cs, hl, xs, hlen with
  | [c0, c1], _, [y0, y1], _ =>
    have g2 : DataW.trod enc Tryd.prog w 0 (fun _ => true) true m 9 [c0] = some y0 := by simpa [k_str2] using hf 0 _ rfl
    have g3 : DataW.trod enc Tryd.prog w 0 (fun _ => true) true m 9 [c1] = some y1 := by simpa [k_str2] using hf 1 _ rfl
    obtain ⟨s2, e2, rfl, _⟩ := DataW.trod_string Tryd.underlying9 g2
    obtain ⟨s3, e3, rfl, _⟩ := DataW.trod_string Tryd.underlying9 g3
    injection e2 with e2
    injection e3 with e3
    have hy : y.1 = .agg [.lit (.string s2.data.toList), .lit (.string s3.data.toList)] := by rw [hx]; rfl
    have hwt : y.1.weights Tryd.prog 39 = [s2.data.toList.length] ++ ([s3.data.toList.length] ++ []) := by
      rw [hy, DataW.weights, Tryd.underlying39]
      rfl
    refine ⟨⟨s2.data.toList, s3.data.toList⟩, ?_, ?_, ?_⟩
    · simp only
      rw [← bs_of, ← bs_of, e2, e3]
    · rw [hwt]; simp
    · rw [hwt]; simp
set_option maxRecDepth 100000 in
theorem open_pairs {r : Reach} {b0 : Nat} {v : Value} {d : DataW H} {p : List MemPlace}
    (hv : Value.okWide Tryd.prog w r b0 27 v) (h : DataW.Trod enc Tryd.prog w 0 (fun _ => true) true 27 v d p) (hk : ∀ n ∈ d.weights Tryd.prog 27, n ≤ 140737488351232) :
    ∃ (A : Option Addr) (c : Nat) (env : Env), v = .slice A env.length c ∧ PrAt w.heap.size w A env ∧ EnvOk env := by
  obtain ⟨a0, n0, c0, rfl⟩ := okWide_slice Tryd.underlying27 hv
  obtain ⟨fuel, hf⟩ := h
  rcases DataW.trod_slice Tryd.underlying27 hf with ⟨e, _⟩ | ⟨a, len, cap, elems, rest, n, _, e, hx, _, hl, hm, hel, hat, _, _⟩
  · simp [Value.cells] at e
    obtain ⟨rfl, rfl, rfl⟩ := e
    exact ⟨none, 0, [], rfl, (fun k hk => by simp at hk), nil_ok⟩
  · simp [Value.cells] at e
    obtain ⟨rfl, rfl, rfl⟩ := e
    have hd : d = .slice (elems.map (·.1)) (rest.map (·.1)) := congrArg Prod.fst hx
    have hwt : ∀ y ∈ elems, ∀ n ∈ y.1.weights Tryd.prog 39, n ≤ 140737488351232 := fun y hy n hn => by
      refine hk n ?_
      rw [hd, DataW.weights, Tryd.underlying27]
      refine List.mem_cons_of_mem _ (List.mem_append.2 (.inl ?_))
      exact weights_mem (List.mem_map.2 ⟨y, hy, rfl⟩) hn
    have hlen : n0 ≤ 140737488351232 := by
      have := hk (((elems.map (·.1)).length + (rest.map (·.1)).length) * Tryd.prog.bytesOf 39) (by
        rw [hd, DataW.weights, Tryd.underlying27]
        exact List.mem_cons_self)
      rw [b_pair, List.length_map] at this
      omega
    rw [k_pair] at hat
    have hex : ∀ i : Fin n0, ∃ o : Tx × Tx, (o.1.length ≤ 140737488355328 ∧ o.2.length ≤ 140737488355328) ∧ w.cell? (a.add (i.1 * 2)) = some (.string (bs o.1)) ∧ w.cell? ((a.add (i.1 * 2)).add 1) = some (.string (bs o.2)) := fun i => by
      have hi := i.2
      have h1 := hat i.1 hi
      rw [List.getElem?_eq_getElem (show i.1 < elems.length by omega)] at h1
      obtain ⟨cs, hcs, ht⟩ := Option.bind_eq_some_iff.1 h1
      obtain ⟨o, rfl, h4, h5⟩ := open_pair ht
      have h6 := hwt _ (List.getElem_mem _) _ h4
      have h7 := hwt _ (List.getElem_mem _) _ h5
      obtain ⟨_, _, hc⟩ := World.cells?_some hcs
      have c0 := hc 0 (by omega)
      have c1 := hc 1 (by omega)
      rw [show (a.add (i.1 * 2)).add 0 = a.add (i.1 * 2) by unfold Addr.add; rw [if_pos rfl]] at c0
      exact ⟨o, ⟨by omega, by omega⟩, c0, c1⟩
    have hch : ∀ i : Fin n0, (fun i => Classical.choose (hex i)) i = Classical.choose (hex i) := fun _ => rfl
    have hops : ∀ i : Fin n0, ((Classical.choose (hex i)).1.length ≤ 140737488355328 ∧ (Classical.choose (hex i)).2.length ≤ 140737488355328) ∧ w.cell? (a.add (i.1 * 2)) = some (.string (bs (Classical.choose (hex i)).1)) ∧ w.cell? ((a.add (i.1 * 2)).add 1) = some (.string (bs (Classical.choose (hex i)).2)) := fun i => Classical.choose_spec (hex i)
    generalize (fun i => Classical.choose (hex i)) = E at hch
    simp only [← hch] at hops
    clear hch hex hat hx hf hv hk hd hwt
    refine ⟨some a, c0, List.ofFn E, by rw [List.length_ofFn], fun k hk => ?_, by rw [List.length_ofFn]; omega, fun q hq => ?_⟩
    · have hk0 : k < n0 := by rwa [List.length_ofFn] at hk
      have h0 := (hops ⟨0, by omega⟩).2.1
      obtain ⟨_, hc1, hc2⟩ := hops ⟨k, hk0⟩
      clear hops
      obtain ⟨g, o, sp⟩ := a
      have e0 : (⟨g, o, sp⟩ : Addr).add (0 * 2) = ⟨g, o, sp⟩ := by unfold Addr.add; simp
      simp only at h0 hc1 hc2
      rw [e0] at h0
      have hsn : sp = none := by
        unfold World.cell? at h0
        cases sp with
        | none => rfl
        | some x => simp at h0; split at h0 <;> simp at h0
      subst hsn
      have hg : g < w.heap.size := by
        rcases Nat.lt_or_ge g w.heap.size with q | q
        · exact q
        · unfold World.cell? at h0
          simp [Array.getElem?_eq_none q] at h0
      have ek : (⟨g, o, none⟩ : Addr).add (k * 2) = ⟨g, o + k * 2, none⟩ := by
        unfold Addr.add
        split
        · simp_all
        · rfl
      have ek1 : (⟨g, o + k * 2, none⟩ : Addr).add 1 = ⟨g, o + k * 2 + 1, none⟩ := by
        unfold Addr.add
        simp
      rw [ek] at hc1 hc2
      rw [ek1] at hc2
      refine ⟨g, o, rfl, hg, ?_, ?_⟩
      · rw [List.getElem_ofFn]; exact hc1
      · rw [List.getElem_ofFn]; exact hc2
    · obtain ⟨i, rfl⟩ := List.mem_ofFn.1 hq
      exact (hops i).1
end
end Go.Proofs.YtplikjbajejciaaDoor.Lex
