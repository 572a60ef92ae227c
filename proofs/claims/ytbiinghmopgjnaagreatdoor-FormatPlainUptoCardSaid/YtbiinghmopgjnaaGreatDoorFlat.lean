/- A package-level table of plain data (numbers, texts, arrays and structs of these) that reads as a datum holds the datum's own cells, one behind the other. Of whatever program. -/
import Derived.OpenShut
import Derived.ChangeArms
namespace Go.Proofs.YtbiinghmopgjnaaGreatDoor.Flat

mutual
def flat {H : Type} : DataW H → List Value
  | .lit l => [l.value]
  | .agg parts => flatAll parts
  | _ => []
def flatAll {H : Type} : List (DataW H) → List Value
  | [] => []
  | d :: r => flat d ++ flatAll r
end

/-- The fields lie one behind the other, from place o to place e. -/
def consec (P : Program) (e : Nat) : List Field → Nat → Bool
  | [], o => decide (o = e)
  | f :: fs, o => decide (f.offset = o) && consec P e fs (o + P.cellsOf f.type)
/-- A type of plain data whose cells lie close. -/
def tight (P : Program) : Nat → TypeId → Bool
  | 0, _ => false
  | n + 1, t =>
    match P.underlying t with
    | some .bool => true
    | some (.int _) => true
    | some .string => true
    | some (.struct fs) => consec P (P.cellsOf t) fs.toList 0 && fs.toList.all fun f => tight P n f.type
    | some (.array m e) => decide (P.cellsOf t = m * P.cellsOf e) && tight P n e
    | _ => false

section
variable {H : Type} {enc : TypeId × Value → H} {P : Program} {w : World} {base : Nat} {spare : Nat → Bool} {held : Bool}

theorem array_flat (c : Nat) : ∀ (ds : List (DataW H)) (cs : List Value), cs.length = ds.length * c → (∀ i (hi : i < ds.length), (cs.drop (i * c)).take c = flat ds[i]) → cs = flatAll ds
  | [], cs, hl, _ => by
    simp at hl
    simp [hl, flatAll]
  | d :: ds, cs, hl, h => by
    have h0 := h 0 (by simp)
    simp only [Nat.zero_mul, List.drop_zero, List.getElem_cons_zero] at h0
    have ih := array_flat c ds (cs.drop c) (by rw [List.length_drop, hl, List.length_cons, Nat.add_mul]; omega) fun i hi => by
      have := h (i + 1) (by simpa using hi)
      rw [List.getElem_cons_succ] at this
      rw [List.drop_drop, ← this]
      congr 2
      rw [Nat.add_mul, Nat.one_mul, Nat.add_comm]
    simp only [flatAll]
    rw [← h0, ← ih, List.take_append_drop]

theorem struct_flat (e : Nat) (cs : List Value) (hl : cs.length = e) : ∀ (fs : List Field) (ds : List (DataW H)) (o : Nat), consec P e fs o = true → ds.length = fs.length → o ≤ e →
    (∀ (i : Nat) (f : Field) (d : DataW H), fs[i]? = some f → ds[i]? = some d → (cs.drop f.offset).take (P.cellsOf f.type) = flat d) → cs.drop o = flatAll ds
  | [], ds, o, hc, hd, _, _ => by
    have e1 : ds = [] := List.eq_nil_of_length_eq_zero hd
    simp only [consec, decide_eq_true_eq] at hc
    subst e1; subst hc
    rw [List.drop_of_length_le (by omega)]
    rfl
  | f :: fs, ds, o, hc, hd, ho, h => by
    cases ds with
    | nil => simp at hd
    | cons d ds =>
      simp only [consec, Bool.and_eq_true, decide_eq_true_eq] at hc
      have h0 := h 0 f d rfl rfl
      rw [hc.1] at h0
      by_cases hb : o + P.cellsOf f.type ≤ e
      · have ih := struct_flat e cs hl fs ds _ hc.2 (by simpa using hd) hb fun i f' d' hf hd' => h (i + 1) f' d' (by simpa using hf) (by simpa using hd')
        simp only [flatAll]
        rw [← h0, ← ih, ← List.drop_drop, List.take_append_drop]
      · exfalso
        have : ∀ (fs : List Field) (o : Nat), consec P e fs o = true → o ≤ e := by
          intro fs
          induction fs with
          | nil => intro o h; simp only [consec, decide_eq_true_eq] at h; omega
          | cons f fs ih => intro o h; simp only [consec, Bool.and_eq_true, decide_eq_true_eq] at h; have := ih _ h.2; omega
        exact hb (this _ _ hc.2)

theorem flat_of_trod : ∀ (n : Nat) (t : TypeId) (cs : List Value) (x : DataW H × List MemPlace) (f : Nat), tight P n t = true → DataW.trod enc P w base spare held f t cs = some x → cs = flat x.1
  | 0, _, _, _, _, h, _ => by simp [tight] at h
  | n + 1, t, cs, x, f, h, ht => by
    unfold tight at h
    cases hu : P.underlying t with
    | none => rw [hu] at h; simp at h
    | some u =>
      rw [hu] at h
      cases u with
      | bool =>
        cases f with
        | zero => simp [DataW.trod] at ht
        | succ f =>
          unfold DataW.trod at ht
          rw [hu] at ht
          split at ht <;> simp_all
          subst ht
          simp [flat, Lit.value]
      | int k =>
        cases f with
        | zero => simp [DataW.trod] at ht
        | succ f =>
          unfold DataW.trod at ht
          rw [hu] at ht
          split at ht <;> simp_all
          obtain ⟨⟨rfl, _⟩, rfl⟩ := ht
          simp [flat, Lit.value]
      | string =>
        cases f with
        | zero => simp [DataW.trod] at ht
        | succ f =>
          unfold DataW.trod at ht
          rw [hu] at ht
          split at ht <;> simp_all
          obtain ⟨_, rfl⟩ := ht
          simp [flat, Lit.value]
      | struct fs =>
        simp only [Bool.and_eq_true, List.all_eq_true] at h
        obtain ⟨xs, m, _, rfl, hl, hlen, hf⟩ := DataW.trod_struct hu ht
        simp only [flat]
        have hs := struct_flat (P := P) (P.cellsOf t) cs hl fs.toList (xs.map (·.1)) 0 h.1 (by simpa using hlen) (Nat.zero_le _) fun i fld d hi hd => by
          have h1 := hf i fld (by simpa using hi)
          rw [List.getElem?_map] at hd
          obtain ⟨y, hy, rfl⟩ := Option.map_eq_some_iff.1 hd
          rw [hy] at h1
          exact flat_of_trod n _ _ y m (h.2 fld (List.mem_of_getElem? hi)) h1
        simpa using hs
      | array m e =>
        simp only [Bool.and_eq_true, decide_eq_true_eq] at h
        obtain ⟨xs, k, _, rfl, hl, hlen, hf⟩ := DataW.trod_array hu ht
        simp only [flat]
        refine array_flat (P.cellsOf e) (xs.map (·.1)) cs (by rw [hl, h.1, List.length_map, hlen]) fun i hi => ?_
        have hi2 : i < xs.length := by simpa using hi
        have h1 := hf i (by omega)
        rw [List.getElem?_eq_getElem hi2] at h1
        have := flat_of_trod n _ _ _ k h.2 h1
        simpa using this
      | _ => simp at h
end

/-- What a listed variable's block holds, out of the row's condition (the variable's place on the list: by its reading). -/
theorem cells_of_read {P : Program} {w : World} {name : String} {g : Nat} {t : TypeId} {cs : Array Value} {f : Nat} {d : DataW Unit} {p : List MemPlace} {base : Nat} {spare : Nat → Bool} {held : Bool} {enc : TypeId × Value → Unit}
    (hg : P.globalNamed name = some g) (hv : w.var? P name = some cs) (n : Nat) (hn : tight P n t = true) (ht : DataW.trod enc P w base spare held f t cs.toList = some (d, p)) :
    ∃ t' fr, w.heap[g]? = some (.cells (flat d).toArray t' fr) := by
  have e := flat_of_trod n t cs.toList (d, p) f hn ht
  unfold World.var? at hv
  rw [hg] at hv
  simp only [Option.bind_some] at hv
  cases hh : w.heap[g]? with
  | none => rw [hh] at hv; simp at hv
  | some o =>
    rw [hh] at hv
    cases o with
    | cells cs' t' fr =>
      simp only [Option.some.injEq] at hv
      subst hv
      refine ⟨t', fr, ?_⟩
      rw [← e]
    | _ => simp at hv
end Go.Proofs.YtbiinghmopgjnaaGreatDoor.Flat
