/- The chapter's Known is the program's. -/
import Derived.Test.YtgnlfikkmomghaaGreatDoorOrh
namespace Go.Proofs.YtgnlfikkmomghaaGreatDoor.Opt
open Go.RowKit

/-- Names and kinds alone. -/
def NK : List (Tx × Tx) := tabL.map fun o => (o.name, o.kind)
theorem NK_ref : refL.map (fun o => (o.name, o.kind)) = NK := by decide +kernel
theorem NK_91 : ∀ p ∈ NK, (91 : UInt8) ∉ p.1 := by
  have h : NK.all (fun p => !p.1.contains 91) = true := by decide +kernel
  intro p hp hm
  have := List.all_eq_true.1 h p hp
  rw [Bool.not_eq_true', List.contains_eq_mem, decide_eq_false_iff_not] at this
  exact this hm
theorem ref_91 : ∀ o ∈ refL, (91 : UInt8) ∉ o.name := fun o ho => NK_91 (o.name, o.kind) (by rw [← NK_ref]; exact List.mem_map_of_mem ho)
theorem tab_91 : ∀ o ∈ tabL, (91 : UInt8) ∉ o.name := fun o ho => NK_91 (o.name, o.kind) (List.mem_map_of_mem ho)
/-- The chapter's answer, in names and kinds. -/
def knownK (l : Tx) (u : Bool) (w : Option (Tx × Tx)) (i : Int) (a : Tx) (fs : List (Tx × Tx)) : Tx × Tx × Int :=
  if u = true then (l, strK, 0)
  else match w with
    | some p => (l, p.2, 0)
    | none => match fs with
      | [] => ([], [], 6)
      | [p] => if 0 ≤ i ∧ p.2 ≠ arrK then ([], [], 6) else (p.1 ++ l.drop a.length, p.2, 0)
      | _ => ([], [], 3)
def isK (a : Tx) (i : Int) (p : Tx × Tx) : Bool := p.1 == a && (i == -1 || p.2 == arrK)
def begK (a : Tx) (p : Tx × Tx) : Bool := Lib.hasPrefix p.1 a
theorem begD_K (a : Tx) (o : RowD) : begD a o = begK a (o.name, o.kind) := by
  unfold begD begK Lib.hasPrefix
  rw [Bool.eq_iff_iff]
  simp only [Bool.and_eq_true, decide_eq_true_eq, beq_iff_eq, List.isPrefixOf_iff_prefix]
  constructor
  · rintro ⟨h1, h2⟩
    rw [← h2]
    exact List.take_prefix _ _
  · intro h
    exact ⟨h.length_le, (List.prefix_iff_eq_take.1 h).symm⟩
theorem found_K (a : Tx) : (foundL a).map (fun o => (o.name, o.kind)) = NK.filter (begK a) := by
  unfold NK foundL
  rw [List.filter_map]
  rfl
theorem ref_K (a : Tx) : (refL.filter (begD a)).map (fun o => (o.name, o.kind)) = NK.filter (begK a) := by
  rw [← NK_ref, List.filter_map]
  congr 2
  funext o
  exact begD_K a o
theorem find_K (a : Tx) (i : Int) : (tabL.find? (isIt a i)).map (fun o => (o.name, o.kind)) = NK.find? (isK a i) := by
  unfold NK
  rw [List.find?_map]
  rfl
theorem findD_K (a : Tx) : (refL.find? (fun o => o.name == a)).map (fun o => (o.name, o.kind)) = NK.find? (isK a (-1)) := by
  rw [← NK_ref, List.find?_map]
  congr 2
  funext o
  unfold isK
  simp
theorem findA_K (a : Tx) (i : Int) (hi : 0 ≤ i) : (refL.find? (isR a)).map (fun o => (o.name, o.kind)) = NK.find? (isK a i) := by
  rw [← NK_ref, List.find?_map]
  congr 2
  funext o
  unfold isK isR
  have : (i == -1) = false := beq_eq_false_iff_ne.2 (by omega)
  simp [this]
theorem knownK_yes (l : Tx) (w : Option (Tx × Tx)) (i : Int) (a : Tx) (fs : List (Tx × Tx)) : knownK l true w i a fs = (l, strK, 0) := rfl
theorem knownK_some (l : Tx) (p : Tx × Tx) (i : Int) (a : Tx) (fs : List (Tx × Tx)) : knownK l false (some p) i a fs = (l, p.2, 0) := rfl
theorem knownK_nil (l : Tx) (i : Int) (a : Tx) : knownK l false none i a [] = ([], [], 6) := rfl
theorem knownK_one (l : Tx) (i : Int) (a : Tx) (p : Tx × Tx) : knownK l false none i a [p] = if 0 ≤ i ∧ p.2 ≠ arrK then ([], [], 6) else (p.1 ++ l.drop a.length, p.2, 0) := rfl
theorem knownK_two (l : Tx) (i : Int) (a : Tx) (p q : Tx × Tx) (r : List (Tx × Tx)) : knownK l false none i a (p :: q :: r) = ([], [], 3) := rfl
/-- The program's. -/
theorem knownP_K (l : Tx) (a : Tx) (i : Int) (hi : 0 ≤ i ∨ i = -1) (hc : cutItemP l = (a, i)) (hl : l ≠ []) : knownP l = knownK l (userP l) (NK.find? (isK a i)) i a (NK.filter (begK a)) := by
  rw [← find_K, ← found_K]
  cases hu : userP l with
  | true =>
    have hn : namedP l = some (⟨l, 4, strK, [], 0, 0, []⟩, -1) := by rw [namedP, if_pos hu]
    rw [knownK_yes, knownP, hn]
  | false =>
    have hn : namedP l = (tabL.find? (isIt a i)).map fun o => (o, i) := by rw [namedP, if_neg (by rw [hu]; simp), hc]
    cases htf : tabL.find? (isIt a i) with
    | some o =>
      rw [htf] at hn
      rw [knownP, hn]
      rfl
    | none =>
      rw [htf] at hn
      rw [Option.map_none, knownP, hn, hc]
      simp only [Option.map_none]
      rcases hfl : foundL a with _ | ⟨o, _ | ⟨o2, q⟩⟩
      · rw [List.map_nil, knownK_nil, if_pos (.inr rfl)]
      · rw [List.map_cons, List.map_nil, knownK_one, if_neg (by simp [hl]), if_neg (by simp)]
        by_cases h0 : 0 ≤ i ∧ o.kind ≠ arrK
        · exact (if_pos ⟨by omega, h0.2⟩).trans (if_pos h0).symm
        · exact (if_neg fun h => h0 ⟨by omega, h.2⟩).trans (if_neg h0).symm
      · rw [List.map_cons, List.map_cons, knownK_two, if_neg (by simp [hl]), if_pos (by simp)]
theorem knownR_K (l : Tx) (r : Tx × Int) (w : Option (Tx × Tx)) (hl : l ≠ []) (hu : (findR l r).2.2 = false → userR l = false ∧ w = none) (hy : (findR l r).2.2 = true → (userR l = true ∧ (findR l r).1.kind = strK) ∨ (userR l = false ∧ ∃ p, w = some p ∧ (findR l r).1.kind = p.2)) :
    knownR l r = knownK l (userR l) w r.2 r.1 (NK.filter (begK r.1)) := by
  rw [knownR, if_neg hl]
  cases hf : (findR l r).2.2 with
  | true =>
    rw [if_pos rfl]
    rcases hy hf with ⟨h1, h2⟩ | ⟨h1, p, rfl, h2⟩
    · rw [h1, knownK_yes, h2]
    · rw [h1, knownK_some, h2]
  | false =>
    obtain ⟨h1, rfl⟩ := hu hf
    rw [h1, if_neg (by simp), ← ref_K]
    rcases hfl : refL.filter (begD r.1) with _ | ⟨o, _ | ⟨o2, q⟩⟩
    · rw [List.map_nil, knownK_nil, if_neg (by simp), if_pos (.inl rfl)]
    · rw [List.map_cons, List.map_nil, knownK_one, if_neg (by simp)]
      have : lastD [o] = o := rfl
      rw [this]
      simp
    · rw [List.map_cons, List.map_cons, knownK_two, if_pos (by simp)]
theorem find_91 {a : Tx} (h : (91 : UInt8) ∈ a) (i : Int) : NK.find? (isK a i) = none := by
  rw [List.find?_eq_none]
  intro p hp he
  unfold isK at he
  simp only [Bool.and_eq_true, beq_iff_eq] at he
  exact NK_91 p hp (he.1 ▸ h)
theorem beg_91 {a : Tx} (h : (91 : UInt8) ∈ a) : NK.filter (begK a) = [] := by
  rw [List.filter_eq_nil_iff]
  intro p hp he
  unfold begK Lib.hasPrefix at he
  rw [List.isPrefixOf_iff_prefix] at he
  exact NK_91 p hp (he.subset h)
theorem item_91 {l a : Tx} {i : Int} (h : l = itemP a i) : (91 : UInt8) ∈ l := by rw [h]; simp [itemP]
theorem known_eq {l : Tx} {r : Tx × Int} (h : ItemOk l r) : knownR l r = knownP l := by
  by_cases hl : l = []
  · subst hl
    have h1 : knownP [] = ([], [], 6) := by decide +kernel
    rw [h1, knownR, if_pos rfl]
  · have hi : 0 ≤ r.2 ∨ r.2 = -1 := by
      rcases h with ⟨h, -⟩ | ⟨h, -⟩
      · exact .inl h
      · right; rw [h]
    have hRK : knownR l r = knownK l (userR l) (NK.find? (isK r.1 r.2)) r.2 r.1 (NK.filter (begK r.1)) := by
      refine knownR_K l r _ hl ?_ ?_
      · intro hf
        cases hu : userR l with
        | true => rw [findR, if_pos hu] at hf; cases hf
        | false =>
          refine ⟨rfl, ?_⟩
          rw [findR, if_neg (by rw [hu]; simp)] at hf
          rcases h with ⟨h0, h1, h2⟩ | ⟨h2, -⟩
          · cases hq : refL.find? (fun o => o.name == l) with
            | some o => rw [hq] at hf; cases hf
            | none =>
              rw [hq] at hf
              dsimp only at hf
              rw [if_pos h0] at hf
              rw [← findA_K r.1 r.2 h0]
              cases hq2 : refL.find? (isR r.1) with
              | some o => rw [hq2] at hf; cases hf
              | none => rfl
          · rw [h2, ← findD_K]
            cases hq : refL.find? (fun o => o.name == l) with
            | some o => rw [hq] at hf; cases hf
            | none => rfl
      · intro hf
        cases hu : userR l with
        | true => left; exact ⟨rfl, by rw [findR, if_pos hu]⟩
        | false =>
          right
          refine ⟨rfl, ?_⟩
          have hF : findR l r = match refL.find? (fun o => o.name == l) with
            | some o => (o, -1, true)
            | none => if 0 ≤ r.2 then match refL.find? (isR r.1) with
                | some o => (o, r.2, true)
                | none => (zeroD, 0, false)
              else (zeroD, 0, false) := by rw [findR, if_neg (by rw [hu]; simp)]; rfl
          rw [hF] at hf ⊢
          rcases h with ⟨h0, h1, h2⟩ | ⟨h2, -⟩
          · have hn : refL.find? (fun o => o.name == l) = none := by
              rw [List.find?_eq_none]
              intro o ho he
              exact ref_91 o ho ((beq_iff_eq.1 he) ▸ item_91 h2)
            rw [hn] at hf ⊢
            dsimp only at hf ⊢
            rw [if_pos h0] at hf ⊢
            rw [← findA_K r.1 r.2 h0]
            cases hq2 : refL.find? (isR r.1) with
            | some o => exact ⟨_, rfl, rfl⟩
            | none => rw [hq2] at hf; cases hf
          · rw [h2, ← findD_K]
            rw [h2] at hf
            cases hq : refL.find? (fun o => o.name == l) with
            | some o => exact ⟨_, rfl, rfl⟩
            | none => rw [hq] at hf; cases hf
    rcases cutItem_rel h with hc | ⟨hc, h91, h0, h1, h2⟩
    · rw [hRK, knownP_K l r.1 r.2 hi hc hl, user_eq]
    · rw [hRK, knownP_K l l (-1) (.inr rfl) hc hl, user_eq, find_91 h91, beg_91 h91, find_91 (item_91 h2), beg_91 (item_91 h2)]
      rfl
theorem itemOk_ex (l : Tx) : ∃ r, ItemOk l r := by
  by_cases h : ∃ a n, 0 ≤ n ∧ n < 1000 ∧ l = itemP a n
  · obtain ⟨a, n, h0, h1, h2⟩ := h
    exact ⟨(a, n), .inl ⟨h0, h1, h2⟩⟩
  · exact ⟨(l, -1), .inr ⟨rfl, fun a n h0 h1 h2 => h ⟨a, n, h0, h1, h2⟩⟩⟩
theorem knownRef_any (l : Tx) (hs : l.length ≤ 140737488355328) (w : World) :
    Calls Tryz.prog 15 #[.string (bs l)] w fun e w' => e = .returned (.tuple #[.string (bs (knownP l).1), .string (bs (knownP l).2.1), .int .i64 (knownP l).2.2]) ∧ Below w.heap.size w w' := by
  obtain ⟨r, hr⟩ := itemOk_ex l
  have := knownRef_at hr hs w
  rw [known_eq hr] at this
  exact this
end Go.Proofs.YtgnlfikkmomghaaGreatDoor.Opt
