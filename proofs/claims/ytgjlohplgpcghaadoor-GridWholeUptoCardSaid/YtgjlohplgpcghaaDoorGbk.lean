/- Rows that are not wrapped, laid anew in a wider grid, and back: in plain words. -/
import Derived.Test.YtgjlohplgpcghaaDoorGsh
namespace Go.Proofs.YtgjlohplgpcghaaDoor.Grd
open Go.RowKit Cel Sty

theorem used_ge (l : List Ce) (place : Int) : ∀ n : Nat, place + 1 ≤ (n : Int) → place + 1 ≤ (usedN l place n : Int)
  | 0, h => h
  | n + 1, h => by
    unfold usedN
    split
    · rename_i h1
      exact used_ge l place n (by omega)
    · exact h
theorem used_bd (l : List Ce) (place : Int) (c : Nat) (hp : place + 1 ≤ (c : Int)) : ∀ n : Nat, (∀ i, c ≤ i → i < n → l[i]? = some plainCe) → usedN l place n ≤ c
  | 0, _ => Nat.zero_le _
  | n + 1, h => by
    unfold usedN
    split
    · exact used_bd l place c hp n fun i h1 h2 => h i h1 (by omega)
    · rename_i hn
      rcases Nat.lt_or_ge n c with h1 | h1
      · omega
      · exact absurd ⟨by omega, h n h1 (by omega)⟩ hn
/-- What is not used is plain blanks. -/
theorem used_rest (l : List Ce) (place : Int) : ∀ n, n ≤ l.length → l.take n = l.take (usedN l place n) ++ List.replicate (n - usedN l place n) plainCe
  | 0, _ => by simp [usedN]
  | n + 1, hn => by
    unfold usedN
    split
    · rename_i h1
      have h2 := used_rest l place n (by omega)
      have h3 := usedN_le l place n
      have h4 : l[n] = plainCe := by
        have := h1.2
        rw [List.getElem?_eq_getElem (by omega)] at this
        exact Option.some.inj this
      rw [List.take_succ_eq_append_getElem (by omega), h2, h4, show n + 1 - usedN l place n = (n - usedN l place n) + 1 by omega, List.replicate_succ', List.append_assoc]
    · simp
def padL (cols : Nat) (l : List Ce) (u : Nat) : List Ce := l.take u ++ List.replicate (cols - u) plainCe
/-- Cells that have room in one row. -/
theorem cellsF_fit {P : PF} (hc : 1 ≤ P.cols) {l : List Ce} (place : Int) {u : Nat} (hw : Whole (l.take u)) (hu : u ≤ l.length) (hle : u ≤ P.cols) : ∀ k, k ≤ u →
    cellsF place l (beginF P) k = ⟨P.cols, P.rows ++ [(padL P.cols l k, false)], k, if 0 ≤ place ∧ place < (k : Int) then place else P.px, if 0 ≤ place ∧ place < (k : Int) then (P.rows.length : Int) else P.py⟩
  | 0, _ => by
    have h0 : ¬ (0 ≤ place ∧ place < ((0 : Nat) : Int)) := by omega
    rw [if_neg h0, if_neg h0]
    unfold cellsF beginF padL
    simp
  | k + 1, hk => by
    have ih := cellsF_fit hc place hw hu hle k (by omega)
    unfold cellsF
    rw [ih]
    have hkl : k < l.length := by omega
    have hg : l.getD k default = l[k] := by simp [hkl]
    have hku : k < (l.take u).length := by rw [List.length_take]; omega
    have hat := hw.at k hku
    have hget : (l.take u)[k] = l[k] := List.getElem_take
    rw [hget] at hat
    rw [hg]
    generalize hcc : l[k] = cc at *
    have hset : (padL P.cols l k).set k cc = padL P.cols l (k + 1) := by
      unfold padL
      rw [List.set_append_right _ _ (by rw [List.length_take]; omega), List.length_take, Nat.min_eq_left (by omega), Nat.sub_self, show P.cols - k = (P.cols - (k + 1)) + 1 by omega, List.replicate_succ, List.set_cons_zero, List.take_succ_eq_append_getElem hkl, hcc]
      simp
    have hon : ∀ px py, onF ⟨P.cols, P.rows ++ [(padL P.cols l k, false)], k, px, py⟩ cc = ⟨P.cols, P.rows ++ [(padL P.cols l (k + 1), false)], k + 1, px, py⟩ := fun px py => by
      have hput : putF ⟨P.cols, P.rows ++ [(padL P.cols l k, false)], k, px, py⟩ cc = ⟨P.cols, P.rows ++ [(padL P.cols l (k + 1), false)], k + 1, px, py⟩ := by
        have hr : roomF ⟨P.cols, P.rows ++ [(padL P.cols l k, false)], k, px, py⟩ = ⟨P.cols, P.rows ++ [(padL P.cols l k, false)], k, px, py⟩ := by
          unfold roomF
          rw [if_neg (show ¬ k = P.cols by omega)]
        unfold putF
        rw [hr]
        simp only [setLast_snoc, hset]
      unfold onF
      simp only
      rcases hat with h1 | ⟨h1, h2⟩ | ⟨y, s, rfl, h1, h2⟩
      · rw [if_neg (by rw [h1]; omega), if_neg (by rw [h1]; omega), if_neg (by rw [h1]; omega)]
        exact hput
      · have hk1 : k + 1 < u := by
          have := (List.getElem?_eq_some_iff.1 h2).1
          rw [List.length_take] at this
          omega
        rw [if_neg (by rw [h1]; omega), if_neg (by omega), if_neg (by omega)]
        exact hput
      · rw [if_neg (by omega), if_neg (by omega), if_neg (by rw [h1]; simp)]
        exact hput
    unfold stepF
    rw [hon]
    by_cases hp : (k : Int) = place
    · rw [if_pos hp]
      have h1 : 0 ≤ place ∧ place < ((k + 1 : Nat) : Int) := by omega
      rw [if_pos h1, if_pos h1]
      simp only [List.length_append, List.length_cons, List.length_nil]
      congr 1
      · omega
      · omega
    · rw [if_neg hp]
      by_cases h1 : 0 ≤ place ∧ place < (k : Int)
      · have h2 : 0 ≤ place ∧ place < ((k + 1 : Nat) : Int) := by omega
        rw [if_pos h1, if_pos h1, if_pos h2, if_pos h2]
      · have h2 : ¬ (0 ≤ place ∧ place < ((k + 1 : Nat) : Int)) := by omega
        rw [if_neg h1, if_neg h1, if_neg h2, if_neg h2]
/-- A line that has room in one row. -/
theorem layF_fit {P : PF} (hc : 1 ≤ P.cols) {l : List Ce} (hw : Whole l) (wr : Bool) (place : Int) {u : Nat} (hu : usedN l place l.length = u) (hle : u ≤ P.cols) :
    layF P l wr place = ⟨P.cols, P.rows ++ [(padL P.cols l u, wr)], u, if 0 ≤ place ∧ place < (u : Int) then place else P.px, if 0 ≤ place ∧ place < (u : Int) then (P.rows.length : Int) else P.py⟩ := by
  have h1 := usedN_whole (l := l) place l.length (Nat.le_refl _) (by rw [List.take_length]; exact hw)
  rw [hu] at h1
  unfold layF
  rw [hu]
  simp only
  rw [cellsF_fit hc place h1.1 h1.2 hle u (Nat.le_refl _)]
  simp only [setLast_snoc]
/-- Rows of which each is a line of its own, and has room in one row. -/
theorem lays_fit {L : List Ro} (tgt : Nat) (x : Nat) (cols : Nat) (hc : 1 ≤ cols) (hL : ∀ r ∈ L, Whole r.1 ∧ r.2 = false) (place : Nat → Int) (hpl : ∀ i, place i = if i = tgt then (x : Int) else -1)
    (hfit : ∀ i (hi : i < L.length), usedN L[i].1 (place i) L[i].1.length ≤ cols) (hx : ∀ (hi : tgt < L.length), x < L[tgt].1.length) : ∀ k, k ≤ L.length →
    (linesN L (tgt : Int) (x : Int) k).2 = false ∧ ∃ nx, laysF ⟨cols, [], 0, 0, 0⟩ (linesN L (tgt : Int) (x : Int) k).1 =
      ⟨cols, (List.range k).map (fun i => (padL cols (L.getD i default).1 (usedN (L.getD i default).1 (place i) (L.getD i default).1.length), false)), nx, if tgt < k then (x : Int) else 0, if tgt < k then (tgt : Int) else 0⟩
  | 0, _ => ⟨rfl, 0, by simp [linesN, laysF]⟩
  | k + 1, hk => by
    obtain ⟨h1, nx, h2⟩ := lays_fit tgt x cols hc hL place hpl hfit hx k (by omega)
    have hg : L.getD k default = L[k] := by simp [show k < L.length by omega]
    have hm := hL L[k] (List.getElem_mem _)
    have hln : linesN L (tgt : Int) (x : Int) (k + 1) = ((linesN L (tgt : Int) (x : Int) k).1 ++ [⟨L[k].1, false, place k⟩], false) := by
      show addL (tgt : Int) (x : Int) (linesN L (tgt : Int) (x : Int) k) k (L.getD k default) = _
      unfold addL openL
      rw [h1, if_neg (by simp), setLastL_snoc, hg, hm.2, hpl k]
      by_cases hkt : k = tgt
      · rw [if_pos hkt, if_pos (by omega)]; simp
      · rw [if_neg hkt, if_neg (by omega)]; simp
    rw [hln]
    refine ⟨rfl, usedN L[k].1 (place k) L[k].1.length, ?_⟩
    simp only
    rw [laysF_snoc, h2, layF_fit (P := ⟨cols, _, nx, _, _⟩) hc hm.1 false (place k) rfl (hfit k (by omega))]
    simp only [List.range_succ, List.map_append, List.map_cons, List.map_nil, List.length_map, List.length_range, hg]
    congr 1
    · by_cases hkt : k = tgt
      · subst hkt
        have h3 := used_ge L[k].1 (place k) L[k].1.length (by rw [hpl k, if_pos rfl]; have := hx (by omega); omega)
        rw [hpl k, if_pos rfl] at h3 ⊢
        rw [if_pos (by omega), if_pos (by omega)]
      · have h3 := hpl k
        rw [if_neg hkt] at h3
        rw [h3, if_neg (by omega)]
        by_cases h4 : tgt < k
        · rw [if_pos h4, if_pos (by omega)]
        · rw [if_neg h4, if_neg (by omega)]
    · by_cases hkt : k = tgt
      · subst hkt
        have h3 := used_ge L[k].1 (place k) L[k].1.length (by rw [hpl k, if_pos rfl]; have := hx (by omega); omega)
        rw [hpl k, if_pos rfl] at h3 ⊢
        rw [if_pos (by omega), if_pos (by omega)]
      · have h3 := hpl k
        rw [if_neg hkt] at h3
        rw [h3, if_neg (by omega)]
        by_cases h4 : tgt < k
        · rw [if_pos h4, if_pos (by omega)]
        · rw [if_neg h4, if_neg (by omega)]
/-- Rows of one grid that are whole, and lines of their own. -/
structure OwnL (c : Nat) (R : List Ro) : Prop where
  fine : Fine R
  len : ∀ r ∈ R, r.1.length = c
def extR (c c' : Nat) (r : Ro) : Ro := (r.1 ++ List.replicate (c' - c) plainCe, false)
theorem OwnL.at {c : Nat} {R : List Ro} (h : OwnL c R) {i : Nat} (hi : i < R.length) : Whole R[i].1 ∧ R[i].2 = false ∧ R[i].1.length = c :=
  ⟨(h.fine _ (List.getElem_mem hi)).1, (h.fine _ (List.getElem_mem hi)).2, h.len _ (List.getElem_mem hi)⟩
theorem flow_there {R : List Ro} {c c' : Nat} (h : OwnL c R) (h1 : 1 ≤ c) (hcc : c ≤ c') (hN : 1 ≤ R.length) :
    ∃ nx, flowOf R ((R.length - 1 : Nat) : Int) ((c - 1 : Nat) : Int) c' = ⟨c', R.map (extR c c'), nx, ((c - 1 : Nat) : Int), ((R.length - 1 : Nat) : Int)⟩ := by
  have hpl : ∀ i, (fun i => if i = R.length - 1 then ((c - 1 : Nat) : Int) else -1) i = if i = R.length - 1 then ((c - 1 : Nat) : Int) else -1 := fun _ => rfl
  obtain ⟨_, nx, h2⟩ := lays_fit (L := R) (R.length - 1) (c - 1) c' (by omega) h.fine _ hpl (fun i hi => Nat.le_trans (usedN_le _ _ _) (by rw [(h.at hi).2.2]; exact hcc)) (fun hi => by rw [(h.at hi).2.2]; omega) R.length (Nat.le_refl _)
  have hrows : (List.range R.length).map (fun i => (padL c' (R.getD i default).1 (usedN (R.getD i default).1 (if i = R.length - 1 then ((c - 1 : Nat) : Int) else -1) (R.getD i default).1.length), false)) = R.map (extR c c') := by
    apply List.ext_getElem (by simp)
    intro i hi1 hi2
    have hi : i < R.length := by simpa using hi1
    have hg : R.getD i default = R[i] := by simp [hi]
    simp only [List.getElem_map, List.getElem_range, hg]
    unfold extR padL
    congr 1
    have h3 := used_rest R[i].1 (if i = R.length - 1 then ((c - 1 : Nat) : Int) else -1) R[i].1.length (Nat.le_refl _)
    have h4 := usedN_le R[i].1 (if i = R.length - 1 then ((c - 1 : Nat) : Int) else -1) R[i].1.length
    rw [List.take_length] at h3
    have h5 := (h.at hi).2.2
    rw [h5] at h3 h4 ⊢
    conv => rhs; rw [h3]
    rw [List.append_assoc, List.replicate_append_replicate, show c - usedN R[i].1 (if i = R.length - 1 then ((c - 1 : Nat) : Int) else -1) c + (c' - c) = c' - usedN R[i].1 (if i = R.length - 1 then ((c - 1 : Nat) : Int) else -1) c by omega]
  refine ⟨nx, ?_⟩
  unfold flowOf
  rw [h2, hrows, if_pos (by omega), if_pos (by omega)]
  unfold trimF
  simp only [List.length_map]
  have ht : trimN c' (R.map (extR c c')) ((R.length - 1 : Nat) : Int) R.length = R.length := by
    obtain ⟨m, hm⟩ : ∃ m, R.length = m + 1 := ⟨R.length - 1, by omega⟩
    rw [hm]
    unfold trimN
    rw [if_neg (by omega)]
  rw [ht, List.take_of_length_le (by simp)]
theorem trim_to {cols : Nat} (R : List Ro) (hN : 1 ≤ R.length) (K : Nat) : ∀ j, j ≤ K → trimN cols (R ++ List.replicate K (plainR cols)) ((R.length - 1 : Nat) : Int) (R.length + j) = R.length
  | 0, _ => by
    obtain ⟨m, hm⟩ : ∃ m, R.length = m + 1 := ⟨R.length - 1, by omega⟩
    rw [Nat.add_zero, hm]
    unfold trimN
    rw [if_neg (by omega)]
  | j + 1, hj => by
    rw [← Nat.add_assoc]
    unfold trimN
    have hg : (R ++ List.replicate K (plainR cols)).getD (R.length + j) default = plainR cols := by
      rw [List.getD_eq_getElem?_getD, List.getElem?_append_right (by omega), Nat.add_sub_cancel_left, List.getElem?_replicate, if_pos (by omega)]
      rfl
    rw [if_pos ⟨by omega, hg⟩]
    exact trim_to R hN K j (by omega)
theorem flow_back {R : List Ro} {c c' : Nat} (h : OwnL c R) (h1 : 1 ≤ c) (hcc : c ≤ c') (hN : 1 ≤ R.length) (K : Nat) :
    ∃ nx, flowOf (R.map (extR c c') ++ List.replicate K (plainR c')) ((R.length - 1 : Nat) : Int) ((c - 1 : Nat) : Int) c = ⟨c, R, nx, ((c - 1 : Nat) : Int), ((R.length - 1 : Nat) : Int)⟩ := by
  have hlen : (R.map (extR c c') ++ List.replicate K (plainR c')).length = R.length + K := by simp
  have hlo : ∀ i (hi : i < R.length) (hi2 : i < (R.map (extR c c') ++ List.replicate K (plainR c')).length), (R.map (extR c c') ++ List.replicate K (plainR c'))[i] = extR c c' R[i] := fun i hi hi2 => by
    rw [List.getElem_append_left (by simpa using hi), List.getElem_map]
  have hhi : ∀ i (hi : R.length ≤ i) (hi2 : i < (R.map (extR c c') ++ List.replicate K (plainR c')).length), (R.map (extR c c') ++ List.replicate K (plainR c'))[i] = plainR c' := fun i hi hi2 => by
    rw [List.getElem_append_right (by simpa using hi), List.getElem_replicate]
  generalize hLd : R.map (extR c c') ++ List.replicate K (plainR c') = L at *
  have hext : ∀ i (hi : i < R.length), (extR c c' R[i]).1.length = c' ∧ Whole (extR c c' R[i]).1 := fun i hi => by
    unfold extR
    refine ⟨?_, (h.at hi).1.app (.blanks _ _)⟩
    simp only [List.length_append, List.length_replicate, (h.at hi).2.2]
    omega
  have hfine : ∀ r ∈ L, Whole r.1 ∧ r.2 = false := fun r hr => by
    obtain ⟨i, hi, rfl⟩ := List.getElem_of_mem hr
    rcases Nat.lt_or_ge i R.length with hi2 | hi2
    · rw [hlo i hi2 hi]
      exact ⟨(hext i hi2).2, rfl⟩
    · rw [hhi i hi2 hi]
      exact ⟨.blanks _ _, rfl⟩
  let place : Nat → Int := fun i => if i = R.length - 1 then ((c - 1 : Nat) : Int) else -1
  have hpl : ∀ i, place i = if i = R.length - 1 then ((c - 1 : Nat) : Int) else -1 := fun _ => rfl
  have hub : ∀ i (hi : i < R.length), usedN (extR c c' R[i]).1 (place i) (extR c c' R[i]).1.length ≤ c := fun i hi => by
    refine used_bd _ _ c ?_ _ fun j h3 h4 => ?_
    · rw [hpl]; split <;> omega
    · unfold extR
      rw [List.getElem?_append_right (by rw [(h.at hi).2.2]; exact h3), (h.at hi).2.2, List.getElem?_replicate, if_pos (by rw [(hext i hi).1] at h4; omega)]
  have hub0 : ∀ i, R.length ≤ i → usedN (plainR c').1 (place i) (plainR c').1.length = 0 := fun i hi => by
    have := used_bd (plainR c').1 (place i) 0 (by rw [hpl, if_neg (by omega)]; omega) (plainR c').1.length fun j _ h4 => by
      unfold plainR at h4 ⊢
      rw [List.length_replicate] at h4
      rw [List.getElem?_replicate, if_pos h4]
    omega
  obtain ⟨_, nx, h2⟩ := lays_fit (L := L) (R.length - 1) (c - 1) c h1 hfine place hpl (fun i hi => by
    rcases Nat.lt_or_ge i R.length with hi2 | hi2
    · rw [hlo i hi2 hi]; exact hub i hi2
    · rw [hhi i hi2 hi, hub0 i hi2]; exact Nat.zero_le _) (fun hi => by rw [hlo _ (by omega) hi, (hext _ (by omega)).1]; omega) L.length (Nat.le_refl _)
  have hrows : (List.range L.length).map (fun i => (padL c (L.getD i default).1 (usedN (L.getD i default).1 (place i) (L.getD i default).1.length), false)) = R ++ List.replicate K (plainR c) := by
    apply List.ext_getElem (by simp [hlen])
    intro i hi1 hi2
    have hi : i < L.length := by simpa using hi1
    have hg : L.getD i default = L[i] := by simp [hi]
    simp only [List.getElem_map, List.getElem_range, hg]
    rcases Nat.lt_or_ge i R.length with hiR | hiR
    · rw [hlo i hiR hi, List.getElem_append_left hiR]
      have h3 := used_rest (extR c c' R[i]).1 (place i) (extR c c' R[i]).1.length (Nat.le_refl _)
      have h4 := hub i hiR
      have h5 := usedN_le (extR c c' R[i]).1 (place i) (extR c c' R[i]).1.length
      rw [List.take_length] at h3
      obtain ⟨u, hu⟩ : ∃ u, usedN (extR c c' R[i]).1 (place i) (extR c c' R[i]).1.length = u := ⟨_, rfl⟩
      rw [hu] at h3 h4 h5 ⊢
      have h6 : padL c (extR c c' R[i]).1 u = (extR c c' R[i]).1.take c := by
        unfold padL
        conv => rhs; rw [h3]
        rw [List.take_append, List.length_take, Nat.min_eq_left h5, List.take_of_length_le (l := (extR c c' R[i]).1.take u) (by rw [List.length_take]; omega), List.take_replicate, Nat.min_eq_left (by rw [(hext i hiR).1]; omega)]
      have h7 : (extR c c' R[i]).1.take c = R[i].1 := by
        unfold extR
        have := (h.at hiR).2.2
        rw [List.take_append_of_le_length (by omega), List.take_of_length_le (by omega)]
      rw [h6, h7, ← (h.at hiR).2.1]
    · rw [hhi i hiR hi, hub0 i hiR, List.getElem_append_right hiR, List.getElem_replicate]
      unfold padL plainR
      simp
  refine ⟨nx, ?_⟩
  unfold flowOf
  rw [h2, hrows, if_pos (by omega), if_pos (by omega)]
  unfold trimF
  simp only [List.length_append, List.length_replicate]
  rw [trim_to R hN K K (Nat.le_refl _), List.take_append_of_le_length (Nat.le_refl _), List.take_length]
end Go.Proofs.YtgjlohplgpcghaaDoor.Grd
