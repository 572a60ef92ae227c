/- Letters printed one after another: what stands in the rows then. (Plain.) -/
import Derived.Test.YtjklnnklgkihlaaGreatDoorPNfd
namespace Go.Proofs.YtjklnnklgkihlaaGreatDoor.Scr
open Go.RowKit Cel Sty Grd

theorem getD_nth {α : Type} {l : List α} {i : Nat} (h : i < l.length) (d : α) : l.getD i d = l[i] := by simp [List.getD, h]
/-- The cell of place p: the rune that is printed there, if it is among the first k. -/
def ceK (l : List Int) (k p : Nat) : Ce := if p < k then (l.getD p 0, 1, -1, -1, 0) else plainCe
theorem ceK_wide (l : List Int) (k p : Nat) : (ceK l k p).2.1 = 1 := by
  unfold ceK
  split <;> rfl
/-- Line j behind k runes, if a lines are begun. -/
def lineK (c : Nat) (l : List Int) (k a j : Nat) : Ro := ((List.range c).map fun x => ceK l k (j * c + x), decide (j + 1 < a))
def pastK (c r lim : Nat) (l : List Int) (k a : Nat) : List Ro := (List.range (min (a - r) lim)).map fun i => lineK c l k a (a - r - min (a - r) lim + i)
def rowsK (c r : Nat) (l : List Int) (k a : Nat) : List Ro := (List.range r).map fun i => lineK c l k a (a - r + i)
def scK (r : Nat) (x y : Int) (wt : Bool) (la : Int) : ScP := { newP r with now := { newS with x := x, y := y, wait := wt }, last := la }
/-- A screen behind k runes. -/
def MK (c r lim : Nat) (l : List Int) (k a : Nat) (x : Int) (wt : Bool) (la : Int) : MP := ⟨pastK c r lim l k a, rowsK c r l k a, scK r x ((a - 1 - (a - r) : Nat) : Int) wt la⟩
theorem rowsK_len (c r : Nat) (l : List Int) (k a : Nat) : (rowsK c r l k a).length = r := by simp [rowsK]
theorem pastK_len (c r lim : Nat) (l : List Int) (k a : Nat) : (pastK c r lim l k a).length = min (a - r) lim := by simp [pastK]
theorem place_line {c j x j' x' : Nat} (hx : x < c) (hx' : x' < c) (h : j * c + x = j' * c + x') : j = j' ∧ x = x' := by
  have h1 : (j * c + x) / c = j := by
    rw [Nat.mul_comm, Nat.mul_add_div (by omega), Nat.div_eq_of_lt hx, Nat.add_zero]
  have h2 : (j' * c + x') / c = j' := by
    rw [Nat.mul_comm, Nat.mul_add_div (by omega), Nat.div_eq_of_lt hx', Nat.add_zero]
  have hj : j = j' := by rw [← h1, h, h2]
  subst hj
  exact ⟨rfl, by omega⟩
theorem cutL_one {l : List Ce} (h : ∀ y ∈ l, y.2.1 = 1) (x : Nat) : cutL l x = l := by
  unfold cutL
  split
  · rename_i hc
    exfalso
    have h1 := h l[x] (List.getElem_mem hc.2.1)
    have h2 := hc.2.2
    rw [getD_nth hc.2.1 _, h1] at h2
    omega
  · rfl
theorem putL_one {l : List Ce} (h : ∀ y ∈ l, y.2.1 = 1) (x : Nat) (q : Ce) (hq : q.2.1 = 1) : putL l x q = l.set x q := by
  unfold putL
  rw [if_neg (by rw [hq]; decide), cutL_one h, cutL_one h]
/-- The next rune's cell is laid. -/
theorem line_set {c : Nat} {l : List Int} {k a x : Nat} (hk : (a - 1) * c + x = k) (hkl : k < l.length) :
    (putL (lineK c l k a (a - 1)).1 x (l[k], 1, -1, -1, 0), (lineK c l k a (a - 1)).2) = lineK c l (k + 1) a (a - 1) := by
  unfold lineK
  rw [putL_one (fun y hy => by
    obtain ⟨z, _, rfl⟩ := List.mem_map.1 hy
    exact ceK_wide l k _) x _ rfl]
  congr 1
  apply List.ext_getElem
  · simp
  · intro i h1 h2
    simp only [List.length_set, List.length_map, List.length_range] at h1
    rw [List.getElem_set]
    simp only [List.getElem_map, List.getElem_range]
    split
    · rename_i e
      subst e
      unfold ceK
      rw [hk, if_pos (by omega), getD_nth hkl _]
    · rename_i e
      unfold ceK
      by_cases hp : (a - 1) * c + i < k
      · rw [if_pos hp, if_pos (by omega)]
      · rw [if_neg hp, if_neg (by omega)]
theorem line_same {c : Nat} {l : List Int} {k a x : Nat} (hx : x < c) (hk : (a - 1) * c + x = k) (j : Nat) (hj : j ≠ a - 1) : lineK c l k a j = lineK c l (k + 1) a j := by
  unfold lineK
  congr 1
  apply List.map_congr_left
  intro i hi
  rw [List.mem_range] at hi
  unfold ceK
  have : j * c + i ≠ k := fun e => hj (place_line hi hx (e.trans hk.symm)).1
  by_cases hp : j * c + i < k
  · rw [if_pos hp, if_pos (by omega)]
  · rw [if_neg hp, if_neg (by omega)]
theorem may_letter {q : Int} (h : width q = 1) : mayS q 1 (-1) (-1) 0 = true := by
  unfold mayS
  rw [h]
  decide
/-- A rune laid where there is room. -/
theorem laid_K {c r lim : Nat} {l : List Int} {k a x : Nat} {la : Int} (ha : 1 ≤ a) (hr : 1 ≤ r) (hx : x < c) (hk : (a - 1) * c + x = k) (hkl : k < l.length) (hw : width l[k] = 1) :
    laidP c (MK c r lim l k a (x : Int) false la) x (a - 1 - (a - r)) l[k] = MK c r lim l (k + 1) a (if c ≤ x + 1 then (c : Int) - 1 else (x : Int) + 1) (decide (c ≤ x + 1)) l[k] := by
  have hrows : putP c (rowsK c r l k a) (x : Int) ((a - 1 - (a - r) : Nat) : Int) (l[k], 1, -1, -1, 0) = rowsK c r l (k + 1) a := by
    unfold putP
    have hy : a - 1 - (a - r) < r := by omega
    have hyy : a - r + (a - 1 - (a - r)) = a - 1 := by omega
    rw [if_pos ⟨⟨by omega, by rw [rowsK_len, Int.toNat_natCast]; exact hy⟩, may_letter hw, by omega, by simp only; omega⟩, Int.toNat_natCast, Int.toNat_natCast,
      getD_nth (by rw [rowsK_len]; exact hy) _]
    apply List.ext_getElem
    · simp [rowsK]
    · intro i h1 h2
      rw [List.length_set, rowsK_len] at h1
      rw [List.getElem_set]
      simp only [rowsK, List.getElem_map, List.getElem_range]
      split
      · rename_i e
        subst e
        simp only [hyy]
        exact line_set hk hkl
      · rename_i e
        exact line_same hx hk _ (by omega)
  have hpast : pastK c r lim l k a = pastK c r lim l (k + 1) a := by
    unfold pastK
    apply List.map_congr_left
    intro i hi
    rw [List.mem_range] at hi
    exact line_same hx hk _ (by omega)
  unfold laidP MK
  simp only
  rw [show (scK r (x : Int) ((a - 1 - (a - r) : Nat) : Int) false la).now.pen = (-1, -1, 0) from rfl, hrows, hpast]
  congr 1
  have ho : onM (scK r (x : Int) ((a - 1 - (a - r) : Nat) : Int) false la).modes 1 = true := by
    show onM 9 1 = true
    decide
  rw [ho]
  unfold goOnP
  have hsx : (scK r (x : Int) ((a - 1 - (a - r) : Nat) : Int) false la).now.x = (x : Int) := rfl
  rw [hsx]
  by_cases hg : c ≤ x + 1
  · rw [if_pos (by omega), if_pos hg, decide_eq_true hg]
    rfl
  · rw [if_neg (by omega), if_neg hg, decide_eq_false hg]
    rfl
theorem line_mark {c : Nat} {l : List Int} {k a : Nat} (ha : 1 ≤ a) : ((lineK c l k a (a - 1)).1, true) = lineK c l k (a + 1) (a - 1) := by
  have h : a - 1 + 1 < a + 1 := by omega
  unfold lineK
  rw [decide_eq_true h]
theorem line_mark_same {c : Nat} {l : List Int} {k a j : Nat} (hj : j ≠ a - 1) : lineK c l k a j = lineK c l k (a + 1) j := by
  unfold lineK
  congr 1
  by_cases h : j + 1 < a
  · rw [decide_eq_true h, decide_eq_true (by omega)]
  · rw [decide_eq_false h, decide_eq_false (by omega)]
theorem line_blank {c : Nat} {l : List Int} {k a j : Nat} (hk : k ≤ j * c) (hj : a ≤ j + 1) : lineK c l k a j = plainR c := by
  unfold lineK plainR
  rw [decide_eq_false (by omega)]
  congr 1
  apply List.ext_getElem
  · simp
  · intro i h1 h2
    simp only [List.getElem_map, List.getElem_replicate, List.getElem_range]
    unfold ceK
    rw [if_neg (by omega)]
/-- Wrapped: the next line is begun. -/
theorem room_wait {c r lim : Nat} {l : List Int} {k a : Nat} {x la : Int} (ha : 1 ≤ a) (hr : 1 ≤ r) (hk : a * c = k) :
    roomP c lim (MK c r lim l k a x true la) (a - 1 - (a - r)) (r - 1) = MK c r lim l k (a + 1) 0 false la := by
  have hy : a - 1 - (a - r) < r := by omega
  have hyy : a - r + (a - 1 - (a - r)) = a - 1 := by omega
  have hwr : wrapP (rowsK c r l k a) (a - 1 - (a - r)) true = (List.range r).map fun i => lineK c l k (a + 1) (a - r + i) := by
    unfold wrapP
    rw [getD_nth (by rw [rowsK_len]; exact hy) _]
    apply List.ext_getElem
    · simp [rowsK]
    · intro i h1 h2
      rw [List.length_set, rowsK_len] at h1
      rw [List.getElem_set]
      simp only [rowsK, List.getElem_map, List.getElem_range]
      split
      · rename_i e
        subst e
        simp only [hyy]
        exact line_mark ha
      · rename_i e
        exact line_mark_same (by omega)
  have hpast : pastK c r lim l k a = (List.range (min (a - r) lim)).map fun i => lineK c l k (a + 1) (a - r - min (a - r) lim + i) := by
    unfold pastK
    apply List.map_congr_left
    intro i hi
    rw [List.mem_range] at hi
    exact line_mark_same (by omega)
  unfold roomP
  rw [if_pos (show (MK c r lim l k a x true la).S.now.wait = true from rfl)]
  unfold wrapMP
  rw [show (MK c r lim l k a x true la).rows = rowsK c r l k a from rfl, show (MK c r lim l k a x true la).past = pastK c r lim l k a from rfl, hwr, hpast]
  unfold indexP
  by_cases he : a - 1 - (a - r) = r - 1
  · rw [if_pos he]
    have har : r ≤ a := by omega
    obtain ⟨d, rfl⟩ : ∃ d, a = r + d := ⟨a - r, by omega⟩
    have e1 : r + d - r = d := by omega
    have e2 : r + d + 1 - r = d + 1 := by omega
    unfold MK
    simp only
    rw [MP.mk.injEq]
    refine ⟨?_, ?_, ?_⟩
    · unfold offP pastK
      rw [e1, e2]
      apply List.ext_getElem
      · simp
        omega
      · intro i h1 h2
        simp only [List.length_map, List.length_range] at h2
        rw [List.getElem_drop]
        simp only [List.length_map, List.length_range]
        by_cases hd : d < lim
        · have m1 : min d lim = d := by omega
          have m2 : min (d + 1) lim = d + 1 := by omega
          rw [m2] at h2
          simp only [m1, m2]
          rw [List.getElem_append]
          simp only [List.length_map, List.length_range, List.getElem_map, List.getElem_range, List.getElem_take]
          have z : d + 1 - lim = 0 := by omega
          simp only [z, Nat.zero_add, Nat.sub_self]
          split
          · rfl
          · have : i = d := by omega
            subst this
            simp
        · have m1 : min d lim = lim := by omega
          have m2 : min (d + 1) lim = lim := by omega
          rw [m2] at h2
          simp only [m1, m2]
          rw [List.getElem_append]
          simp only [List.length_map, List.length_range, List.getElem_map, List.getElem_range, List.getElem_take]
          split
          · congr 1
            omega
          · have : i + 1 = lim := by omega
            congr 1
            omega
    · unfold upsP upP rowsK
      rw [e2, e1]
      have hr1 : r - 1 + 1 = r := by omega
      apply List.ext_getElem
      · simp
        omega
      · intro i h1 h2
        simp only [List.length_map, List.length_range] at h2
        simp only [hr1, Nat.zero_add, List.take_zero, List.nil_append]
        rw [List.getElem_append]
        simp only [List.length_take, List.length_drop, List.length_map, List.length_range, List.getElem_take, List.getElem_drop, List.getElem_map, List.getElem_range]
        split
        · congr 1
          omega
        · have hi : i + 1 = r := by omega
          rw [List.getElem_append_left (by simp; omega), List.getElem_replicate]
          rw [line_blank (by rw [← hk]; exact Nat.mul_le_mul_right c (by omega)) (by omega)]
          rfl
    · unfold scK ScP.setX ScP.setW
      simp only
      congr 2
      omega
  · rw [if_neg he]
    have har : a < r := by omega
    have e1 : a - r = 0 := by omega
    have e2 : a + 1 - r = 0 := by omega
    unfold MK
    simp only
    rw [MP.mk.injEq]
    refine ⟨?_, ?_, ?_⟩
    · unfold pastK
      rw [e1, e2]
    · unfold rowsK
      rw [e1, e2]
    · unfold scK ScP.setX ScP.setW ScP.setY
      simp only
      congr 2
      omega
theorem room_not {c r lim : Nat} {l : List Int} {k a : Nat} {x la : Int} (y b : Nat) : roomP c lim (MK c r lim l k a x false la) y b = MK c r lim l k a x false la := by
  unfold roomP
  rw [if_neg (by simp [MK, scK])]
  rfl
/-- How many lines k runes begin; where the place is. -/
def begun (c k : Nat) : Nat := (k - 1) / c + 1
def waitK (c k : Nat) : Bool := decide (0 < k ∧ k % c = 0)
def placeK (c k : Nat) : Int := if 0 < k ∧ k % c = 0 then (c : Int) - 1 else ((k % c : Nat) : Int)
def lastK (l : List Int) (k : Nat) : Int := if k = 0 then 0 else l.getD (k - 1) 0
def stateK (c r lim : Nat) (l : List Int) (k : Nat) : MP := MK c r lim l k (begun c k) (placeK c k) (waitK c k) (lastK l k)
theorem begun_pos (c k : Nat) : 1 ≤ begun c k := Nat.le_add_left 1 _
theorem begun_next {c k : Nat} (hc : 1 ≤ c) : begun c (k + 1) = (if 0 < k ∧ k % c = 0 then begun c k + 1 else begun c k) ∧ (begun c (k + 1) - 1) * c + k % c = k := by
  unfold begun
  have hdm := Nat.div_add_mod k c
  refine ⟨?_, by rw [Nat.add_sub_cancel, Nat.add_sub_cancel, Nat.mul_comm]; exact hdm⟩
  rw [Nat.add_sub_cancel]
  have hlt := Nat.mod_lt k (show c > 0 by omega)
  split
  · rename_i h
    have h1 : k = c * (k / c) := by omega
    have hq : 1 ≤ k / c := by
      rcases Nat.eq_zero_or_pos (k / c) with z | z
      · rw [z] at h1; omega
      · exact z
    obtain ⟨q, hq2⟩ : ∃ q, k / c = q + 1 := ⟨k / c - 1, by omega⟩
    rw [hq2] at h1 ⊢
    have h2 : k - 1 = c * q + (c - 1) := by rw [h1, Nat.mul_add]; omega
    rw [h2, Nat.mul_add_div (by omega), Nat.div_eq_of_lt (by omega)]
  · rename_i h
    rcases Nat.eq_zero_or_pos k with rfl | hk
    · rfl
    · have hm : k % c ≠ 0 := fun e => h ⟨hk, e⟩
      have h2 : k - 1 = c * (k / c) + (k % c - 1) := by omega
      have h3 : (k - 1) / c = k / c := by
        generalize k / c = q at *
        rw [h2, Nat.mul_add_div (by omega), Nat.div_eq_of_lt (by omega), Nat.add_zero]
      rw [h3]
theorem state_next {c r lim : Nat} {l : List Int} {k : Nat} (hc : 1 ≤ c) (hr : 1 ≤ r) (hkl : k < l.length) (hw : width l[k] = 1) : inkP c lim (r - 1) (stateK c r lim l k) l[k] = stateK c r lim l (k + 1) := by
  obtain ⟨hn, hp⟩ := begun_next (k := k) hc
  have hlt := Nat.mod_lt k (show c > 0 by omega)
  have hroom : roomP c lim (stateK c r lim l k) (stateK c r lim l k).S.now.y.toNat (r - 1) = MK c r lim l k (begun c (k + 1)) ((k % c : Nat) : Int) false (lastK l k) := by
    rw [show (stateK c r lim l k).S.now.y.toNat = begun c k - 1 - (begun c k - r) from rfl]
    unfold stateK
    by_cases h : 0 < k ∧ k % c = 0
    · rw [if_pos h] at hn
      rw [show waitK c k = true from decide_eq_true h, room_wait (begun_pos c _) hr, hn, h.2]
      · rfl
      · rw [hn, h.2] at hp
        simpa using hp
    · rw [if_neg h] at hn
      rw [show waitK c k = false from decide_eq_false h, room_not, hn]
      unfold placeK
      rw [if_neg h]
  unfold inkP
  rw [hroom]
  rw [show (MK c r lim l k (begun c (k + 1)) ((k % c : Nat) : Int) false (lastK l k)).S.now.x.toNat = k % c from rfl,
    show (MK c r lim l k (begun c (k + 1)) ((k % c : Nat) : Int) false (lastK l k)).S.now.y.toNat = begun c (k + 1) - 1 - (begun c (k + 1) - r) from rfl,
    laid_K (begun_pos c _) hr hlt hp hkl hw]
  unfold stateK
  have e1 : (if c ≤ k % c + 1 then (c : Int) - 1 else ((k % c : Nat) : Int) + 1) = placeK c (k + 1) := by
    unfold placeK
    by_cases hg : c ≤ k % c + 1
    · have : (k + 1) % c = 0 := by
        rw [Nat.add_mod]
        rcases Nat.lt_or_ge 1 c with h1 | h1
        · rw [Nat.mod_eq_of_lt h1, show k % c + 1 = c by omega, Nat.mod_self]
        · have : c = 1 := by omega
          subst this
          exact Nat.mod_one _
      rw [if_pos hg, if_pos ⟨by omega, this⟩]
    · have : (k + 1) % c = k % c + 1 := by
        rw [Nat.add_mod, Nat.mod_eq_of_lt (show 1 < c by omega), Nat.mod_eq_of_lt (by omega)]
      rw [if_neg hg, if_neg (by omega), this]
      omega
  have e2 : decide (c ≤ k % c + 1) = waitK c (k + 1) := by
    unfold waitK
    by_cases hg : c ≤ k % c + 1
    · have : (k + 1) % c = 0 := by
        rw [Nat.add_mod]
        rcases Nat.lt_or_ge 1 c with h1 | h1
        · rw [Nat.mod_eq_of_lt h1, show k % c + 1 = c by omega, Nat.mod_self]
        · have : c = 1 := by omega
          subst this
          exact Nat.mod_one _
      rw [decide_eq_true hg, decide_eq_true ⟨by omega, this⟩]
    · have : (k + 1) % c = k % c + 1 := by
        rw [Nat.add_mod, Nat.mod_eq_of_lt (show 1 < c by omega), Nat.mod_eq_of_lt (by omega)]
      rw [decide_eq_false hg, decide_eq_false (by omega)]
  have e3 : l[k] = lastK l (k + 1) := by
    unfold lastK
    rw [if_neg (by omega), Nat.add_sub_cancel, getD_nth hkl _]
  rw [e1, e2, ← e3]
theorem state_none {c r lim : Nat} (l : List Int) (hr : 1 ≤ r) : stateK c r lim l 0 = ⟨[], List.replicate r (plainR c), newP r⟩ := by
  have hb : begun c 0 = 1 := by unfold begun; rw [Nat.zero_sub, Nat.zero_div]
  unfold stateK MK
  rw [MP.mk.injEq, hb]
  refine ⟨?_, ?_, ?_⟩
  · unfold pastK
    rw [show 1 - r = 0 by omega]
    simp
  · unfold rowsK
    apply List.ext_getElem
    · simp
    · intro i h1 h2
      simp only [List.getElem_map, List.getElem_range, List.getElem_replicate]
      exact line_blank (Nat.zero_le _) (by omega)
  · have hz : waitK c 0 = false := by unfold waitK; simp
    have hp : placeK c 0 = 0 := by unfold placeK; simp
    rw [hz, hp, show 1 - 1 - (1 - r) = 0 by omega]
    rfl
theorem state_all {c r lim : Nat} (l : List Int) (hc : 1 ≤ c) (hr : 1 ≤ r) (hw : ∀ x ∈ l, width x = 1) : ∀ k, k ≤ l.length → inkAll c lim (r - 1) ⟨[], List.replicate r (plainR c), newP r⟩ (l.take k) = stateK c r lim l k := by
  intro k
  induction k with
  | zero => intro _; rw [state_none l hr]; rfl
  | succ k ih =>
    intro hk
    rw [← inkAll_succ c lim (r - 1) _ l k (by omega), ih (by omega)]
    exact state_next hc hr (by omega) (hw _ (List.getElem_mem _))
/-- Behind all runes. -/
theorem state_end {c r lim : Nat} (l : List Int) (hc : 1 ≤ c) (hr : 1 ≤ r) (hw : ∀ x ∈ l, width x = 1) : inkAll c lim (r - 1) ⟨[], List.replicate r (plainR c), newP r⟩ l = stateK c r lim l l.length := by
  have := state_all (lim := lim) l hc hr hw l.length (Nat.le_refl _)
  rwa [List.take_length] at this
end Go.Proofs.YtjklnnklgkihlaaGreatDoor.Scr
