/- The chapter's Item walked. -/
import Derived.Test.YtgnlfikkmomghaaGreatDoorOri
namespace Go.Proofs.YtgnlfikkmomghaaGreatDoor.Opt
open Go.RowKit

def Digs (l : Tx) (m : Nat) : Prop := ∀ j (h : j < l.length), m ≤ j → j + 1 < l.length → digU l[j] = true
theorem digU_91 : digU 91 = false := by decide
/-- Where the bracket stands. -/
theorem item_at {l a d : Tx} {k : Nat} (h : l = a ++ 91 :: (d ++ [93])) (hd : d.all digU = true) (hk : k + 1 < l.length) (hD : Digs l (k + 1)) (hn : digU (l[k]'(by omega)) = false) : a.length = k ∧ d = (l.take (l.length - 1)).drop (k + 1) := by
  have hlen : l.length = a.length + d.length + 2 := by rw [h]; simp; omega
  have hp : ∀ (hh : a.length < l.length), l[a.length] = 91 := by subst h; intro hh; simp
  have hda : ∀ (j : Nat) (hh : a.length + 1 + j < l.length) (hj : j < d.length), l[a.length + 1 + j] = d[j] := by
    intro j hh hj
    subst h
    rw [List.getElem_append_right (by omega)]
    have e : a.length + 1 + j - a.length = j + 1 := by omega
    simp only [e, List.getElem_cons_succ]
    rw [List.getElem_append_left hj]
  have hka : a.length = k := by
    rcases Nat.lt_trichotomy a.length k with hlt | he | hgt
    · have h2 := hda (k - a.length - 1) (by omega) (by omega)
      have e : a.length + 1 + (k - a.length - 1) = k := by omega
      simp only [e] at h2
      rw [h2, List.all_eq_true.1 hd _ (List.getElem_mem _)] at hn
      cases hn
    · exact he
    · have h2 := hD a.length (by omega) (by omega) (by omega)
      rw [hp, digU_91] at h2
      cases h2
  refine ⟨hka, ?_⟩
  subst hka
  have e1 : l.length - 1 = a.length + (1 + d.length) := by omega
  rw [e1]
  subst h
  rw [List.take_length_add_append, List.drop_length_add_append, Nat.add_comm 1, List.take_succ_cons]
  simp
theorem parts_of {l : Tx} {k : Nat} (hk : k + 1 < l.length) (h91 : l[k]'(by omega) = 91) (h93 : l[l.length - 1]'(by omega) = 93) : l = l.take k ++ 91 :: ((l.take (l.length - 1)).drop (k + 1) ++ [93]) := by
  have e1 : l = l.take (l.length - 1) ++ [93] := by
    conv => lhs; rw [← List.take_append_drop (l.length - 1) l]
    congr 1
    rw [List.drop_eq_getElem_cons (by omega), h93]
    congr 1
    rw [List.drop_eq_nil_iff]
    omega
  have e2 : l.take (l.length - 1) = l.take k ++ 91 :: (l.take (l.length - 1)).drop (k + 1) := by
    conv => lhs; rw [← List.take_append_drop k (l.take (l.length - 1))]
    rw [List.take_take, Nat.min_eq_left (by omega)]
    congr 1
    rw [List.drop_eq_getElem_cons (by rw [List.length_take]; omega), List.getElem_take, h91]
  conv => lhs; rw [e1, e2]
  simp
theorem digs_all {l : Tx} {k : Nat} (hD : Digs l (k + 1)) : ((l.take (l.length - 1)).drop (k + 1)).all digU = true := by
  rw [List.all_eq_true]
  intro x hx
  obtain ⟨j, hj, rfl⟩ := List.mem_iff_getElem.1 hx
  rw [List.length_drop, List.length_take] at hj
  rw [List.getElem_drop, List.getElem_take]
  exact hD _ (by omega) (by omega) (by omega)
theorem no_short {l : Tx} (h : l.length < 3) : ItemOk l (l, -1) := .inr ⟨rfl, fun a n h0 h1 he => by
  obtain ⟨d, hd, hn, -⟩ := item_form h0 h1 he
  have := congrArg List.length hd
  unfold numD at hn
  simp only [Bool.and_eq_true, decide_eq_true_eq] at hn
  have := hn.2.1
  simp at *
  omega⟩
theorem no_last {l : Tx} (h : 3 ≤ l.length) (hb : l[l.length - 1]'(by omega) ≠ 93) : ItemOk l (l, -1) := .inr ⟨rfl, fun a n h0 h1 he => by
  obtain ⟨d, hd, hn, -⟩ := item_form h0 h1 he
  apply hb
  have e : l = (a ++ 91 :: d) ++ [93] := by rw [hd]; simp
  have hl : l.length - 1 = (a ++ 91 :: d).length := by
    have := congrArg List.length e
    rw [List.length_append] at this
    rw [this]; rfl
  have h3 : ∀ k (hk : k < l.length), k = (a ++ 91 :: d).length → l[k] = 93 := by
    intro k hk hke
    subst hke
    have h4 : l[(a ++ 91 :: d).length]? = some 93 := by
      conv => lhs; rw [e]
      rw [List.getElem?_append_right (Nat.le_refl _)]; simp
    rw [List.getElem?_eq_getElem hk] at h4
    exact Option.some.inj h4
  exact h3 _ (by omega) hl⟩
theorem no_all {l : Tx} (hD : Digs l 0) : ItemOk l (l, -1) := .inr ⟨rfl, fun a n h0 h1 he => by
  obtain ⟨d, hd, hn, -⟩ := item_form h0 h1 he
  have hlen : l.length = a.length + d.length + 2 := by rw [hd]; simp; omega
  have hp : ∀ (hh : a.length < l.length), l[a.length] = 91 := by subst hd; intro hh; simp
  have h2 := hD a.length (by omega) (by omega) (by omega)
  rw [hp, digU_91] at h2
  cases h2⟩
theorem no_num {l : Tx} {k : Nat} (hk : k + 1 < l.length) (hD : Digs l (k + 1)) (hn : digU (l[k]'(by omega)) = false) (hno : l[k]'(by omega) ≠ 91 ∨ numD ((l.take (l.length - 1)).drop (k + 1)) = false) : ItemOk l (l, -1) := .inr ⟨rfl, fun a n h0 h1 he => by
  obtain ⟨d, hd, hnn, -⟩ := item_form h0 h1 he
  have hda : d.all digU = true := by
    have := hnn
    unfold numD at this
    simp only [Bool.and_eq_true] at this
    exact this.1
  obtain ⟨e1, e2⟩ := item_at hd hda hk hD hn
  rcases hno with h | h
  · have hp : ∀ (hh : a.length < l.length), l[a.length] = 91 := by subst hd; intro hh; simp
    subst e1
    exact h (hp _)
  · rw [← e2, hnn] at h
    cases h⟩
theorem yes_num {l : Tx} {k : Nat} (hk : k + 1 < l.length) (h91 : l[k]'(by omega) = 91) (h93 : l[l.length - 1]'(by omega) = 93) (hd : numD ((l.take (l.length - 1)).drop (k + 1)) = true) : ItemOk l (l.take k, valD ((l.take (l.length - 1)).drop (k + 1))) :=
  .inl (item_of (parts_of hk h91 h93) hd)
theorem valD_next (d : Tx) (k : Nat) (h : k < d.length) : valD (d.take (k + 1)) = 10 * valD (d.take k) + ((d[k].toNat : Int) - 48) := by
  unfold valD
  rw [List.take_succ_eq_append_getElem h, List.foldl_append]
  rfl
theorem valD_small (d : Tx) (h : d.all digU = true) (hl : d.length ≤ 3) : 0 ≤ valD d ∧ valD d < 1000 := by
  match d, h, hl with
  | [], _, _ => exact ⟨by decide, by decide⟩
  | [x], ha, _ =>
    simp only [List.all_cons, Bool.and_eq_true] at ha
    have hx := digU_val ha.1
    constructor <;> simp only [valD, List.foldl] <;> omega
  | [x, y], ha, _ =>
    simp only [List.all_cons, Bool.and_eq_true] at ha
    have hx := digU_val ha.1
    have hy := digU_val ha.2.1
    constructor <;> simp only [valD, List.foldl] <;> omega
  | [x, y, z], ha, _ =>
    simp only [List.all_cons, Bool.and_eq_true] at ha
    have hx := digU_val ha.1
    have hy := digU_val ha.2.1
    have hz := digU_val ha.2.2.1
    constructor <;> simp only [valD, List.foldl] <;> omega
  | _ :: _ :: _ :: _ :: _, _, h3 => simp at h3
theorem all_take {d : Tx} (h : d.all digU = true) (k : Nat) : (d.take k).all digU = true := by
  rw [List.all_eq_true] at h ⊢
  exact fun x hx => h x (List.mem_of_mem_take hx)
end Go.Proofs.YtgnlfikkmomghaaGreatDoor.Opt
