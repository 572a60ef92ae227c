/- The chapter's answer is the program's: users' names, items. -/
import Derived.Test.YtgnlfikkmomghaaGreatDoorOrj
import Derived.Test.YtgnlfikkmomghaaGreatDoorOkn
import Derived.Test.YtgnlfikkmomghaaGreatDoorOrt
namespace Go.Proofs.YtgnlfikkmomghaaGreatDoor.Opt
open Go.RowKit

/-! ### A user option's name -/
theorem okC_eq : ∀ n : Fin 256, okC (UInt8.ofNat n.val) = nameCs.contains (UInt8.ofNat n.val) := by decide +kernel
theorem okC_cs (b : UInt8) : okC b = nameCs.contains b := by
  have := okC_eq ⟨b.toNat, UInt8.toNat_lt _⟩
  simpa using this
theorem dropWhile_nil {α : Type} (p : α → Bool) (l : List α) : (l.dropWhile p).isEmpty = l.all p := by
  induction l with
  | nil => rfl
  | cons a r ih =>
    rw [List.dropWhile_cons, List.all_cons]
    cases p a with
    | true => rw [if_pos rfl, ih]; rfl
    | false => rw [if_neg (by simp)]; rfl
theorem trimS_nil (l cs : Tx) : (Lib.trimS l cs).isEmpty = l.all (cs.contains ·) := by
  unfold Lib.trimS Lib.trimLeftS
  rw [dropWhile_nil]
  unfold Lib.trimRightS
  rw [List.all_reverse]
  generalize hr : l.reverse = r
  have hl : l.all (cs.contains ·) = r.all (cs.contains ·) := by rw [← hr, List.all_reverse]
  rw [hl]
  clear hr hl
  induction r with
  | nil => rfl
  | cons a r ih =>
    rw [List.dropWhile_cons, List.all_cons]
    cases hb : cs.contains a with
    | true => rw [if_pos rfl, ih]; rfl
    | false => rw [if_neg (by simp), List.all_cons, hb]
theorem user_eq (l : Tx) : userR l = userP l := by
  unfold userR userP
  cases l with
  | nil => rfl
  | cons c r =>
    have hp : Lib.hasPrefix (c :: r) [64] = ((c.toNat : Int) == 64) := by
      unfold Lib.hasPrefix
      simp only [List.isPrefixOf, Bool.and_true]
      rw [Bool.eq_iff_iff]
      simp only [beq_iff_eq]
      constructor
      · rintro rfl; rfl
      · intro h
        exact (UInt8.toNat_inj.1 (by exact_mod_cast h)).symm
    have hc : r.all okC = r.all (nameCs.contains ·) := by
      congr 1
      funext b
      exact okC_cs b
    cases h64 : ((c.toNat : Int) == 64) with
    | false => rw [hp, h64]; simp [h64]
    | true =>
      rw [h64] at hp
      have ht : Lib.trimPrefix (c :: r) [64] = r := by unfold Lib.trimPrefix; rw [if_pos hp]; rfl
      rw [hp, ht, trimS_nil, ← hc]
      have : ((List.headD (c :: r) 0).toNat : Int) == 64 := h64
      rw [this]
      cases r with
      | nil => rfl
      | cons d r => simp
theorem user_91 {l : Tx} (h : (91 : UInt8) ∈ l) : userR l = false := by
  cases hu : userR l with
  | false => rfl
  | true =>
    unfold userR at hu
    simp only [Bool.and_eq_true] at hu
    obtain ⟨-, -, h0, ha⟩ := hu
    cases l with
    | nil => cases h
    | cons c r =>
      rcases List.mem_cons.1 h with rfl | h
      · cases h0
      · exact absurd (List.all_eq_true.1 ha _ h) (by decide)

/-! ### An item -/
theorem digs_of {l a d : Tx} (h : l = a ++ 91 :: (d ++ [93])) (hd : d.all digU = true) : Digs l (a.length + 1) := by
  intro j hj h1 h2
  have hlen : l.length = a.length + d.length + 2 := by rw [h]; simp; omega
  subst h
  obtain ⟨m, rfl⟩ : ∃ m, j = a.length + 1 + m := ⟨j - a.length - 1, by omega⟩
  rw [List.getElem_append_right (by omega)]
  have e : a.length + 1 + m - a.length = m + 1 := by omega
  simp only [e, List.getElem_cons_succ]
  rw [List.getElem_append_left (by omega)]
  exact List.all_eq_true.1 hd _ (List.getElem_mem _)
theorem numD_all {d : Tx} (h : numD d = true) : d.all digU = true := by
  unfold numD at h
  simp only [Bool.and_eq_true] at h
  exact h.1
theorem item_uniq {l a a' : Tx} {n n' : Int} (h0 : 0 ≤ n) (h1 : n < 1000) (h : l = itemP a n) (h0' : 0 ≤ n') (h1' : n' < 1000) (h' : l = itemP a' n') : a = a' ∧ n = n' := by
  obtain ⟨d, hd, hn, hv⟩ := item_form h0 h1 h
  obtain ⟨d', hd', hn', hv'⟩ := item_form h0' h1' h'
  have hlen : l.length = a'.length + d'.length + 2 := by rw [hd']; simp; omega
  have hp : ∀ (hh : a'.length < l.length), l[a'.length] = 91 := by rw [hd']; intro hh; simp
  have hk : digU (l[a'.length]'(by omega)) = false := by rw [hp]; exact digU_91
  have hD := digs_of hd' (numD_all hn')
  obtain ⟨e1, e2⟩ := item_at hd (numD_all hn) (by have := hn'; unfold numD at this; simp only [Bool.and_eq_true, decide_eq_true_eq] at this; omega) hD hk
  obtain ⟨-, e3⟩ := item_at hd' (numD_all hn') (by have := hn'; unfold numD at this; simp only [Bool.and_eq_true, decide_eq_true_eq] at this; omega) hD hk
  refine ⟨?_, by rw [← hv, ← hv', e2, e3]⟩
  have h3 : a = l.take a.length := by rw [hd, List.take_left]
  have h4 : a' = l.take a'.length := by rw [hd', List.take_left]
  rw [h3, h4, e1]
theorem ItemOk.uniq {l : Tx} {r r' : Tx × Int} (h : ItemOk l r) (h' : ItemOk l r') : r = r' := by
  obtain ⟨a, n⟩ := r
  obtain ⟨a', n'⟩ := r'
  rcases h with ⟨h0, h1, h2⟩ | ⟨h0, h1⟩ <;> rcases h' with ⟨h0', h1', h2'⟩ | ⟨h0', h1'⟩
  · obtain ⟨rfl, rfl⟩ := item_uniq h0 h1 h2 h0' h1' h2'; rfl
  · exact absurd h2 (h1' _ _ h0 h1)
  · exact absurd h2' (h1 _ _ h0' h1')
  · rw [h0, h0']
theorem atoi_itoa : ∀ n : Fin 1000, atoiP (Lib.itoa ((n.val : Nat) : Int)) = (((n.val : Nat) : Int), false) := by decide +kernel
theorem itoa_no93 : ∀ n : Fin 1000, (Lib.itoa ((n.val : Nat) : Int) ++ [93]).take ((Lib.itoa ((n.val : Nat) : Int)).length) = Lib.itoa ((n.val : Nat) : Int) := fun n => by rw [List.take_left]
theorem indexByte_at (a r : Tx) (h : (91 : UInt8) ∉ a) : Lib.indexByte (a ++ 91 :: r) 91 = (a.length : Int) := by
  induction a with
  | nil => rfl
  | cons c a ih =>
    rw [List.mem_cons, not_or] at h
    have ih := ih h.2
    have hc : (c == 91) = false := beq_eq_false_iff_ne.2 (fun e => h.1 e.symm)
    rw [List.cons_append, Lib.indexByte, hc, ih]
    have : ((a.length : Int) == -1) = false := beq_eq_false_iff_ne.2 (by omega)
    rw [this]
    simp
theorem cutP_at (a r : Tx) (h : (91 : UInt8) ∉ a) : cutP (a ++ 91 :: r) = (a, r, true) := by
  unfold cutP
  rw [indexByte_at a r h, if_pos (by omega)]
  simp
theorem trimSuffix_at (d : Tx) : Lib.trimSuffix (d ++ [93]) [93] = d := by
  unfold Lib.trimSuffix Lib.hasSuffix
  rw [if_pos (by rw [List.isSuffixOf_iff_suffix]; exact List.suffix_append _ _)]
  simp
/-- The program's: an item whose front holds no bracket. -/
theorem cutItem_yes {a : Tx} {n : Int} (h0 : 0 ≤ n) (h1 : n < 1000) (h : (91 : UInt8) ∉ a) : cutItemP (itemP a n) = (a, n) := by
  obtain ⟨m, rfl⟩ := Int.eq_ofNat_of_zero_le h0
  have e : itemP a m = a ++ 91 :: (Lib.itoa m ++ [93]) := by simp [itemP]
  have hc := cutP_at a (Lib.itoa m ++ [93]) h
  have ha := atoi_itoa ⟨m, by omega⟩
  unfold cutItemP
  rw [e, hc]
  simp only [trimSuffix_at]
  rw [ha, if_neg]
  simp only [Bool.false_eq_true, false_or, not_or]
  exact ⟨by omega, by omega, by rw [e]; simp⟩
theorem cutItem_cases (l : Tx) : cutItemP l = (l, -1) ∨ ItemOk l (cutItemP l) := by
  unfold cutItemP
  split
  · exact .inl rfl
  · rename_i h
    simp only [not_or, Decidable.not_not] at h
    exact .inr (.inl ⟨by omega, by omega, h.2.2.2⟩)
theorem cutItem_rel {l : Tx} {r : Tx × Int} (h : ItemOk l r) : cutItemP l = r ∨ (cutItemP l = (l, -1) ∧ (91 : UInt8) ∈ r.1 ∧ 0 ≤ r.2 ∧ r.2 < 1000 ∧ l = itemP r.1 r.2) := by
  rcases cutItem_cases l with h1 | h1
  · rcases h with ⟨h2, h3, h4⟩ | ⟨h2, -⟩
    · by_cases h5 : (91 : UInt8) ∈ r.1
      · exact .inr ⟨h1, h5, h2, h3, h4⟩
      · left
        have := cutItem_yes h2 h3 h5
        rw [h4]
        exact this
    · left; rw [h1, h2]
  · exact .inl (h1.uniq h)
end Go.Proofs.YtgnlfikkmomghaaGreatDoor.Opt
