/- Layer 3 in plain words: the items of a text, and that strings.FieldsFunc finds them. -/
import Derived.Test.YtajnlbfhcbkopaaDoorSpd
import Derived.Lib.TrimUEq
import Derived.Lib.TrimU
import Derived.Lib.FieldsP
import Derived.Lib.IndexBytes
namespace Go.Proofs.YtajnlbfhcbkopaaDoor.Sty
open Go.Lib

def sepB (b : UInt8) : Bool := b.toNat == 44 || b.toNat == 32
def itemsFrom : Tx → Tx → List Tx
  | cur, [] => if cur = [] then [] else [cur]
  | cur, b :: r => if sepB b = true then (if cur = [] then itemsFrom [] r else cur :: itemsFrom [] r) else itemsFrom (cur ++ [b]) r
/-- The items of a text: what stands between commas and blanks, what is empty left out. -/
def items (l : Tx) : List Tx := itemsFrom [] l

theorem items_plain : ∀ (k : Nat) (cur l : Tx), k ≤ l.length → (∀ b ∈ l.take k, sepB b = false) → itemsFrom cur l = itemsFrom (cur ++ l.take k) (l.drop k)
  | 0, cur, l, _, _ => by simp
  | k + 1, cur, [], h, _ => by simp at h
  | k + 1, cur, b :: l, h, hs => by
    have hb : sepB b = false := hs b (by simp)
    rw [itemsFrom, if_neg (by rw [hb]; decide)]
    rw [items_plain k (cur ++ [b]) l (by simpa using h) (fun c hc => hs c (by simp [hc]))]
    simp

theorem decN (n b0 b1 b2 b3 : Nat) : (b0 < 128 ∧ decodeN n b0 b1 b2 b3 = (b0, 1)) ∨ (128 ≤ b0 ∧ 128 ≤ (decodeN n b0 b1 b2 b3).1 ∧ (2 ≤ (decodeN n b0 b1 b2 b3).2 → b1 / 64 = 2) ∧ (3 ≤ (decodeN n b0 b1 b2 b3).2 → b2 / 64 = 2) ∧ (4 ≤ (decodeN n b0 b1 b2 b3).2 → b3 / 64 = 2) ∧ (decodeN n b0 b1 b2 b3).2 ≤ 4) := by
  by_cases h : b0 < 128
  · exact .inl ⟨h, decodeN_ascii n b0 b1 b2 b3 h⟩
  · right
    unfold decodeN
    rw [if_neg h]
    repeat' split
    all_goals (refine ⟨?_, ?_, ?_, ?_, ?_, ?_⟩ <;> (try simp only) <;> omega)
/-- A rune's bytes, and whether it stands between items. -/
theorem rune_sep (l : Tx) (pos : Nat) (hp : pos < l.length) :
    1 ≤ (Utf8.decode (bs l) pos).2 ∧ pos + (Utf8.decode (bs l) pos).2 ≤ l.length ∧
    (((Utf8.decode (bs l) pos).1 = 44 ∨ (Utf8.decode (bs l) pos).1 = 32) → (Utf8.decode (bs l) pos).2 = 1 ∧ sepB l[pos] = true) ∧
    (¬ ((Utf8.decode (bs l) pos).1 = 44 ∨ (Utf8.decode (bs l) pos).1 = 32) → ∀ b ∈ (l.drop pos).take (Utf8.decode (bs l) pos).2, sepB b = false) := by
  have hle : (Utf8.decode (bs l) pos).2 ≤ l.length - pos := by
    rw [decode_N, bs_list]
    exact decodeN_le_n' _ _ _ _ _ (by omega)
  refine ⟨width_pos _ _, by omega, ?_, ?_⟩
  · intro h
    rw [decode_N, bs_list] at h ⊢
    rcases decN (l.length - pos) (l.getD pos 0).toNat (l.getD (pos + 1) 0).toNat (l.getD (pos + 2) 0).toNat (l.getD (pos + 3) 0).toNat with ⟨_, e⟩ | ⟨_, h2, _⟩
    · rw [e] at h ⊢
      refine ⟨rfl, ?_⟩
      unfold sepB
      have e2 : l.getD pos 0 = l[pos] := by simp [hp]
      rw [e2] at h
      simpa using h
    · omega
  · intro h b hb
    obtain ⟨j, hj, rfl⟩ := List.getElem_of_mem hb
    rw [List.length_take, List.length_drop] at hj
    have e1 : ((l.drop pos).take (Utf8.decode (bs l) pos).2)[j] = l.getD (pos + j) 0 := by
      rw [List.getElem_take, List.getElem_drop]
      simp [show pos + j < l.length by omega]
    rw [e1]
    have hk : j < (Utf8.decode (bs l) pos).2 := by omega
    rw [decode_N, bs_list] at h hk
    have key : (l.getD (pos + j) 0).toNat ≠ 44 ∧ (l.getD (pos + j) 0).toNat ≠ 32 := by
      rcases decN (l.length - pos) (l.getD pos 0).toNat (l.getD (pos + 1) 0).toNat (l.getD (pos + 2) 0).toNat (l.getD (pos + 3) 0).toNat with ⟨_, e⟩ | ⟨h1, h2, h3, h4, h5, h6⟩
      · rw [e] at h hk
        have hj0 : j = 0 := by simp at hk; omega
        subst hj0
        rw [Nat.add_zero]
        exact ⟨fun e => h (.inl e), fun e => h (.inr e)⟩
      · have hj4 : j = 0 ∨ j = 1 ∨ j = 2 ∨ j = 3 := by omega
        rcases hj4 with rfl | rfl | rfl | rfl
        · rw [Nat.add_zero]; omega
        · have := h3 (by omega); omega
        · have := h4 (by omega); omega
        · have := h5 (by omega); omega
    obtain ⟨k1, k2⟩ := key
    unfold sepB
    generalize l.getD (pos + j) 0 = c at *
    simp [k1, k2]

def isSepR (r : Nat) : Bool := r == 44 || r == 32
theorem isSepR_iff (r : Nat) : isSepR r = true ↔ (r = 44 ∨ r = 32) := by unfold isSepR; simp
theorem cut_ext (l : Tx) (a b : Nat) : (bs l).extract a b = bs ((l.take b).drop a) := by
  have h1 : ((bs l).extract a b).data.toList = (l.take b).drop a := by
    rw [ByteArray.data_extract]
    have : (bs l).data = l.toArray := rfl
    rw [this, List.extract_toArray, List.extract_eq_take_drop]
    simp only [List.drop_take]
  rw [bs_of ((bs l).extract a b), h1]
theorem fields_from (l : Tx) : ∀ (f pos : Nat) (st : Option Nat) (acc : List (Nat × Nat)) (cur : Tx), l.length - pos ≤ f → pos ≤ l.length →
    (match st with | none => cur = [] | some a => a < pos ∧ cur = (l.take pos).drop a) →
    (closeSpans (bs l) (spansFromP isSepR (bs l) f pos st acc)).map (fun x => (bs l).extract x.1 x.2) = acc.map (fun x => (bs l).extract x.1 x.2) ++ (itemsFrom cur (l.drop pos)).map bs := by
  intro f
  induction f with
  | zero =>
    intro pos st acc cur hf hp hst
    have hpe : pos = l.length := by omega
    subst hpe
    rw [List.drop_length]
    cases st with
    | none =>
      simp only at hst
      subst hst
      simp [spansFromP, closeSpans, itemsFrom]
    | some a =>
      simp only at hst
      obtain ⟨ha, hc⟩ := hst
      have hne : cur ≠ [] := by
        intro e
        have := congrArg List.length (hc.symm.trans e)
        simp at this
        omega
      simp only [spansFromP, closeSpans, itemsFrom, if_neg hne, List.map_append, List.map_cons, List.map_nil]
      rw [bs_size, cut_ext l a l.length, hc]
  | succ f ih =>
    intro pos st acc cur hf hp hst
    by_cases hlt : pos < l.length
    · obtain ⟨h1, h2, h3, h4⟩ := rune_sep l pos hlt
      have hsz : pos < (bs l).size := by rw [bs_size]; exact hlt
      have hd := List.drop_eq_getElem_cons hlt
      unfold spansFromP
      rw [if_pos hsz]
      by_cases hs : (Utf8.decode (bs l) pos).1 = 44 ∨ (Utf8.decode (bs l) pos).1 = 32
      · obtain ⟨hk, hb⟩ := h3 hs
        rw [if_pos ((isSepR_iff _).2 hs), hk]
        cases st with
        | none =>
          simp only at hst ⊢
          subst hst
          rw [ih (pos + 1) none acc [] (by omega) (by omega) rfl, hd]
          conv => rhs; rw [itemsFrom, if_pos hb, if_pos rfl]
        | some a =>
          simp only at hst ⊢
          obtain ⟨ha, hc⟩ := hst
          have hne : cur ≠ [] := by
            intro e
            have := congrArg List.length (hc.symm.trans e)
            simp at this
            omega
          rw [ih (pos + 1) none (acc ++ [(a, pos)]) [] (by omega) (by omega) rfl, hd]
          conv => rhs; rw [itemsFrom, if_pos hb, if_neg hne]
          rw [List.map_append, List.append_assoc, List.map_cons, List.map_nil, cut_ext l a pos, ← hc]
          rfl
      · rw [if_neg (fun e => hs ((isSepR_iff _).1 e))]
        have hpl := items_plain (Utf8.decode (bs l) pos).2 cur (l.drop pos) (by rw [List.length_drop]; omega) (h4 hs)
        rw [List.drop_drop] at hpl
        cases st with
        | none =>
          simp only at hst ⊢
          subst hst
          rw [hpl, List.nil_append]
          refine ih _ (some pos) acc _ (by omega) (by omega) ⟨by omega, ?_⟩
          rw [List.take_add, List.drop_append_of_le_length (by rw [List.length_take]; omega), List.drop_of_length_le (List.length_take_le _ _), List.nil_append]
        | some a =>
          simp only at hst ⊢
          obtain ⟨ha, hc⟩ := hst
          rw [hpl]
          refine ih _ (some a) acc _ (by omega) (by omega) ⟨by omega, ?_⟩
          rw [List.take_add, List.drop_append_of_le_length (by rw [List.length_take]; omega), ← hc]
    · have hpe : pos = l.length := by omega
      subst hpe
      rw [spansFromP_end _ _ _ _ _ _ (by rw [bs_size]; omega)]
      have := ih l.length st acc cur (by omega) hp hst
      rw [spansFromP_end _ _ _ _ _ _ (by rw [bs_size]; omega)] at this
      exact this
theorem fields_eq (l : Tx) : goFieldsP isSepR (bs l) = (items l).map bs := by
  unfold goFieldsP spansOfP items
  have := fields_from l (bs l).size 0 none [] [] (by rw [bs_size]; omega) (Nat.zero_le _) rfl
  simpa using this
end Go.Proofs.YtajnlbfhcbkopaaDoor.Sty
