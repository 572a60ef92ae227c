/- format in plain words: nothing gets longer than it may. -/
import Derived.Test.YtbiinghmopgjnaaGreatDoorFsq
namespace Go.Proofs.YtbiinghmopgjnaaGreatDoor.Fmt
open Go.RowKit

theorem outR_le (sign : UInt8) : ∀ (m : Nat) (s : Tx) (d : Int) (i k : Nat), s.length ≤ m → outR sign s d i = some k → i ≤ k ∧ k < i + s.length
  | _, [], _, _, _, _, h => by simp [outR] at h
  | 0, _ :: _, _, _, _, hm, _ => by simp at hm
  | m + 1, c :: r, d, i, k, hm, h => by
    simp only [List.length_cons] at hm
    unfold outR at h
    split at h
    · injection h with h; subst h; simp
    split at h
    · obtain ⟨h1, h2⟩ := outR_le sign m r _ _ _ (by omega) h
      simp only [List.length_cons]; omega
    · cases r with
      | nil => simp at h
      | cons e r' =>
        simp only [List.length_cons] at hm ⊢
        simp only at h
        split at h
        · obtain ⟨h1, h2⟩ := outR_le sign m _ _ _ _ (by simp; omega) h
          simp only [List.length_cons] at h2; omega
        split at h
        · obtain ⟨h1, h2⟩ := outR_le sign m _ _ _ _ (by omega) h
          omega
        · obtain ⟨h1, h2⟩ := outR_le sign m _ _ _ _ (by simp; omega) h
          simp only [List.length_cons] at h2; omega
theorem piecesP_len : ∀ (k : Nat) (s : Tx), 1 ≤ (piecesP k s).length ∧ (piecesP k s).length ≤ k + 1
  | 0, s => by simp [piecesP]
  | k + 1, s => by
    unfold piecesP
    cases h : outR 44 s 0 0 with
    | none => simp
    | some a =>
      have := piecesP_len k (s.drop (a + 1))
      simp only [List.length_cons]; omega
theorem piecesP_le : ∀ (k : Nat) (s : Tx), ∀ x ∈ piecesP k s, x.length ≤ s.length
  | 0, s => by simp [piecesP]
  | k + 1, s => by
    unfold piecesP
    cases h : outR 44 s 0 0 with
    | none => simp
    | some a =>
      intro x hx
      rcases List.mem_cons.1 hx with rfl | hx
      · simp; omega
      · have := piecesP_le k _ x hx
        simp at this; omega
/-- What an expander makes is short. -/
def Shrt (X : Ex) : Prop := ∀ en c d st t st', X en c d st = some (t, st') → c.length ≤ 8192 → t.length ≤ 8192
theorem valueF_le {en : Env} {s : Tx} {v : Option Tx} (h : valueF en s = some v) : (v.getD []).length ≤ 8192 := by
  unfold valueF at h
  cases en with
  | none => cases h
  | some ch =>
    simp only at h
    cases hf : findP ch s with
    | none => rw [hf] at h; injection h with h; subst h; simp
    | some x =>
      rw [hf] at h
      simp only at h
      split at h
      · injection h with h; subst h; simpa
      · cases h
theorem shortP_le (c : UInt8) : (shortP c).length ≤ 8192 := by
  unfold shortP
  repeat' split
  all_goals simp
theorem frontP_le {X : Ex} (hX : Shrt X) {en : Env} {s : Tx} {d st : Nat} {t : Tx} {n st' : Nat} (h : frontP X en s d st = some (t, n, st')) (hs : s ≠ []) (hl : s.length ≤ 8192) : t.length ≤ 8192 ∧ 1 ≤ n ∧ n ≤ s.length := by
  have h1 : 1 ≤ s.length := by cases s with
    | nil => exact absurd rfl hs
    | cons => simp
  unfold frontP at h
  split at h
  · simp only [Option.some.injEq, Prod.mk.injEq] at h; obtain ⟨rfl, rfl, rfl⟩ := h; omega
  split at h
  · rename_i h2 h3
    simp only [Option.some.injEq, Prod.mk.injEq] at h; obtain ⟨rfl, rfl, rfl⟩ := h
    obtain ⟨i, hi⟩ : ∃ i : Nat, Lib.indexByte s 35 = (i : Int) := ⟨_, (Int.toNat_of_nonneg (by omega)).symm⟩
    obtain ⟨hg, _⟩ := Lib.indexByte_some hi
    have hlt : i < s.length := (List.getElem?_eq_some_iff.1 hg).1
    rw [hi] at h3 ⊢
    simp only [Int.toNat_natCast, List.length_take]; omega
  · split at h
    · simp only [Option.some.injEq, Prod.mk.injEq] at h; obtain ⟨rfl, rfl, rfl⟩ := h; simp; omega
    · rename_i e r hd
      have hr : s.length = r.length + 2 := by have := congrArg List.length hd; simp at this; omega
      split at h
      · simp only [Option.some.injEq, Prod.mk.injEq] at h; obtain ⟨rfl, rfl, rfl⟩ := h; simp; omega
      split at h
      · split at h
        · cases h
        · rename_i k hk
          have hkl := (outR_le 125 _ _ _ _ _ (Nat.le_refl _) hk).2
          split at h
          · cases h
          · rename_i t1 st1 hx
            simp only [Option.some.injEq, Prod.mk.injEq] at h; obtain ⟨rfl, rfl, rfl⟩ := h
            exact ⟨hX _ _ _ _ _ _ hx (by simp; omega), by omega, by omega⟩
      split at h
      · simp only [Option.some.injEq, Prod.mk.injEq] at h; obtain ⟨rfl, rfl, rfl⟩ := h; simp; omega
      · split at h
        · cases h
        · rename_i v hv
          simp only [Option.some.injEq, Prod.mk.injEq] at h; obtain ⟨rfl, rfl, rfl⟩ := h
          exact ⟨valueF_le hv, by omega, by omega⟩
theorem expL_le (X : Ex) (en : Env) (d : Nat) : ∀ (k : Nat) (s : Tx) (st : Nat) (acc t : Tx) (st' : Nat), expL X en d k s st acc = some (t, st') → acc.length ≤ 8192 → t.length ≤ 8192
  | k, [], st, acc, t, st', h, ha => by
    have e : expL X en d k [] st acc = some (acc, st) := by cases k <;> rfl
    rw [e] at h
    simp only [Option.some.injEq, Prod.mk.injEq] at h; obtain ⟨rfl, rfl⟩ := h; exact ha
  | 0, _ :: _, _, _, _, _, h, _ => by simp [expL] at h
  | k + 1, c :: s, st, acc, t, st', h, ha => by
    unfold expL at h
    split at h
    · cases h
    · split at h
      · cases h
      · exact expL_le X en d k _ _ _ _ _ h (by simp; omega)
theorem expandP_le (X : Ex) : Shrt (expandP X) := fun en c d st t st' h _ => expL_le X en d _ _ _ _ _ _ h (by simp)
theorem namedP_le (X : Ex) : Shrt (namedP X) := by
  intro en c d st t st' h hc
  unfold namedP at h
  split at h
  · cases h
  · rename_i v hv
    simp only [Option.some.injEq, Prod.mk.injEq] at h; obtain ⟨rfl, rfl⟩ := h
    exact valueF_le hv
  · split at h
    · exact expandP_le X _ _ _ _ _ _ h hc
    · simp only [Option.some.injEq, Prod.mk.injEq] at h; obtain ⟨rfl, rfl⟩ := h; simp
theorem getD_le {l : List Tx} {n : Nat} (h : ∀ x ∈ l, x.length ≤ n) (i : Nat) : (l.getD i []).length ≤ n := by
  rw [List.getD_eq_getElem?_getD]
  cases hq : l[i]? with
  | none => simp
  | some x => simpa using h x (List.mem_of_getElem? hq)
theorem chooseP_le (X : Ex) : Shrt (chooseP X) := by
  intro en c d st t st' h hc
  unfold chooseP at h
  simp only at h
  split at h
  · cases h
  · refine expandP_le X _ _ _ _ _ _ h ?_
    have hm : ∀ x ∈ piecesP 2 c ++ [[], []], x.length ≤ 8192 := by
      intro x hx
      rcases List.mem_append.1 hx with hx | hx
      · have := piecesP_le 2 c x hx; omega
      · simp at hx; subst hx; simp
    split <;> exact getD_le hm _
theorem bit_le (b : Bool) : (bit b).length ≤ 8192 := by unfold bit; split <;> simp
theorem repL_le (X : Ex) (ch : List Lv) (l : List Tx) (d : Nat) : ∀ (vs : List Vs) (st : Nat) (acc t : Tx) (st' : Nat), repL X ch l d vs st acc = some (t, st') → acc.length ≤ 8192 → t.length ≤ 8192
  | [], st, acc, t, st', h, ha => by
    unfold repL at h
    simp only [Option.some.injEq, Prod.mk.injEq] at h; obtain ⟨rfl, rfl⟩ := h; exact ha
  | v :: r, st, acc, t, st', h, ha => by
    unfold repL at h
    split at h
    · split at h
      · cases h
      · split at h
        · cases h
        · split at h
          · cases h
          · exact repL_le X ch l d r _ _ _ _ h (by simp; omega)
    · cases h
theorem applyL_le : ∀ (l : List Md) (v x : Tx), applyL l v = some x → v.length ≤ 8192 → x.length ≤ 8192
  | [], v, x, h, hv => by
    unfold applyL at h
    injection h with h; subst h; exact hv
  | m :: r, v, x, h, hv => by
    unfold applyL at h
    split at h
    · cases h
    · split at h
      · exact applyL_le r _ _ h (by omega)
      · cases h
theorem firstP_le {s : Tx} {m : Md} {r : Tx} (h : firstP s = some (m, r)) : r.length < s.length := by
  unfold firstP at h
  split at h
  · cases h
  · split at h
    · split at h
      · split at h
        · simp only [Option.some.injEq, Prod.mk.injEq] at h; obtain ⟨_, rfl⟩ := h; simp
        · cases h
      · cases h
    split at h
    · split at h
      · rename_i hr; subst hr
        simp only [Option.some.injEq, Prod.mk.injEq] at h; obtain ⟨_, rfl⟩ := h; simp
      · cases h
    split at h
    · simp only [Option.some.injEq, Prod.mk.injEq] at h; obtain ⟨_, rfl⟩ := h; simp
    · cases h
theorem modsP_le : ∀ (k : Nat) (s : Tx) (l : List Md) (t : Tx), modsP k s = some (l, t) → t.length ≤ s.length
  | 0, _, _, _, h => by simp [modsP] at h
  | k + 1, s, l, t, h => by
    unfold modsP at h
    split at h
    · cases h
    · rename_i m r hf
      have := firstP_le hf
      split at h
      · cases h
      · simp only [List.length_cons] at this
        split at h
        · simp only [Option.some.injEq, Prod.mk.injEq] at h; obtain ⟨_, rfl⟩ := h; omega
        split at h
        · split at h
          · cases h
          · rename_i l2 t2 hm
            have := modsP_le k _ _ _ hm
            simp only [Option.some.injEq, Prod.mk.injEq] at h; obtain ⟨_, rfl⟩ := h; omega
        · cases h
theorem modifyP_le (X : Ex) : Shrt (modifyP X) := by
  intro en c d st t st' h hc
  unfold modifyP at h
  split at h
  · cases h
  · rename_i l t1 hm
    have htl := modsP_le _ _ _ _ hm
    split at h
    · cases h
    · split at h
      · cases h
      · rename_i v st1 hv
        have hvl : v.length ≤ 8192 := by
          split at hv
          · simp only [Option.some.injEq, Prod.mk.injEq] at hv; obtain ⟨rfl, _⟩ := hv; omega
          · exact namedP_le X _ _ _ _ _ _ hv (by omega)
        split at h
        · cases h
        · rename_i x hx
          simp only [Option.some.injEq, Prod.mk.injEq] at h; obtain ⟨rfl, _⟩ := h
          exact applyL_le _ _ _ hx hvl
theorem byKindP_le (X : Ex) : Shrt (byKindP X) := by
  intro en c d st t st' h hc
  unfold byKindP at h
  split at h
  · exact chooseP_le X _ _ _ _ _ _ h (by simp; omega)
  split at h
  · split at h
    · cases h
    · rename_i v hv
      simp only [Option.some.injEq, Prod.mk.injEq] at h; obtain ⟨rfl, _⟩ := h
      exact valueF_le hv
  · split at h
    · unfold compareP at h
      split at h
      · cases h
      · simp only [Option.some.injEq, Prod.mk.injEq] at h; obtain ⟨rfl, _⟩ := h
        exact bit_le _
    split at h
    · cases h
    split at h
    · unfold repeatP at h
      split at h
      · cases h
      · exact repL_le _ _ _ _ _ _ _ _ _ h (by simp)
    split at h
    · unfold reckP at h
      split at h
      · cases h
      · split at h
        · simp only [Option.some.injEq, Prod.mk.injEq] at h; obtain ⟨rfl, _⟩ := h; simp
        · cases h
    split at h
    · cases h
    · exact modifyP_le X _ _ _ _ _ _ h hc
theorem exprF_le : ∀ n, Shrt (exprF n)
  | 0 => fun _ _ _ _ _ _ h _ => by simp [exprF] at h
  | n + 1 => fun en c d st t st' h hc => by
    unfold exprF at h
    split at h
    · exact byKindP_le _ _ _ _ _ _ _ h hc
    · cases h
end Go.Proofs.YtbiinghmopgjnaaGreatDoor.Fmt
