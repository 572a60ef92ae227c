/- lex, in plain words: what a text's commands keep; remarks. -/
import Derived.Test.YtplikjbajejciaaDoorQpt
namespace Go.Proofs.YtplikjbajejciaaDoor.Lex
open Go.RowKit
theorem step_shape {env : Env} {L L' : List Ln} {ws ws' : List Wd} {g g' n n' : Nat} {s s' : Tx} (h : stepR env L ws g s n = .go L' ws' g' s' n') :
    (L' = endC L ws g ∧ ws' = []) ∨ (L' = L ∧ ws' = ws) ∨ (L' = L ∧ ∃ t b, ws' = ws ++ [⟨t, n, b⟩]) := by
  rcases s with _ | ⟨c, r⟩
  · cases h
  · rw [stepR_cons] at h
    by_cases h1 : c = 10
    · rw [if_pos h1] at h; cases h; exact .inl ⟨rfl, rfl⟩
    rw [if_neg h1] at h
    by_cases h2 : c = 59
    · rw [if_pos h2] at h; cases h; exact .inl ⟨rfl, rfl⟩
    rw [if_neg h2] at h
    by_cases h3 : c = 32 ∨ c = 9
    · rw [if_pos h3] at h; cases h; exact .inr (.inl ⟨rfl, rfl⟩)
    rw [if_neg h3] at h
    by_cases h4 : c = 35
    · rw [if_pos h4] at h; cases h; exact .inr (.inl ⟨rfl, rfl⟩)
    rw [if_neg h4] at h
    by_cases h5 : c = 123
    · rw [if_pos h5] at h
      by_cases hm : many L ws = true
      · rw [if_pos hm] at h; cases h
      · rw [if_neg hm] at h
        cases hb : blockP (c :: r) n with
        | none => rw [hb] at h; cases h
        | some p =>
          obtain ⟨s1, n1⟩ := p
          rw [hb] at h
          cases h
          exact .inr (.inr ⟨rfl, _, _, rfl⟩)
    rw [if_neg h5] at h
    by_cases h6 : c = 125
    · rw [if_pos h6] at h; cases h
    rw [if_neg h6] at h
    by_cases h7 : c = 92 ∧ r.head? = some 10
    · rw [if_pos h7] at h; cases h; exact .inr (.inl ⟨rfl, rfl⟩)
    rw [if_neg h7] at h
    by_cases hm : many L ws = true
    · rw [if_pos hm] at h; cases h
    · rw [if_neg hm] at h
      cases hw : wordP env (c :: r) n with
      | bad e => rw [hw] at h; cases h
      | got t s1 n1 =>
        rw [hw] at h
        cases h
        exact .inr (.inr ⟨rfl, _, _, rfl⟩)
/-- Commands of so many words at most, in lines so far on at most. -/
def Good (M : Nat) (L : List Ln) : Prop := ∀ l ∈ L, l.words.length ≤ M ∧ ∀ x ∈ l.words, x.line ≤ M
theorem Good.endC {M : Nat} {L : List Ln} {ws : List Wd} {g : Nat} (h : Good M L) (h1 : ws.length ≤ M) (h2 : ∀ x ∈ ws, x.line ≤ M) : Good M (Lex.endC L ws g) := by
  unfold Lex.endC
  split
  · exact h
  · intro l hl
    rcases List.mem_append.1 hl with hl | hl
    · exact h l hl
    · rw [List.mem_singleton] at hl
      subst hl
      exact ⟨h1, h2⟩
theorem readF_good {env : Env} (he : EnvOk env) (M : Nat) : ∀ (f : Nat) (L : List Ln) (ws : List Wd) (g : Nat) (s : Tx) (n : Nat) (L' : List Ln), Good M L → ws.length + s.length ≤ M → (∀ x ∈ ws, x.line ≤ M) → n + s.length ≤ M → readF env f L ws g s n = .done L' → Good M L'
  | 0, _, _, _, _, _, _, _, _, _, _, h => by cases h
  | f + 1, L, ws, g, s, n, L', h1, h2, h3, h4, h => by
    unfold readF at h
    cases hst : stepR env L ws g s n with
    | bad e => rw [hst] at h; cases h
    | fin =>
      rw [hst] at h
      cases h
      exact h1.endC (by omega) h3
    | go L2 ws2 g2 s2 n2 =>
      rw [hst] at h
      obtain ⟨l1, l2⟩ := step_len he hst
      rcases step_shape hst with ⟨rfl, rfl⟩ | ⟨rfl, rfl⟩ | ⟨rfl, t, b, rfl⟩
      · exact readF_good he M f _ _ _ _ _ _ (h1.endC (by omega) h3) (by simp; omega) (fun x hx => by cases hx) (by omega) h
      · exact readF_good he M f _ _ _ _ _ _ h1 (by omega) h3 (by omega) h
      · refine readF_good he M f _ _ _ _ _ _ h1 (by rw [List.length_append, List.length_singleton]; omega) (fun x hx => ?_) (by omega) h
        rcases List.mem_append.1 hx with hx | hx
        · exact h3 x hx
        · rw [List.mem_singleton] at hx
          subst hx
          show n ≤ M
          omega
theorem splitP_good {env : Env} (he : EnvOk env) {s : Tx} {L : List Ln} (h : splitP env s = .done L) : Good 65537 L := by
  unfold splitP at h
  split at h
  · cases h
  · rename_i hl
    exact readF_good he 65537 _ _ _ _ _ _ _ (fun l hl => by cases hl) (by simp; omega) (fun x hx => by cases hx) (by omega) h
theorem readF_step {env : Env} {L L' : List Ln} {ws ws' : List Wd} {g g' n n' f : Nat} {s s' : Tx} (hst : stepR env L ws g s n = .go L' ws' g' s' n') : readF env (f + 1) L ws g s n = readF env f L' ws' g' s' n' := by
  conv => lhs; unfold readF
  rw [hst]
theorem skipR_to : ∀ (r s : Tx), (∀ c ∈ r, c ≠ 10) → skipR (r ++ 10 :: s) = 10 :: s
  | [], s, _ => rfl
  | c :: r, s, h => by
    show (if c = 10 then c :: (r ++ 10 :: s) else skipR (r ++ 10 :: s)) = _
    rw [if_neg (h c (by simp))]
    exact skipR_to r s (fun x hx => h x (by simp [hx]))
/-- A text ahead of which a remark and empty lines stand. -/
def remarked (rm s : Tx) : Tx := [10, 32, 9, 35] ++ rm ++ [10, 10] ++ s
theorem remarked_eq (rm s : Tx) : remarked rm s = 10 :: 32 :: 9 :: 35 :: (rm ++ 10 :: 10 :: s) := by unfold remarked; simp
/-- They change nothing but the lines' numbers. -/
theorem remarks_plain {env : Env} (he : EnvOk env) (rm s : Tx) (hl : s.length + rm.length ≤ 60000) (hr : ∀ c ∈ rm, c ≠ 10) : splitP env (remarked rm s) = shRR 3 (splitP env s) := by
  rw [remarked_eq]
  unfold splitP
  have e1 : (10 :: 32 :: 9 :: 35 :: (rm ++ 10 :: 10 :: s) : Tx).length + 1 = (s.length + rm.length + 1) + 6 := by simp; omega
  rw [if_neg (by simp; omega), if_neg (by omega), e1]
  have s1 : stepR env [] [] 1 (10 :: 32 :: 9 :: 35 :: (rm ++ 10 :: 10 :: s)) 1 = .go [] [] 1 (32 :: 9 :: 35 :: (rm ++ 10 :: 10 :: s)) 2 := by rw [stepR_cons, if_pos rfl]; rfl
  have s2 : stepR env [] [] 1 (32 :: 9 :: 35 :: (rm ++ 10 :: 10 :: s)) 2 = .go [] [] 1 (9 :: 35 :: (rm ++ 10 :: 10 :: s)) 2 := by rw [stepR_cons, if_neg (by decide), if_neg (by decide), if_pos (by decide)]
  have s3 : stepR env [] [] 1 (9 :: 35 :: (rm ++ 10 :: 10 :: s)) 2 = .go [] [] 1 (35 :: (rm ++ 10 :: 10 :: s)) 2 := by rw [stepR_cons, if_neg (by decide), if_neg (by decide), if_pos (by decide)]
  have s4 : stepR env [] [] 1 (35 :: (rm ++ 10 :: 10 :: s)) 2 = .go [] [] 1 (10 :: 10 :: s) 2 := by
    rw [stepR_cons, if_neg (by decide), if_neg (by decide), if_neg (by decide), if_pos rfl]
    have : skipR (35 :: (rm ++ 10 :: 10 :: s)) = 10 :: 10 :: s := skipR_to (35 :: rm) (10 :: s) (fun c hc => by
      rcases List.mem_cons.1 hc with rfl | hc
      · decide
      · exact hr c hc)
    rw [this]
  have s5 : stepR env [] [] 1 (10 :: 10 :: s) 2 = .go [] [] 1 (10 :: s) 3 := by rw [stepR_cons, if_pos rfl]; rfl
  have s6 : stepR env [] [] 1 (10 :: s) 3 = .go [] [] 1 s 4 := by rw [stepR_cons, if_pos rfl]; rfl
  rw [readF_step (f := s.length + rm.length + 1 + 5) s1, readF_step (f := s.length + rm.length + 1 + 4) s2, readF_step (f := s.length + rm.length + 1 + 3) s3, readF_step (f := s.length + rm.length + 1 + 2) s4, readF_step (f := s.length + rm.length + 1 + 1) s5, readF_step (f := s.length + rm.length + 1) s6]
  have := readF_add he 3 (s.length + rm.length + 1) [] [] 1 s 1 (by omega)
  rw [readF_fuel he (s.length + rm.length + 1) (s.length + 1) [] [] 1 s 1 (by omega) (by omega)] at this
  exact this
end Go.Proofs.YtplikjbajejciaaDoor.Lex
