/- lex, in plain words: commands ahead of a text's own; two texts with a line feed between. -/
import Derived.Test.YtigpingkfinmiaaDoorQtx
namespace Go.Proofs.YtigpingkfinmiaaDoor.Lex
open Go.RowKit
def gsh (G : Nat) (L : List Ln) : List Ln := L.map fun l => { l with group := l.group + G }
theorem gsh_len (G : Nat) (L : List Ln) : (gsh G L).length = L.length := List.length_map _
def preRR (P : List Ln) (G : Nat) : RR → RR
  | .bad e l => .bad e l
  | .done L => .done (P ++ gsh G L)
def preSr (P : List Ln) (G : Nat) : Sr → Sr
  | .bad e => .bad e
  | .fin => .fin
  | .go L ws g s n => .go (P ++ gsh G L) ws (g + G) s n
theorem endC_pre (P L : List Ln) (ws : List Wd) (g G : Nat) : endC (P ++ gsh G L) ws (g + G) = P ++ gsh G (endC L ws g) := by
  unfold endC
  by_cases h : ws = []
  · rw [if_pos h, if_pos h]
  · rw [if_neg h, if_neg h]
    unfold gsh
    rw [List.map_append, List.append_assoc]
    rfl
theorem grp_pre {P : List Ln} {G : Nat} (hP : lastG P = G) (L : List Ln) {g : Nat} (hg : 1 ≤ g) : grp (P ++ gsh G L) (g + G) = grp L g + G := by
  unfold grp
  rw [List.getLast?_append]
  unfold gsh
  rw [List.getLast?_map]
  cases hl : L.getLast? with
  | none =>
    unfold lastG at hP
    cases hp : P.getLast? with
    | none => rfl
    | some l =>
      rw [hp] at hP
      simp only at hP
      simp only [Option.map_none, Option.none_or]
      rw [if_neg (by omega)]
  | some l =>
    simp only [Option.map_some, Option.some_or]
    by_cases e : l.group = g
    · rw [if_pos e, if_pos (by omega)]; omega
    · rw [if_neg e, if_neg (by omega)]
theorem stepR_pre {env : Env} {P : List Ln} {G : Nat} (hP : lastG P = G) {L : List Ln} {ws : List Wd} {g n : Nat} {s : Tx} (hg : 1 ≤ g)
    (hm : many (P ++ gsh G L) ws = many L ws ∨ ((∀ e, stepR env L ws g s n ≠ .bad e) ∧ ∀ t k s' n', stepR env L ws g s n ≠ .go L (ws ++ [⟨t, n, k⟩]) g s' n')) :
    stepR env (P ++ gsh G L) ws (g + G) s n = preSr P G (stepR env L ws g s n) := by
  rcases s with _ | ⟨c, r⟩
  · rfl
  · rw [stepR_cons] at hm
    rw [stepR_cons, stepR_cons, endC_pre, grp_pre hP _ hg]
    by_cases h1 : c = 10
    · rw [if_pos h1, if_pos h1]; rfl
    rw [if_neg h1] at hm
    rw [if_neg h1, if_neg h1]
    by_cases h2 : c = 59
    · rw [if_pos h2, if_pos h2]; rfl
    rw [if_neg h2] at hm
    rw [if_neg h2, if_neg h2]
    by_cases h3 : c = 32 ∨ c = 9
    · rw [if_pos h3, if_pos h3]; rfl
    rw [if_neg h3] at hm
    rw [if_neg h3, if_neg h3]
    by_cases h4 : c = 35
    · rw [if_pos h4, if_pos h4]; rfl
    rw [if_neg h4] at hm
    rw [if_neg h4, if_neg h4]
    by_cases h5 : c = 123
    · rw [if_pos h5] at hm
      rw [if_pos h5, if_pos h5]
      have hmm : many (P ++ gsh G L) ws = many L ws := by
        rcases hm with hm | ⟨m1, m2⟩
        · exact hm
        · exfalso
          by_cases hq : many L ws = true
          · rw [if_pos hq] at m1; exact m1 _ rfl
          · rw [if_neg hq] at m1 m2
            cases hb : blockP (c :: r) n with
            | none => rw [hb] at m1; exact m1 _ rfl
            | some p => obtain ⟨s1, n1⟩ := p; rw [hb] at m2; exact m2 _ _ _ _ rfl
      rw [hmm]
      by_cases hq : many L ws = true
      · rw [if_pos hq, if_pos hq]; rfl
      · rw [if_neg hq, if_neg hq]
        cases hb : blockP (c :: r) n with
        | none => rfl
        | some p => rfl
    rw [if_neg h5] at hm
    rw [if_neg h5, if_neg h5]
    by_cases h6 : c = 125
    · rw [if_pos h6, if_pos h6]; rfl
    rw [if_neg h6] at hm
    rw [if_neg h6, if_neg h6]
    by_cases h7 : c = 92 ∧ r.head? = some 10
    · rw [if_pos h7, if_pos h7]; rfl
    rw [if_neg h7] at hm
    rw [if_neg h7, if_neg h7]
    have hmm : many (P ++ gsh G L) ws = many L ws := by
      rcases hm with hm | ⟨m1, m2⟩
      · exact hm
      · exfalso
        by_cases hq : many L ws = true
        · rw [if_pos hq] at m1; exact m1 _ rfl
        · rw [if_neg hq] at m1 m2
          cases hb : wordP env (c :: r) n with
          | bad e => rw [hb] at m1; exact m1 _ rfl
          | got t s1 n1 => rw [hb] at m2; exact m2 _ _ _ _ rfl
    rw [hmm]
    by_cases hq : many L ws = true
    · rw [if_pos hq, if_pos hq]; rfl
    · rw [if_neg hq, if_neg hq]
      cases hb : wordP env (c :: r) n with
      | bad e => rfl
      | got t s1 n1 => rfl
def one (ws : List Wd) : Nat := if ws = [] then 0 else 1
theorem endC_len (L : List Ln) (ws : List Wd) (g : Nat) : (endC L ws g).length = L.length + one ws := by
  unfold endC one
  by_cases h : ws = []
  · rw [if_pos h, if_pos h]; rfl
  · rw [if_neg h, if_neg h, List.length_append]; rfl
theorem one_app (ws : List Wd) (x : Wd) : one (ws ++ [x]) = 1 := by
  unfold one
  rw [if_neg (by simp)]
theorem one_le (ws : List Wd) : one ws ≤ 1 := by unfold one; split <;> omega
theorem grow {env : Env} : ∀ (f : Nat) {L : List Ln} {ws : List Wd} {g n : Nat} {s : Tx} {L' : List Ln}, readF env f L ws g s n = .done L' → L.length + one ws ≤ L'.length
  | 0, _, _, _, _, _, _, h => by cases h
  | f + 1, L, ws, g, n, s, L', h => by
    unfold readF at h
    cases hst : stepR env L ws g s n with
    | bad e => rw [hst] at h; cases h
    | fin => rw [hst] at h; cases h; rw [endC_len]; exact Nat.le_refl _
    | go L2 ws2 g2 s2 n2 =>
      rw [hst] at h
      have ih := grow f h
      rcases step_shape hst with ⟨rfl, rfl⟩ | ⟨rfl, rfl⟩ | ⟨rfl, t, k, rfl⟩
      · rw [endC_len] at ih; omega
      · exact ih
      · rw [one_app] at ih; have := one_le ws; omega
theorem step_g {env : Env} {L L' : List Ln} {ws ws' : List Wd} {g g' n n' : Nat} {s s' : Tx} (hg : 1 ≤ g) (h : stepR env L ws g s n = .go L' ws' g' s' n') : 1 ≤ g' := by
  have hgrp : ∀ M : List Ln, 1 ≤ grp M g := fun M => by
    unfold grp
    split
    · exact hg
    · split <;> omega
  rcases s with _ | ⟨c, r⟩
  · cases h
  · rw [stepR_cons] at h
    by_cases h1 : c = 10
    · rw [if_pos h1] at h; cases h; exact hgrp _
    rw [if_neg h1] at h
    by_cases h2 : c = 59
    · rw [if_pos h2] at h; cases h; exact hg
    rw [if_neg h2] at h
    by_cases h3 : c = 32 ∨ c = 9
    · rw [if_pos h3] at h; cases h; exact hg
    rw [if_neg h3] at h
    by_cases h4 : c = 35
    · rw [if_pos h4] at h; cases h; exact hg
    rw [if_neg h4] at h
    by_cases h5 : c = 123
    · rw [if_pos h5] at h
      by_cases hm : many L ws = true
      · rw [if_pos hm] at h; cases h
      · rw [if_neg hm] at h
        cases hb : blockP (c :: r) n with
        | none => rw [hb] at h; cases h
        | some p => obtain ⟨s1, n1⟩ := p; rw [hb] at h; cases h; exact hg
    rw [if_neg h5] at h
    by_cases h6 : c = 125
    · rw [if_pos h6] at h; cases h
    rw [if_neg h6] at h
    by_cases h7 : c = 92 ∧ r.head? = some 10
    · rw [if_pos h7] at h; cases h; exact hg
    rw [if_neg h7] at h
    by_cases hm : many L ws = true
    · rw [if_pos hm] at h; cases h
    · rw [if_neg hm] at h
      cases hw : wordP env (c :: r) n with
      | bad e => rw [hw] at h; cases h
      | got t s1 n1 => rw [hw] at h; cases h; exact hg
theorem many_pre {P L : List Ln} {G : Nat} {ws : List Wd} (h : ws ≠ [] ∨ (P.length + L.length < 1000)) : many (P ++ gsh G L) ws = many L ws := by
  unfold many
  rw [List.length_append, gsh_len]
  rcases h with h | h
  · have : ws.isEmpty = false := by cases ws with
      | nil => exact absurd rfl h
      | cons _ _ => rfl
    rw [this]; rfl
  · have e1 : (P.length + L.length == 1000) = false := by rw [beq_eq_false_iff_ne]; omega
    have e2 : (L.length == 1000) = false := by rw [beq_eq_false_iff_ne]; omega
    rw [e1, e2]
theorem readF_pre {env : Env} (he : EnvOk env) {P : List Ln} {G : Nat} (hP : lastG P = G) : ∀ (f : Nat) {L : List Ln} {ws : List Wd} {g n : Nat} {s : Tx}, 1 ≤ g →
    (∀ L', readF env f L ws g s n = .done L' → P.length + L'.length ≤ 1000) → (∀ e l, readF env f L ws g s n = .bad e l → P.length + L.length + one ws + s.length ≤ 1000) →
    readF env f (P ++ gsh G L) ws (g + G) s n = preRR P G (readF env f L ws g s n)
  | 0, _, _, _, _, _, _, _, _ => rfl
  | f + 1, L, ws, g, n, s, hg, h1, h2 => by
    have hm : many (P ++ gsh G L) ws = many L ws ∨ ((∀ e, stepR env L ws g s n ≠ .bad e) ∧ ∀ t k s' n', stepR env L ws g s n ≠ .go L (ws ++ [⟨t, n, k⟩]) g s' n') := by
      by_cases hq : ws ≠ [] ∨ P.length + L.length < 1000
      · exact .inl (many_pre hq)
      · right
        have hws : ws = [] := Classical.byContradiction fun e => hq (.inl e)
        have hln : 1000 ≤ P.length + L.length := by
          rcases Nat.lt_or_ge (P.length + L.length) 1000 with q | q
          · exact absurd (.inr q) hq
          · exact q
        refine ⟨fun e he1 => ?_, fun t k s' n' he1 => ?_⟩
        · have hr : readF env (f + 1) L ws g s n = .bad e n := by
            unfold readF
            rw [he1]
          have := h2 _ _ hr
          have hs : s ≠ [] := by rintro rfl; cases he1
          have : 0 < s.length := List.length_pos_iff.2 hs
          omega
        · have hr := readF_step (f := f) he1
          have hl := (step_len he he1).1
          cases hx : readF env f L (ws ++ [⟨t, n, k⟩]) g s' n' with
          | bad e l =>
            rw [hx] at hr
            have := h2 _ _ hr
            omega
          | done L' =>
            rw [hx] at hr
            have g1 := h1 _ hr
            have g2 := grow f hx
            rw [one_app] at g2
            omega
    have hs := stepR_pre (env := env) hP (s := s) (n := n) hg hm
    cases hst : stepR env L ws g s n with
    | bad e =>
      rw [hst] at hs
      conv => lhs; unfold readF
      conv => rhs; unfold readF
      rw [hs, hst]; rfl
    | fin =>
      rw [hst] at hs
      conv => lhs; unfold readF
      conv => rhs; unfold readF
      rw [hs, hst]
      show RR.done _ = RR.done _
      rw [endC_pre]
    | go L2 ws2 g2 s2 n2 =>
      rw [hst] at hs
      have hr := readF_step (f := f) hst
      rw [hr, readF_step (f := f) hs]
      rw [hr] at h1 h2
      refine readF_pre he hP f (step_g hg hst) h1 fun e l hx => ?_
      have h3 := h2 e l hx
      have h4 := (step_len he hst).1
      rcases step_shape hst with ⟨rfl, rfl⟩ | ⟨rfl, rfl⟩ | ⟨rfl, t, k, rfl⟩
      · rw [endC_len]; show _ + 0 + _ ≤ _; omega
      · omega
      · rw [one_app]; omega
/-- Two texts with a line feed between. -/
theorem two_plain {env : Env} (he : EnvOk env) (a b : Tx) {la : List Ln} (hl : a.length + b.length ≤ 60000) (ha : splitP env a = .done la) (hb : Nb a)
    (h1 : ∀ m, splitP env b = .done m → la.length + m.length ≤ 1000) (h2 : ∀ e l, splitP env b = .bad e l → la.length + b.length ≤ 1000) :
    splitP env (a ++ 10 :: b) = preRR la (lastG la) (shRR (fd a + 1) (splitP env b)) := by
  have eb : splitP env b = readF env (b.length + 1) [] [] 1 b 1 := by unfold splitP; rw [if_neg (by omega)]
  rw [eb] at h1 h2 ⊢
  unfold splitP at ha ⊢
  rw [if_neg (by omega)] at ha
  rw [if_neg (by simp; omega)]
  rw [readF_app he b _ ha hb ⟨Nat.le_refl _, by decide, by decide⟩ (Nat.lt_succ_self _)]
  have e1 := readF_add he (fd a + 1) (b.length + 1) [] [] 1 b 1 (Nat.lt_succ_self _)
  have e2 := readF_pre he (P := la) rfl (b.length + 1) (L := []) (ws := []) (g := 1) (n := 1 + (fd a + 1)) (s := b) (Nat.le_refl _)
  have e3 : readF env (b.length + 1) [] [] 1 b (1 + (fd a + 1)) = shRR (fd a + 1) (readF env (b.length + 1) [] [] 1 b 1) := e1
  rw [e3] at e2
  have e4 : readF env (b.length + 1) (la ++ gsh (lastG la) []) [] (1 + lastG la) b (1 + (fd a + 1)) = readF env (b.length + 1) la [] (lastG la + 1) b (1 + fd a + 1) := by
    rw [show la ++ gsh (lastG la) [] = la from List.append_nil _, Nat.add_comm 1 (lastG la), ← Nat.add_assoc]
  rw [← e4]
  refine e2 (fun L' h => ?_) (fun e l h => ?_)
  · cases hx : readF env (b.length + 1) [] [] 1 b 1 with
    | bad e l => rw [hx] at h; cases h
    | done m =>
      rw [hx] at h
      cases h
      rw [shL_len]
      exact h1 _ hx
  · cases hx : readF env (b.length + 1) [] [] 1 b 1 with
    | bad e1 l1 =>
      have := h2 _ _ hx
      show la.length + 0 + 0 + _ ≤ _
      omega
    | done m => rw [hx] at h; cases h
end Go.Proofs.YtigpingkfinmiaaDoor.Lex
