/- lex, in plain words: a text without a backslash, a line feed, another text: blocks, remarks, steps between words; the second text begins anew. -/
import Derived.Test.YtigpingkfinmiaaDoorQtw
namespace Go.Proofs.YtigpingkfinmiaaDoor.Lex
open Go.RowKit
section
variable {env : Env} (b : Tx)
theorem onB_go {q : Q} {d d' : Int} {r s' : Tx} {n n' : Nat} (h : onB d r n = .go q d' s' n') : onB d (r ++ 10 :: b) n = .go q d' (s' ++ 10 :: b) n' ∧ s' = r ∧ n' = n := by
  unfold onB at h ⊢
  by_cases hd : 0 < d
  · rw [if_pos hd] at h ⊢; cases h; exact ⟨rfl, rfl, rfl⟩
  · rw [if_neg hd] at h
    by_cases hk : brk r = true
    · rw [if_pos hk] at h; cases h
    · rw [if_neg hk] at h; cases h
theorem onB_fin {d : Int} {r s' : Tx} {n n' : Nat} (h : onB d r n = .fin s' n') : onB d (r ++ 10 :: b) n = .fin (s' ++ 10 :: b) n' ∧ s' = r ∧ n' = n := by
  unfold onB at h ⊢
  by_cases hd : 0 < d
  · rw [if_pos hd] at h; cases h
  · rw [if_neg hd] at h ⊢
    rw [brk_app b r]
    by_cases hk : brk r = true
    · rw [if_pos hk] at h ⊢; cases h; exact ⟨rfl, rfl, rfl⟩
    · rw [if_neg hk] at h; cases h
theorem stepB_pl (d : Int) (c : UInt8) (r : Tx) (n : Nat) : stepB .pl d (c :: r) n =
    if c = 123 then onB (d + 1) r n
    else if c = 125 then onB (d - 1) r n
    else if c = 92 then onB d (tk r n).1 (tk r n).2
    else if c = 39 then .go .sg d r n
    else if c = 34 then .go .db d r n
    else onB d r (nl c n) := rfl
theorem stepB_sg (d : Int) (c : UInt8) (r : Tx) (n : Nat) : stepB .sg d (c :: r) n = if c = 39 then .go .pl d r n else .go .sg d r (nl c n) := rfl
theorem stepB_db (d : Int) (c : UInt8) (r : Tx) (n : Nat) : stepB .db d (c :: r) n =
    if c = 92 then .go .db d (tk r n).1 (tk r n).2
    else if c = 34 then .go .pl d r n
    else .go .db d r (nl c n) := rfl
theorem stepB_go {q q' : Q} {d d' : Int} {s s' : Tx} {n n' : Nat} (hb : Nb s) (h : stepB q d s n = .go q' d' s' n') :
    stepB q d (s ++ 10 :: b) n = .go q' d' (s' ++ 10 :: b) n' ∧ n' + fd s' = n + fd s ∧ ∀ c ∈ s', c ∈ s := by
  rcases s with _ | ⟨c, r⟩
  · cases q <;> cases h
  · have h92 := hb.hd
    rw [List.cons_append]
    cases q with
    | pl =>
      rw [stepB_pl] at h ⊢
      by_cases h1 : c = 123
      · rw [if_pos h1] at h ⊢
        obtain ⟨e, rfl, rfl⟩ := onB_go b h
        exact ⟨e, by rw [fd_cons (by rw [h1]; decide)], fun x hx => List.mem_cons_of_mem _ hx⟩
      rw [if_neg h1] at h ⊢
      by_cases h2 : c = 125
      · rw [if_pos h2] at h ⊢
        obtain ⟨e, rfl, rfl⟩ := onB_go b h
        exact ⟨e, by rw [fd_cons (by rw [h2]; decide)], fun x hx => List.mem_cons_of_mem _ hx⟩
      rw [if_neg h2, if_neg h92] at h ⊢
      by_cases h3 : c = 39
      · rw [if_pos h3] at h ⊢; cases h; exact ⟨rfl, by rw [fd_cons (by rw [h3]; decide)], fun x hx => List.mem_cons_of_mem _ hx⟩
      rw [if_neg h3] at h ⊢
      by_cases h4 : c = 34
      · rw [if_pos h4] at h ⊢; cases h; exact ⟨rfl, by rw [fd_cons (by rw [h4]; decide)], fun x hx => List.mem_cons_of_mem _ hx⟩
      rw [if_neg h4] at h ⊢
      obtain ⟨e, rfl, rfl⟩ := onB_go b h
      exact ⟨e, nl_fd _ _ _, fun x hx => List.mem_cons_of_mem _ hx⟩
    | sg =>
      rw [stepB_sg] at h ⊢
      by_cases h3 : c = 39
      · rw [if_pos h3] at h ⊢; cases h; exact ⟨rfl, by rw [fd_cons (by rw [h3]; decide)], fun x hx => List.mem_cons_of_mem _ hx⟩
      · rw [if_neg h3] at h ⊢; cases h; exact ⟨rfl, nl_fd _ _ _, fun x hx => List.mem_cons_of_mem _ hx⟩
    | db =>
      rw [stepB_db] at h ⊢
      rw [if_neg h92] at h ⊢
      by_cases h3 : c = 34
      · rw [if_pos h3] at h ⊢; cases h; exact ⟨rfl, by rw [fd_cons (by rw [h3]; decide)], fun x hx => List.mem_cons_of_mem _ hx⟩
      · rw [if_neg h3] at h ⊢; cases h; exact ⟨rfl, nl_fd _ _ _, fun x hx => List.mem_cons_of_mem _ hx⟩
theorem stepB_fin {q : Q} {d : Int} {s s' : Tx} {n n' : Nat} (hb : Nb s) (h : stepB q d s n = .fin s' n') :
    stepB q d (s ++ 10 :: b) n = .fin (s' ++ 10 :: b) n' ∧ n' + fd s' = n + fd s ∧ ∀ c ∈ s', c ∈ s := by
  rcases s with _ | ⟨c, r⟩
  · cases q <;> cases h
  · have h92 := hb.hd
    rw [List.cons_append]
    cases q with
    | pl =>
      rw [stepB_pl] at h ⊢
      by_cases h1 : c = 123
      · rw [if_pos h1] at h ⊢
        obtain ⟨e, rfl, rfl⟩ := onB_fin b h
        exact ⟨e, by rw [fd_cons (by rw [h1]; decide)], fun x hx => List.mem_cons_of_mem _ hx⟩
      rw [if_neg h1] at h ⊢
      by_cases h2 : c = 125
      · rw [if_pos h2] at h ⊢
        obtain ⟨e, rfl, rfl⟩ := onB_fin b h
        exact ⟨e, by rw [fd_cons (by rw [h2]; decide)], fun x hx => List.mem_cons_of_mem _ hx⟩
      rw [if_neg h2, if_neg h92] at h ⊢
      by_cases h3 : c = 39
      · rw [if_pos h3] at h; cases h
      rw [if_neg h3] at h ⊢
      by_cases h4 : c = 34
      · rw [if_pos h4] at h; cases h
      rw [if_neg h4] at h ⊢
      obtain ⟨e, rfl, rfl⟩ := onB_fin b h
      exact ⟨e, nl_fd _ _ _, fun x hx => List.mem_cons_of_mem _ hx⟩
    | sg =>
      rw [stepB_sg] at h
      by_cases h3 : c = 39
      · rw [if_pos h3] at h; cases h
      · rw [if_neg h3] at h; cases h
    | db =>
      rw [stepB_db] at h
      rw [if_neg h92] at h
      by_cases h3 : c = 34
      · rw [if_pos h3] at h; cases h
      · rw [if_neg h3] at h; cases h
theorem blockF_app {s' : Tx} {n' : Nat} : ∀ {f f' : Nat} {q : Q} {d : Int} {s : Tx} {n : Nat}, f ≤ f' → Nb s → blockF f q d s n = some (s', n') →
    blockF f' q d (s ++ 10 :: b) n = some (s' ++ 10 :: b, n') ∧ n' + fd s' = n + fd s ∧ ∀ c ∈ s', c ∈ s
  | 0, _, _, _, _, _, _, _, h => by cases h
  | _ + 1, 0, _, _, _, _, hf, _, _ => by omega
  | f + 1, f' + 1, q, d, s, n, hf, hb, h => by
    unfold blockF at h ⊢
    cases hst : stepB q d s n with
    | bad => rw [hst] at h; cases h
    | fin s2 n2 =>
      rw [hst] at h
      cases h
      obtain ⟨e1, e2, e3⟩ := stepB_fin b hb hst
      rw [e1]
      exact ⟨rfl, e2, e3⟩
    | go q2 d2 s2 n2 =>
      rw [hst] at h
      obtain ⟨e1, e2, e3⟩ := stepB_go b hb hst
      rw [e1]
      simp only at h ⊢
      obtain ⟨g1, g2, g3⟩ := blockF_app (f' := f') (by omega) (fun x hx => hb x (e3 x hx)) h
      exact ⟨g1, by omega, fun x hx => e3 x (g3 x hx)⟩
theorem skipR_app : ∀ s : Tx, skipR (s ++ 10 :: b) = skipR s ++ 10 :: b ∧ fd (skipR s) = fd s ∧ ∀ c ∈ skipR s, c ∈ s
  | [] => ⟨by show (if (10 : UInt8) = 10 then _ else _) = _; rw [if_pos rfl]; rfl, rfl, fun c hc => hc⟩
  | c :: r => by
    obtain ⟨h1, h2, h3⟩ := skipR_app r
    have e : ∀ t : Tx, skipR (c :: t) = if c = 10 then c :: t else skipR t := fun _ => rfl
    rw [List.cons_append, e, e]
    by_cases hc : c = 10
    · rw [if_pos hc, if_pos hc]; exact ⟨rfl, rfl, fun x hx => hx⟩
    · rw [if_neg hc, if_neg hc]
      exact ⟨h1, by rw [h2, fd_cons hc], fun x hx => List.mem_cons_of_mem _ (h3 x hx)⟩
theorem stepR_app {L L' : List Ln} {ws ws' : List Wd} {g g' n n' : Nat} {s s' : Tx} (hb : Nb s) (h : stepR env L ws g s n = .go L' ws' g' s' n') :
    stepR env L ws g (s ++ 10 :: b) n = .go L' ws' g' (s' ++ 10 :: b) n' ∧ n' + fd s' = n + fd s ∧ ∀ c ∈ s', c ∈ s := by
  rcases s with _ | ⟨c, r⟩
  · cases h
  · rw [stepR_cons] at h
    rw [List.cons_append, stepR_cons]
    by_cases h1 : c = 10
    · rw [if_pos h1] at h ⊢; cases h
      exact ⟨rfl, by subst h1; show n + 1 + fd s' = n + ((if (10 : UInt8) = 10 then 1 else 0) + fd s'); rw [if_pos rfl]; omega, fun x hx => List.mem_cons_of_mem _ hx⟩
    rw [if_neg h1] at h ⊢
    by_cases h2 : c = 59
    · rw [if_pos h2] at h ⊢; cases h; exact ⟨rfl, by rw [fd_cons h1], fun x hx => List.mem_cons_of_mem _ hx⟩
    rw [if_neg h2] at h ⊢
    by_cases h3 : c = 32 ∨ c = 9
    · rw [if_pos h3] at h ⊢; cases h; exact ⟨rfl, by rw [fd_cons h1], fun x hx => List.mem_cons_of_mem _ hx⟩
    rw [if_neg h3] at h ⊢
    by_cases h4 : c = 35
    · rw [if_pos h4] at h ⊢
      obtain ⟨e1, e2, e3⟩ := skipR_app b (c :: r)
      rw [List.cons_append] at e1
      cases h
      rw [e1]
      exact ⟨rfl, by rw [e2], e3⟩
    rw [if_neg h4] at h ⊢
    by_cases h5 : c = 123
    · rw [if_pos h5] at h ⊢
      by_cases hm : many L ws = true
      · rw [if_pos hm] at h; cases h
      · rw [if_neg hm] at h ⊢
        cases hbk : blockP (c :: r) n with
        | none => rw [hbk] at h; cases h
        | some p =>
          obtain ⟨s1, n1⟩ := p
          rw [hbk] at h
          have hlen := blockP_len hbk
          obtain ⟨e1, e2, e3⟩ := blockF_app b (f' := (c :: (r ++ 10 :: b)).length + 1) (by simp) hb hbk
          have e1' : blockP (c :: (r ++ 10 :: b)) n = some (s1 ++ 10 :: b, n1) := e1
          rw [e1']
          cases h
          refine ⟨?_, e2, e3⟩
          simp only
          have ez : (r ++ 10 :: b).length - ((s' ++ 10 :: b).length + 1) = r.length - (s'.length + 1) := by
            simp only [List.length_append, List.length_cons]; omega
          rw [ez, List.take_append_of_le_length (by omega)]
    rw [if_neg h5] at h ⊢
    by_cases h6 : c = 125
    · rw [if_pos h6] at h; cases h
    rw [if_neg h6] at h ⊢
    have h7 : ∀ r : Tx, ¬ (c = 92 ∧ r.head? = some 10) := fun r e => hb.hd e.1
    rw [if_neg (h7 _)] at h ⊢
    by_cases hm : many L ws = true
    · rw [if_pos hm] at h; cases h
    · rw [if_neg hm] at h ⊢
      cases hw : wordP env (c :: r) n with
      | bad e => rw [hw] at h; cases h
      | got t s1 n1 =>
        rw [hw] at h
        obtain ⟨e1, e2, e3⟩ := wordP_app b hb hw
        rw [List.cons_append] at e1
        rw [e1]
        cases h
        exact ⟨rfl, e2, e3⟩
end
/-- The last command's group. -/
def lastG (L : List Ln) : Nat := match L.getLast? with
  | none => 0
  | some l => l.group
def GI (L : List Ln) (g : Nat) : Prop := 1 ≤ g ∧ lastG L ≤ g ∧ g ≤ lastG L + 1
theorem endC_GI {L : List Ln} {ws : List Wd} {g : Nat} (h : GI L g) : GI (endC L ws g) g := by
  unfold endC
  by_cases hw : ws = []
  · rw [if_pos hw]; exact h
  · rw [if_neg hw]
    have e : lastG (L ++ [⟨ws, g⟩]) = g := by unfold lastG; rw [List.getLast?_append]; rfl
    exact ⟨h.1, by rw [e]; exact Nat.le_refl _, by rw [e]; omega⟩
theorem grp_GI {L : List Ln} {g : Nat} (h : GI L g) : grp L g = lastG L + 1 := by
  obtain ⟨h1, h2, h3⟩ := h
  unfold grp lastG at *
  cases hl : L.getLast? with
  | none => rw [hl] at h3; simp only at h3 ⊢; omega
  | some l =>
    rw [hl] at h2 h3
    simp only at h2 h3 ⊢
    by_cases e : l.group = g
    · rw [if_pos e]; omega
    · rw [if_neg e]; omega
theorem step_GI {env : Env} {L L' : List Ln} {ws ws' : List Wd} {g g' n n' : Nat} {s s' : Tx} (hG : GI L g) (h : stepR env L ws g s n = .go L' ws' g' s' n') : GI L' g' := by
  rcases s with _ | ⟨c, r⟩
  · cases h
  · rw [stepR_cons] at h
    by_cases h1 : c = 10
    · rw [if_pos h1] at h; cases h
      rw [grp_GI (endC_GI hG)]
      exact ⟨by omega, by omega, by omega⟩
    rw [if_neg h1] at h
    by_cases h2 : c = 59
    · rw [if_pos h2] at h; cases h; exact endC_GI hG
    rw [if_neg h2] at h
    by_cases h3 : c = 32 ∨ c = 9
    · rw [if_pos h3] at h; cases h; exact hG
    rw [if_neg h3] at h
    by_cases h4 : c = 35
    · rw [if_pos h4] at h; cases h; exact hG
    rw [if_neg h4] at h
    by_cases h5 : c = 123
    · rw [if_pos h5] at h
      by_cases hm : many L ws = true
      · rw [if_pos hm] at h; cases h
      · rw [if_neg hm] at h
        cases hb : blockP (c :: r) n with
        | none => rw [hb] at h; cases h
        | some p => obtain ⟨s1, n1⟩ := p; rw [hb] at h; cases h; exact hG
    rw [if_neg h5] at h
    by_cases h6 : c = 125
    · rw [if_pos h6] at h; cases h
    rw [if_neg h6] at h
    by_cases h7 : c = 92 ∧ r.head? = some 10
    · rw [if_pos h7] at h; cases h; exact hG
    rw [if_neg h7] at h
    by_cases hm : many L ws = true
    · rw [if_pos hm] at h; cases h
    · rw [if_neg hm] at h
      cases hw : wordP env (c :: r) n with
      | bad e => rw [hw] at h; cases h
      | got t s1 n1 => rw [hw] at h; cases h; exact hG
theorem stepR_fin {env : Env} {L : List Ln} {ws : List Wd} {g n : Nat} {s : Tx} (h : stepR env L ws g s n = .fin) : s = [] := by
  rcases s with _ | ⟨c, r⟩
  · rfl
  · exfalso
    rw [stepR_cons] at h
    by_cases h1 : c = 10
    · rw [if_pos h1] at h; cases h
    rw [if_neg h1] at h
    by_cases h2 : c = 59
    · rw [if_pos h2] at h; cases h
    rw [if_neg h2] at h
    by_cases h3 : c = 32 ∨ c = 9
    · rw [if_pos h3] at h; cases h
    rw [if_neg h3] at h
    by_cases h4 : c = 35
    · rw [if_pos h4] at h; cases h
    rw [if_neg h4] at h
    by_cases h5 : c = 123
    · rw [if_pos h5] at h
      by_cases hm : many L ws = true
      · rw [if_pos hm] at h; cases h
      · rw [if_neg hm] at h
        cases hb : blockP (c :: r) n with
        | none => rw [hb] at h; cases h
        | some p => obtain ⟨s1, n1⟩ := p; rw [hb] at h; cases h
    rw [if_neg h5] at h
    by_cases h6 : c = 125
    · rw [if_pos h6] at h; cases h
    rw [if_neg h6] at h
    by_cases h7 : c = 92 ∧ r.head? = some 10
    · rw [if_pos h7] at h; cases h
    rw [if_neg h7] at h
    by_cases hm : many L ws = true
    · rw [if_pos hm] at h; cases h
    · rw [if_neg hm] at h
      cases hw : wordP env (c :: r) n with
      | bad e => rw [hw] at h; cases h
      | got t s1 n1 => rw [hw] at h; cases h
/-- Behind the first text the second one begins anew: in its own line, in its own group. -/
theorem readF_app {env : Env} (he : EnvOk env) (b : Tx) : ∀ (f : Nat) {f' : Nat} {L : List Ln} {ws : List Wd} {g : Nat} {s : Tx} {n : Nat} {La : List Ln}, readF env f L ws g s n = .done La → Nb s → GI L g → (s ++ 10 :: b).length < f' →
    readF env f' L ws g (s ++ 10 :: b) n = readF env (b.length + 1) La [] (lastG La + 1) b (n + fd s + 1)
  | 0, _, _, _, _, _, _, _, h, _, _, _ => by cases h
  | _ + 1, 0, _, _, _, _, _, _, _, _, _, hf => by omega
  | f + 1, f' + 1, L, ws, g, s, n, La, h, hb, hG, hf => by
    unfold readF at h
    cases hst : stepR env L ws g s n with
    | bad e => rw [hst] at h; cases h
    | fin =>
      rw [hst] at h
      cases h
      obtain rfl := stepR_fin hst
      have hs : stepR env L ws g (10 :: b) n = .go (endC L ws g) [] (lastG (endC L ws g) + 1) b (n + 1) := by
        rw [stepR_cons, if_pos rfl, grp_GI (endC_GI hG)]
      rw [List.nil_append] at hf ⊢
      rw [readF_step hs]
      exact readF_fuel he _ _ _ _ _ _ _ (by simp only [List.length_cons] at hf; omega) (by omega)
    | go L2 ws2 g2 s2 n2 =>
      rw [hst] at h
      obtain ⟨e1, e2, e3⟩ := stepR_app b hb hst
      have hl := (step_len he hst).1
      rw [readF_step e1, readF_app he b f h (fun x hx => hb x (e3 x hx)) (step_GI hG hst) (by simp only [List.length_append] at hf ⊢; omega), e2]
end Go.Proofs.YtigpingkfinmiaaDoor.Lex
