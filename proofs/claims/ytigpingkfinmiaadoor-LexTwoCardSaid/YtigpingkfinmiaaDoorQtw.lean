/- lex, in plain words: a text without a backslash, a line feed, another text: a word, a block, a remark of the first doesn't see behind it. -/
import Derived.Test.YtigpingkfinmiaaDoorQpu
namespace Go.Proofs.YtigpingkfinmiaaDoor.Lex
open Go.RowKit
/-- How many line feeds. -/
def fd : Tx → Nat
  | [] => 0
  | c :: r => (if c = 10 then 1 else 0) + fd r
theorem nl_fd (c : UInt8) (n : Nat) (r : Tx) : nl c n + fd r = n + fd (c :: r) := by
  unfold nl
  show _ = n + ((if c = 10 then 1 else 0) + fd r)
  split <;> omega
theorem fd_cons {c : UInt8} (h : ¬ c = 10) (r : Tx) : fd (c :: r) = fd r := by
  show (if c = 10 then 1 else 0) + fd r = _
  rw [if_neg h]; omega
def Nb (s : Tx) : Prop := ∀ c ∈ s, c ≠ 92
theorem Nb.tl {c : UInt8} {r : Tx} (h : Nb (c :: r)) : Nb r := fun x hx => h x (List.mem_cons_of_mem _ hx)
theorem Nb.hd {c : UInt8} {r : Tx} (h : Nb (c :: r)) : ¬ c = 92 := h c List.mem_cons_self
section
variable {env : Env} (b : Tx)
theorem brk_app (s : Tx) : brk (s ++ 10 :: b) = brk s := by
  cases s with
  | nil => rfl
  | cons c r => rfl
theorem isL_ne {c : UInt8} (h : isL c = true) : ¬ c = 10 := by rintro rfl; revert h; decide
theorem isD_ne {c : UInt8} (h : (isL c || isD c) = true) : ¬ c = 10 := by rintro rfl; revert h; decide
theorem nameR_feed : nameR (10 :: b) = 0 := by
  show (if (isL 10 || isD 10) = true then nameR b + 1 else 0) = 0
  rw [if_neg (by decide)]
theorem nameN_feed : nameN (10 :: b) = 0 := by
  show (if isL 10 = true then nameR b + 1 else 0) = 0
  rw [if_neg (by decide)]
theorem nameR_app : ∀ s : Tx, nameR (s ++ 10 :: b) = nameR s ∧ nameR s ≤ s.length ∧ fd (s.drop (nameR s)) = fd s
  | [] => ⟨nameR_feed b, Nat.le_refl _, rfl⟩
  | c :: r => by
    obtain ⟨h1, h2, h3⟩ := nameR_app r
    by_cases h : (isL c || isD c) = true
    · have e : nameR (c :: r) = nameR r + 1 := by show (if _ then _ else _) = _; rw [if_pos h]
      have e2 : nameR ((c :: r) ++ 10 :: b) = nameR (r ++ 10 :: b) + 1 := by show (if _ then _ else _) = _; rw [if_pos h]; rfl
      refine ⟨by rw [e2, e, h1], by rw [e, List.length_cons]; omega, ?_⟩
      rw [e, List.drop_succ_cons, h3, fd_cons (isD_ne h)]
    · have e : nameR (c :: r) = 0 := by show (if _ then _ else _) = _; rw [if_neg h]
      have e2 : nameR ((c :: r) ++ 10 :: b) = 0 := by show (if _ then _ else _) = _; rw [if_neg h]
      exact ⟨by rw [e2, e], by rw [e]; exact Nat.zero_le _, by rw [e]; rfl⟩
theorem nameN_app (s : Tx) : nameN (s ++ 10 :: b) = nameN s ∧ nameN s ≤ s.length ∧ fd (s.drop (nameN s)) = fd s := by
  cases s with
  | nil => exact ⟨nameN_feed b, Nat.le_refl _, rfl⟩
  | cons c r =>
    obtain ⟨h1, h2, h3⟩ := nameR_app b r
    by_cases h : isL c = true
    · have e : nameN (c :: r) = nameR r + 1 := by show (if _ then _ else _) = _; rw [if_pos h]
      have e2 : nameN ((c :: r) ++ 10 :: b) = nameR (r ++ 10 :: b) + 1 := by show (if _ then _ else _) = _; rw [if_pos h]; rfl
      refine ⟨by rw [e2, e, h1], by rw [e, List.length_cons]; omega, ?_⟩
      rw [e, List.drop_succ_cons, h3, fd_cons (isL_ne h)]
    · have e : nameN (c :: r) = 0 := by show (if _ then _ else _) = _; rw [if_neg h]
      have e2 : nameN ((c :: r) ++ 10 :: b) = 0 := by show (if _ then _ else _) = _; rw [if_neg h]
      exact ⟨by rw [e2, e], by rw [e]; exact Nat.zero_le _, by rw [e]; rfl⟩
theorem nam_cons2 (c : UInt8) (r : Tx) : nam env (c :: r) =
    if c = 123 then
      if nameN r = 0 then none
      else match r.drop (nameN r) with
        | [] => none
        | d :: r' => if d = 125 then some (valP env (r.take (nameN r)), r') else none
    else if nameN (c :: r) = 0 then some ([36], c :: r)
    else some (valP env ((c :: r).take (nameN (c :: r))), (c :: r).drop (nameN (c :: r))) := rfl
theorem nam_app {s t r : Tx} (h : nam env s = some (t, r)) : nam env (s ++ 10 :: b) = some (t, r ++ 10 :: b) ∧ fd r = fd s ∧ ∀ c ∈ r, c ∈ s := by
  rcases s with _ | ⟨c, q⟩
  · cases h
    refine ⟨?_, rfl, fun c hc => hc⟩
    show nam env (10 :: b) = _
    have h0 : nameN (10 :: b) = 0 := (nameN_app b []).1
    rw [nam_cons2, if_neg (by decide), if_pos h0]
    rfl
  · obtain ⟨a1, a2, a3⟩ := nameN_app b q
    obtain ⟨b1, b2, b3⟩ := nameN_app b (c :: q)
    rw [nam_cons2] at h
    rw [List.cons_append, nam_cons2]
    by_cases hc : c = 123
    · rw [if_pos hc] at h ⊢
      by_cases h0 : nameN q = 0
      · rw [if_pos h0] at h; cases h
      · rw [if_neg h0] at h
        have e1 : (q ++ 10 :: b).drop (nameN q) = q.drop (nameN q) ++ 10 :: b := List.drop_append_of_le_length a2
        have e2 : (q ++ 10 :: b).take (nameN q) = q.take (nameN q) := List.take_append_of_le_length a2
        rw [a1, e1, e2, if_neg h0]
        cases hd : q.drop (nameN q) with
        | nil => rw [hd] at h; cases h
        | cons d r' =>
          rw [hd] at h
          simp only [List.cons_append] at h ⊢
          by_cases h9 : d = 125
          · rw [if_pos h9] at h ⊢
            cases h
            refine ⟨rfl, ?_, fun x hx => ?_⟩
            · rw [hd, fd_cons (by rw [h9]; decide)] at a3
              rw [a3, fd_cons (by rw [hc]; decide)]
            · exact List.mem_cons_of_mem _ (List.mem_of_mem_drop (hd ▸ List.mem_cons_of_mem _ hx))
          · rw [if_neg h9] at h; cases h
    · rw [if_neg hc] at h ⊢
      rw [← List.cons_append, b1]
      by_cases h0 : nameN (c :: q) = 0
      · rw [if_pos h0] at h ⊢
        cases h
        exact ⟨rfl, rfl, fun x hx => hx⟩
      · rw [if_neg h0] at h ⊢
        cases h
        rw [List.drop_append_of_le_length b2, List.take_append_of_le_length b2]
        exact ⟨rfl, b3, fun x hx => List.mem_of_mem_drop hx⟩
theorem namS_app {q q' : Q} {s t s' : Tx} {n n' : Nat} (h : namS env q s n = .go q' t s' n') : namS env q (s ++ 10 :: b) n = .go q' t (s' ++ 10 :: b) n' ∧ n' + fd s' = n + fd s ∧ ∀ c ∈ s', c ∈ s := by
  unfold namS at h ⊢
  cases hn : nam env s with
  | none => rw [hn] at h; cases h
  | some p =>
    obtain ⟨t1, r1⟩ := p
    rw [hn] at h
    cases h
    obtain ⟨e1, e2, e3⟩ := nam_app b hn
    rw [e1]
    exact ⟨rfl, by omega, e3⟩
theorem namS_fin {q : Q} {s : Tx} {n : Nat} (h : namS env q s n = .fin) : False := by
  unfold namS at h
  cases hn : nam env s with
  | none => rw [hn] at h; cases h
  | some p => rw [hn] at h; cases h
theorem stepW_app {q q' : Q} {s t s' : Tx} {n n' : Nat} (hb : Nb s) (h : stepW env q s n = .go q' t s' n') :
    stepW env q (s ++ 10 :: b) n = .go q' t (s' ++ 10 :: b) n' ∧ n' + fd s' = n + fd s ∧ ∀ c ∈ s', c ∈ s := by
  rcases s with _ | ⟨c, r⟩
  · cases q <;> cases h
  · have h92 := hb.hd
    cases q with
    | pl =>
      show (if brk ((c :: r) ++ 10 :: b) = true then _ else _) = _ ∧ _
      rw [brk_app b (c :: r)]
      unfold stepW at h
      simp only at h
      by_cases hk : brk (c :: r) = true
      · rw [if_pos hk] at h; cases h
      rw [if_neg hk] at h ⊢
      have h10 : ¬ c = 10 := fun e => hk (by subst e; rfl)
      by_cases h1 : c = 39
      · rw [if_pos h1] at h ⊢; cases h; exact ⟨rfl, by rw [fd_cons h10], fun x hx => List.mem_cons_of_mem _ hx⟩
      rw [if_neg h1] at h ⊢
      by_cases h2 : c = 34
      · rw [if_pos h2] at h ⊢; cases h; exact ⟨rfl, by rw [fd_cons h10], fun x hx => List.mem_cons_of_mem _ hx⟩
      rw [if_neg h2, if_neg h92] at h ⊢
      by_cases h3 : c = 36
      · rw [if_pos h3] at h ⊢
        obtain ⟨e1, e2, e3⟩ := namS_app b h
        exact ⟨e1, by rw [fd_cons h10]; exact e2, fun x hx => List.mem_cons_of_mem _ (e3 x hx)⟩
      · rw [if_neg h3] at h ⊢; cases h; exact ⟨rfl, by rw [fd_cons h10], fun x hx => List.mem_cons_of_mem _ hx⟩
    | sg =>
      show (if c = 39 then _ else _) = _ ∧ _
      unfold stepW at h
      simp only at h
      by_cases h1 : c = 39
      · rw [if_pos h1] at h ⊢; cases h; exact ⟨rfl, by rw [fd_cons (by rw [h1]; decide)], fun x hx => List.mem_cons_of_mem _ hx⟩
      · rw [if_neg h1] at h ⊢; cases h; exact ⟨rfl, nl_fd _ _ _, fun x hx => List.mem_cons_of_mem _ hx⟩
    | db =>
      show (if c = 34 then _ else _) = _ ∧ _
      unfold stepW at h
      simp only at h
      by_cases h1 : c = 34
      · rw [if_pos h1] at h ⊢; cases h; exact ⟨rfl, by rw [fd_cons (by rw [h1]; decide)], fun x hx => List.mem_cons_of_mem _ hx⟩
      rw [if_neg h1, if_neg h92] at h ⊢
      by_cases h3 : c = 36
      · rw [if_pos h3] at h ⊢
        obtain ⟨e1, e2, e3⟩ := namS_app b h
        exact ⟨e1, by rw [fd_cons (by rw [h3]; decide)]; exact e2, fun x hx => List.mem_cons_of_mem _ (e3 x hx)⟩
      · rw [if_neg h3] at h ⊢; cases h; exact ⟨rfl, nl_fd _ _ _, fun x hx => List.mem_cons_of_mem _ hx⟩
theorem stepW_fin {q : Q} {s : Tx} {n : Nat} (hb : Nb s) (h : stepW env q s n = .fin) : stepW env q (s ++ 10 :: b) n = .fin := by
  rcases s with _ | ⟨c, r⟩
  · cases q with
    | pl => rfl
    | sg => cases h
    | db => cases h
  · have h92 := hb.hd
    cases q with
    | pl =>
      show (if brk ((c :: r) ++ 10 :: b) = true then _ else _) = _
      rw [brk_app b (c :: r)]
      unfold stepW at h
      simp only at h
      by_cases hk : brk (c :: r) = true
      · rw [if_pos hk]
      rw [if_neg hk] at h
      exfalso
      by_cases h1 : c = 39
      · rw [if_pos h1] at h; cases h
      rw [if_neg h1] at h
      by_cases h2 : c = 34
      · rw [if_pos h2] at h; cases h
      rw [if_neg h2, if_neg h92] at h
      by_cases h3 : c = 36
      · rw [if_pos h3] at h; exact namS_fin h
      · rw [if_neg h3] at h; cases h
    | sg =>
      exfalso
      unfold stepW at h
      simp only at h
      by_cases h1 : c = 39
      · rw [if_pos h1] at h; cases h
      · rw [if_neg h1] at h; cases h
    | db =>
      exfalso
      unfold stepW at h
      simp only at h
      by_cases h1 : c = 34
      · rw [if_pos h1] at h; cases h
      rw [if_neg h1, if_neg h92] at h
      by_cases h3 : c = 36
      · rw [if_pos h3] at h; exact namS_fin h
      · rw [if_neg h3] at h; cases h
theorem wordF_app {m' s' : Tx} {n' : Nat} : ∀ {f f' : Nat} {q : Q} {m s : Tx} {n : Nat}, f ≤ f' → Nb s → wordF env f q m s n = .got m' s' n' →
    wordF env f' q m (s ++ 10 :: b) n = .got m' (s' ++ 10 :: b) n' ∧ n' + fd s' = n + fd s ∧ ∀ c ∈ s', c ∈ s
  | 0, _, _, _, _, _, _, _, h => by cases h
  | _ + 1, 0, _, _, _, _, hf, _, _ => by omega
  | f + 1, f' + 1, q, m, s, n, hf, hb, h => by
    unfold wordF at h ⊢
    cases hst : stepW env q s n with
    | bad e => rw [hst] at h; cases h
    | fin =>
      rw [hst] at h
      cases h
      rw [stepW_fin b hb hst]
      exact ⟨rfl, rfl, fun x hx => hx⟩
    | go q2 t s2 n2 =>
      rw [hst] at h
      obtain ⟨e1, e2, e3⟩ := stepW_app b hb hst
      rw [e1]
      simp only at h ⊢
      by_cases hlg : m.length + t.length > 8192
      · rw [if_pos hlg] at h; cases h
      · rw [if_neg hlg] at h ⊢
        obtain ⟨g1, g2, g3⟩ := wordF_app (f' := f') (by omega) (fun x hx => hb x (e3 x hx)) h
        exact ⟨g1, by omega, fun x hx => e3 x (g3 x hx)⟩
theorem home_app (c : UInt8) (r : Tx) : home ((c :: r) ++ 10 :: b) = home (c :: r) := by
  cases r with
  | nil => rfl
  | cons d q => rfl
theorem wordP_app {c : UInt8} {r m' s' : Tx} {n n' : Nat} (hb : Nb (c :: r)) (h : wordP env (c :: r) n = .got m' s' n') :
    wordP env ((c :: r) ++ 10 :: b) n = .got m' (s' ++ 10 :: b) n' ∧ n' + fd s' = n + fd (c :: r) ∧ ∀ x ∈ s', x ∈ c :: r := by
  unfold wordP at h ⊢
  rw [home_app b c r]
  by_cases hh : home (c :: r) = true
  · rw [if_pos hh] at h ⊢
    have hc : c = 126 := by
      unfold home at hh
      simp at hh
      exact hh.1
    by_cases hlg : (valP env homeL).length > 8192
    · rw [if_pos hlg] at h; cases h
    · rw [if_neg hlg] at h ⊢
      obtain ⟨g1, g2, g3⟩ := wordF_app b (f' := ((c :: r) ++ 10 :: b).length + 1) (by simp) (hb.tl) h
      exact ⟨g1, by rw [fd_cons (by rw [hc]; decide)]; exact g2, fun x hx => List.mem_cons_of_mem _ (g3 x hx)⟩
  · rw [if_neg hh] at h ⊢
    exact wordF_app b (f' := ((c :: r) ++ 10 :: b).length + 1) (by simp) hb h
end
end Go.Proofs.YtigpingkfinmiaaDoor.Lex
