/- lex, in plain words: a step between words, further on; each step takes bytes; lines are bounded. -/
import Derived.Test.YtplikjbajejciaaDoorQps
import Derived.Test.YtplikjbajejciaaDoorQr4
import Derived.Test.YtplikjbajejciaaDoorQr3
namespace Go.Proofs.YtplikjbajejciaaDoor.Lex
open Go.RowKit
theorem stepR_cons (env : Env) (L : List Ln) (ws : List Wd) (g : Nat) (c : UInt8) (r : Tx) (n : Nat) : stepR env L ws g (c :: r) n =
    if c = 10 then .go (endC L ws g) [] (grp (endC L ws g) g) r (n + 1)
    else if c = 59 then .go (endC L ws g) [] g r n
    else if c = 32 ∨ c = 9 then .go L ws g r n
    else if c = 35 then .go L ws g (skipR (c :: r)) n
    else if c = 123 then
      if many L ws then .bad 3
      else match blockP (c :: r) n with
        | none => .bad 4
        | some (s', n') => .go L (ws ++ [⟨r.take (r.length - (s'.length + 1)), n, true⟩]) g s' n'
    else if c = 125 then .bad 4
    else if c = 92 ∧ r.head? = some 10 then .go L ws g r.tail (n + 1)
    else if many L ws then .bad 3
    else match wordP env (c :: r) n with
      | .bad e => .bad e
      | .got t s' n' => .go L (ws ++ [⟨t, n, false⟩]) g s' n' := by
  generalize hX : blockP (c :: r) n = X
  generalize hY : wordP env (c :: r) n = Y
  simp only [stepR, hX, hY]
  clear hX hY
  rfl
theorem stepR_add (env : Env) (L : List Ln) (ws : List Wd) (g : Nat) (s : Tx) (n k : Nat) : stepR env (shL k L) (shW k ws) g s (n + k) = shSr k (stepR env L ws g s n) := by
  rcases s with _ | ⟨c, r⟩
  · rfl
  · rw [stepR_cons, stepR_cons, endC_add, grp_add, many_add, wordP_add]
    have hb : blockP (c :: r) (n + k) = (blockP (c :: r) n).map fun p => (p.1, p.2 + k) := blockF_add k _ _ _ _ _
    rw [hb]
    generalize blockP (c :: r) n = X
    generalize wordP env (c :: r) n = Y
    by_cases h1 : c = 10
    · rw [if_pos h1, if_pos h1]; show Sr.go _ [] _ r (n + k + 1) = Sr.go _ (shW k []) _ r (n + 1 + k); rw [Nat.add_right_comm]; rfl
    rw [if_neg h1, if_neg h1]
    by_cases h2 : c = 59
    · rw [if_pos h2, if_pos h2]; rfl
    rw [if_neg h2, if_neg h2]
    by_cases h3 : c = 32 ∨ c = 9
    · rw [if_pos h3, if_pos h3]; rfl
    rw [if_neg h3, if_neg h3]
    by_cases h4 : c = 35
    · rw [if_pos h4, if_pos h4]; rfl
    rw [if_neg h4, if_neg h4]
    by_cases h5 : c = 123
    · rw [if_pos h5, if_pos h5]
      by_cases hm : many L ws = true
      · rw [if_pos hm, if_pos hm]; rfl
      · rw [if_neg hm, if_neg hm]
        cases X with
        | none => rfl
        | some p => show Sr.go _ (shW k ws ++ [sh k ⟨r.take (r.length - (p.1.length + 1)), n, true⟩]) g p.1 (p.2 + k) = Sr.go _ (shW k (ws ++ [⟨r.take (r.length - (p.1.length + 1)), n, true⟩])) g p.1 (p.2 + k); rw [shW_snoc]
    rw [if_neg h5, if_neg h5]
    by_cases h6 : c = 125
    · rw [if_pos h6, if_pos h6]; rfl
    rw [if_neg h6, if_neg h6]
    by_cases h7 : c = 92 ∧ r.head? = some 10
    · rw [if_pos h7, if_pos h7]; show Sr.go _ _ _ _ (n + k + 1) = Sr.go _ _ _ _ (n + 1 + k); rw [Nat.add_right_comm]
    rw [if_neg h7, if_neg h7]
    by_cases hm : many L ws = true
    · rw [if_pos hm, if_pos hm]; rfl
    · rw [if_neg hm, if_neg hm]
      cases Y with
      | bad e => rfl
      | got t s' n' => show Sr.go _ (shW k ws ++ [sh k ⟨t, n, false⟩]) g s' (n' + k) = Sr.go _ (shW k (ws ++ [⟨t, n, false⟩])) g s' (n' + k); rw [shW_snoc]
theorem tk_line (r : Tx) (n : Nat) : (tk r n).2 + (tk r n).1.length ≤ n + r.length := by
  cases r with
  | nil => exact Nat.le_refl _
  | cons c r => show nl c n + r.length ≤ n + (r.length + 1); have := nl_le c n; omega
theorem blockF_line {q : Q} {d : Int} {s s' : Tx} {n n' : Nat} : ∀ {f : Nat}, blockF f q d s n = some (s', n') → n' + s'.length ≤ n + s.length := by
  intro f
  induction f generalizing q d s n with
  | zero => intro h; cases h
  | succ f ih =>
    intro h
    have key : ∀ {q' : Q} {d' : Int} {s1 : Tx} {n1 : Nat}, stepB q d s n = .go q' d' s1 n1 → n1 + s1.length ≤ n + s.length → n' + s'.length ≤ n + s.length := fun hst hl => by
      have := ih (blockF_go h hst); omega
    have kon : ∀ {d' : Int} {s1 : Tx} {n1 : Nat}, stepB q d s n = onB d' s1 n1 → n1 + s1.length ≤ n + s.length → n' + s'.length ≤ n + s.length := fun {d' s1 n1} hst hl => by
      unfold onB at hst
      split at hst
      · exact key hst hl
      · split at hst
        · have := blockF_fin h hst; cases this; exact hl
        · have := blockF_bad h hst; cases this
    rcases s with _ | ⟨c, r⟩
    · cases q <;> (have := blockF_bad h rfl; cases this)
    · have hk := tk_line r n
      have hn := nl_le c n
      have hr : n + r.length ≤ n + (c :: r).length := by rw [List.length_cons]; omega
      have ht : (tk r n).2 + (tk r n).1.length ≤ n + (c :: r).length := by omega
      have hnl : nl c n + r.length ≤ n + (c :: r).length := by rw [List.length_cons]; omega
      cases q with
      | pl =>
        have hst : stepB .pl d (c :: r) n = if c = 123 then onB (d + 1) r n else if c = 125 then onB (d - 1) r n else if c = 92 then onB d (tk r n).1 (tk r n).2 else if c = 39 then .go .sg d r n else if c = 34 then .go .db d r n else onB d r (nl c n) := rfl
        split at hst
        · exact kon hst hr
        · split at hst
          · exact kon hst hr
          · split at hst
            · exact kon hst ht
            · split at hst
              · exact key hst hr
              · split at hst
                · exact key hst hr
                · exact kon hst hnl
      | sg =>
        have hst : stepB .sg d (c :: r) n = if c = 39 then .go .pl d r n else .go .sg d r (nl c n) := rfl
        split at hst
        · exact key hst hr
        · exact key hst hnl
      | db =>
        have hst : stepB .db d (c :: r) n = if c = 92 then .go .db d (tk r n).1 (tk r n).2 else if c = 34 then .go .pl d r n else .go .db d r (nl c n) := rfl
        split at hst
        · exact key hst ht
        · split at hst
          · exact key hst hr
          · exact key hst hnl
theorem esc_line {s t r : Tx} {n k : Nat} (he : esc s n = some (t, r, k)) : k + r.length ≤ n + s.length := by
  rcases s with _ | ⟨c, s⟩
  · cases he
  · rw [esc_cons] at he
    split at he <;> (simp only [Option.some.injEq, Prod.mk.injEq] at he; obtain ⟨_, rfl, rfl⟩ := he; rw [List.length_cons]; omega)
theorem wordF_line {env : Env} {q : Q} {m m' s s' : Tx} {n n' : Nat} (he : EnvOk env) : ∀ {f : Nat}, wordF env f q m s n = .got m' s' n' → n' + s'.length ≤ n + s.length := by
  intro f
  induction f generalizing q m s n with
  | zero => intro h; cases h
  | succ f ih =>
    intro h
    have key : ∀ {q' : Q} {t s1 : Tx} {n1 : Nat}, stepW env q s n = .go q' t s1 n1 → n1 + s1.length ≤ n + s.length → n' + s'.length ≤ n + s.length := fun {q' t s1 n1} hst hl => by
      obtain ⟨g1, g2⟩ := wordF_go h hst
      by_cases hlong : m.length + t.length > 8192
      · have := g1 hlong; cases this
      · have := ih (g2 hlong); omega
    have kes : ∀ {q' : Q} {fn : Tx → Tx} {r : Tx}, stepW env q s n = escS q' fn r n → r.length ≤ s.length → n' + s'.length ≤ n + s.length := fun {q' fn r} hst hl => by
      unfold escS at hst
      cases hx : esc r n with
      | none => rw [hx] at hst; have := wordF_bad h hst; cases this
      | some p =>
        obtain ⟨t, r2, k⟩ := p
        rw [hx] at hst
        exact key hst (by have := esc_line hx; omega)
    have kna : ∀ {q' : Q} {r : Tx}, stepW env q s n = namS env q' r n → r.length ≤ s.length → n' + s'.length ≤ n + s.length := fun {q' r} hst hl => by
      unfold namS at hst
      cases hx : nam env r with
      | none => rw [hx] at hst; have := wordF_bad h hst; cases this
      | some p =>
        obtain ⟨t, r2⟩ := p
        rw [hx] at hst
        exact key hst (by have := (nam_len he hx).1; omega)
    rcases s with _ | ⟨c, r⟩
    · cases q with
      | pl => have := wordF_fin h rfl; cases this; exact Nat.le_refl _
      | sg => have := wordF_bad h rfl; cases this
      | db => have := wordF_bad h rfl; cases this
    · have hn := nl_le c n
      have hr : n + r.length ≤ n + (c :: r).length := by rw [List.length_cons]; omega
      have hnl : nl c n + r.length ≤ n + (c :: r).length := by rw [List.length_cons]; omega
      have hrl : r.length ≤ (c :: r).length := by rw [List.length_cons]; omega
      cases q with
      | pl =>
        have hst : stepW env .pl (c :: r) n = if brk (c :: r) then .fin else if c = 39 then .go .sg [] r n else if c = 34 then .go .db [] r n else if c = 92 then escS .pl id r n else if c = 36 then namS env .pl r n else .go .pl [c] r n := rfl
        split at hst
        · have := wordF_fin h hst; cases this; exact Nat.le_refl _
        · split at hst
          · exact key hst hr
          · split at hst
            · exact key hst hr
            · split at hst
              · exact kes hst hrl
              · split at hst
                · exact kna hst hrl
                · exact key hst hr
      | sg =>
        have hst : stepW env .sg (c :: r) n = if c = 39 then .go .pl [] r n else .go .sg [c] r (nl c n) := rfl
        split at hst
        · exact key hst hr
        · exact key hst hnl
      | db =>
        have hst : stepW env .db (c :: r) n = if c = 34 then .go .pl [] r n else if c = 92 then escS .db lett r n else if c = 36 then namS env .db r n else .go .db [c] r (nl c n) := rfl
        split at hst
        · exact key hst hr
        · split at hst
          · exact kes hst hrl
          · split at hst
            · exact kna hst hrl
            · exact key hst hnl
theorem wordP_line {env : Env} {s s' m' : Tx} {n n' : Nat} (he : EnvOk env) (h : wordP env s n = .got m' s' n') : n' + s'.length ≤ n + s.length := by
  unfold wordP at h
  split at h
  · split at h
    · cases h
    · have := wordF_line he h
      have h2 : s.tail.length ≤ s.length := by cases s <;> simp
      omega
  · exact wordF_line he h
theorem step_len {env : Env} (he : EnvOk env) {L L' : List Ln} {ws ws' : List Wd} {g g' n n' : Nat} {s s' : Tx} (h : stepR env L ws g s n = .go L' ws' g' s' n') :
    s'.length < s.length ∧ n' + s'.length ≤ n + s.length := by
  rcases s with _ | ⟨c, r⟩
  · cases h
  · rw [stepR_cons] at h
    have hsk : (skipR r).length ≤ r.length := skipR_le r
    by_cases h1 : c = 10
    · rw [if_pos h1] at h; cases h; rw [List.length_cons]; omega
    rw [if_neg h1] at h
    by_cases h2 : c = 59
    · rw [if_pos h2] at h; cases h; rw [List.length_cons]; omega
    rw [if_neg h2] at h
    by_cases h3 : c = 32 ∨ c = 9
    · rw [if_pos h3] at h; cases h; rw [List.length_cons]; omega
    rw [if_neg h3] at h
    by_cases h4 : c = 35
    · rw [if_pos h4] at h
      have e : skipR (c :: r) = skipR r := by show (if c = 10 then c :: r else skipR r) = _; rw [if_neg h1]
      rw [e] at h
      cases h; rw [List.length_cons]; omega
    rw [if_neg h4] at h
    by_cases h5 : c = 123
    · rw [if_pos h5] at h
      by_cases hm : many L ws = true
      · rw [if_pos hm] at h; cases h
      · rw [if_neg hm] at h
        cases hb : blockP (c :: r) n with
        | none => rw [hb] at h; cases h
        | some p =>
          obtain ⟨s1, n1⟩ := p
          rw [hb] at h
          have e1 := blockP_len hb
          have e2 : n1 + s1.length ≤ n + (c :: r).length := blockF_line hb
          cases h
          exact ⟨e1, e2⟩
    rw [if_neg h5] at h
    by_cases h6 : c = 125
    · rw [if_pos h6] at h; cases h
    rw [if_neg h6] at h
    by_cases h7 : c = 92 ∧ r.head? = some 10
    · rw [if_pos h7] at h
      cases h
      have : r.tail.length + 1 ≤ r.length := by cases r with
        | nil => have := h7.2; cases this
        | cons d q => simp
      rw [List.length_cons]; omega
    rw [if_neg h7] at h
    by_cases hm : many L ws = true
    · rw [if_pos hm] at h; cases h
    · rw [if_neg hm] at h
      have hbr : brk (c :: r) = false := by
        have a1 : ¬ c = 32 := fun e => h3 (.inl e)
        have a2 : ¬ c = 9 := fun e => h3 (.inr e)
        unfold brk; simp [a1, a2, h1, h2]
      cases hw : wordP env (c :: r) n with
      | bad e => rw [hw] at h; cases h
      | got t s1 n1 =>
        rw [hw] at h
        have e1 := wordP_len he hbr hw
        have e2 := wordP_line he hw
        cases h
        exact ⟨e1, e2⟩
theorem readF_add {env : Env} (he : EnvOk env) (k : Nat) : ∀ (f : Nat) (L : List Ln) (ws : List Wd) (g : Nat) (s : Tx) (n : Nat), s.length < f → readF env f (shL k L) (shW k ws) g s (n + k) = shRR k (readF env f L ws g s n)
  | 0, _, _, _, _, _, h => by cases h
  | f + 1, L, ws, g, s, n, h => by
    unfold readF
    rw [stepR_add]
    cases hst : stepR env L ws g s n with
    | bad e => rfl
    | fin => show RR.done _ = RR.done _; rw [endC_add]
    | go L' ws' g' s' n' => exact readF_add he k f L' ws' g' s' n' (by have := (step_len he hst).1; omega)
theorem readF_fuel {env : Env} (he : EnvOk env) : ∀ (f f' : Nat) (L : List Ln) (ws : List Wd) (g : Nat) (s : Tx) (n : Nat), s.length < f → s.length < f' → readF env f L ws g s n = readF env f' L ws g s n
  | 0, _, _, _, _, _, _, h, _ => by cases h
  | _ + 1, 0, _, _, _, _, _, _, h => by cases h
  | f + 1, f' + 1, L, ws, g, s, n, h, h' => by
    unfold readF
    cases hst : stepR env L ws g s n with
    | bad e => rfl
    | fin => rfl
    | go L' ws' g' s' n' => exact readF_fuel he f f' L' ws' g' s' n' (by have := (step_len he hst).1; omega) (by have := (step_len he hst).1; omega)
end Go.Proofs.YtplikjbajejciaaDoor.Lex
