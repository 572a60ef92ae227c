/- lex: a block takes bytes. -/
import Derived.Test.YtplikjbajejciaaDoorQrh
namespace Go.Proofs.YtplikjbajejciaaDoor.Lex
open Go.RowKit Go.Maps
section
variable {B rb n f m : Nat} {w0 w : World} {K : Kp} {env : Env} {ls : List LV} {ws : List Wd} {s : Tx} {R : RR} {a : Act}
theorem stepR_blk (env : Env) (L : List Ln) (ws : List Wd) (g : Nat) (r : Tx) (n : Nat) : stepR env L ws g (123 :: r) n = if many L ws then .bad 3 else match blockP (123 :: r) n with
        | none => .bad 4
        | some (s', n') => .go L (ws ++ [⟨r.take (r.length - (s'.length + 1)), n, true⟩]) g s' n' := by
  have a : ¬ (123 : UInt8) = 10 := by decide
  have b : ¬ (123 : UInt8) = 59 := by decide
  have c : ¬ ((123 : UInt8) = 32 ∨ (123 : UInt8) = 9) := by decide
  have d : ¬ (123 : UInt8) = 35 := by decide
  generalize hX : blockP (123 :: r) n = X
  simp only [stepR, hX, if_neg a, if_neg b, if_neg c, if_neg d, if_true]
  clear hX
  rfl
theorem blockF_len {q : Q} {d : Int} {s s' : Tx} {n n' : Nat} : ∀ {f : Nat}, blockF f q d s n = some (s', n') → s'.length < s.length := by
  intro f
  induction f generalizing q d s n with
  | zero => intro h; cases h
  | succ f ih =>
    intro h
    have key : ∀ {q' : Q} {d' : Int} {s1 : Tx} {n1 : Nat}, stepB q d s n = .go q' d' s1 n1 → s1.length < s.length → s'.length < s.length := fun hst hl => by
      have := ih (blockF_go h hst); omega
    have kon : ∀ {d' : Int} {s1 : Tx} {n1 : Nat}, stepB q d s n = onB d' s1 n1 → s1.length < s.length → s'.length < s.length := fun {d' s1 n1} hst hl => by
      unfold onB at hst
      split at hst
      · exact key hst hl
      · split at hst
        · have := blockF_fin h hst; cases this; exact hl
        · have := blockF_bad h hst; cases this
    have ktk : ∀ {r : Tx} {k : Nat}, (tk r k).1.length ≤ r.length := by
      intro r k; cases r <;> simp [tk]
    rcases s with _ | ⟨c, r⟩
    · cases q <;> (have := blockF_bad h rfl; cases this)
    · have hk := ktk (r := r) (k := n)
      cases q with
      | pl =>
        have hst : stepB .pl d (c :: r) n = if c = 123 then onB (d + 1) r n else if c = 125 then onB (d - 1) r n else if c = 92 then onB d (tk r n).1 (tk r n).2 else if c = 39 then .go .sg d r n else if c = 34 then .go .db d r n else onB d r (nl c n) := rfl
        split at hst
        · exact kon hst (by simp)
        · split at hst
          · exact kon hst (by simp)
          · split at hst
            · exact kon hst (by simp; omega)
            · split at hst
              · exact key hst (by simp)
              · split at hst
                · exact key hst (by simp)
                · exact kon hst (by simp)
      | sg =>
        have hst : stepB .sg d (c :: r) n = if c = 39 then .go .pl d r n else .go .sg d r (nl c n) := rfl
        split at hst <;> exact key hst (by simp)
      | db =>
        have hst : stepB .db d (c :: r) n = if c = 92 then .go .db d (tk r n).1 (tk r n).2 else if c = 34 then .go .pl d r n else .go .db d r (nl c n) := rfl
        split at hst
        · exact key hst (by simp; omega)
        · split at hst <;> exact key hst (by simp)
theorem blockP_len {s s' : Tx} {n n' : Nat} (h : blockP s n = some (s', n')) : s'.length < s.length := blockF_len h
/-- A block, seen from between words. -/
theorem RH.block {B G : Nat} {r : Tx} (h : RH B G rb w K env ls ws (123 :: r) n) :
    Calls Tryd.prog 44 #[ptrV rb] w fun e w' => match blockP (123 :: r) n with
      | none => e = .panicked (ftP 4 K.bg) ∧ Only [rb] w w'
      | some (s', n') => e = .returned (.string (bs (r.take (r.length - (s'.length + 1))))) ∧ RH B G rb w' K env ls ws s' n' ∧ Only [rb] w w' := by
  refine (block_any h.cx).mono fun e w' he => ?_
  unfold BP at he
  cases hb : blockP (123 :: r) n with
  | none => rw [hb] at he; exact he
  | some p =>
    obtain ⟨s', n'⟩ := p
    rw [hb] at he
    exact ⟨he.1, h.go he.2.1 he.2.2 rfl rfl rfl (Nat.le_of_lt (blockP_len hb)), he.2.2⟩
end
end Go.Proofs.YtplikjbajejciaaDoor.Lex
