/- lex, in plain words: lines further on; how much there is left. -/
import Derived.Test.YtplikjbajejciaaDoorQsw
namespace Go.Proofs.YtplikjbajejciaaDoor.Lex
open Go.RowKit
theorem nl_add (c : UInt8) (n k : Nat) : nl c (n + k) = nl c n + k := by unfold nl; split <;> omega
theorem tk_add (s : Tx) (n k : Nat) : tk s (n + k) = ((tk s n).1, (tk s n).2 + k) := by
  cases s with
  | nil => rfl
  | cons c r => show (r, nl c (n + k)) = (r, nl c n + k); rw [nl_add]
def shSb (k : Nat) : Sb → Sb
  | .bad => .bad
  | .fin s n => .fin s (n + k)
  | .go q d s n => .go q d s (n + k)
theorem onB_add (d : Int) (s : Tx) (n k : Nat) : onB d s (n + k) = shSb k (onB d s n) := by
  unfold onB
  split
  · rfl
  · split <;> rfl
theorem stepB_add (q : Q) (d : Int) (s : Tx) (n k : Nat) : stepB q d s (n + k) = shSb k (stepB q d s n) := by
  rcases s with _ | ⟨c, r⟩
  · cases q <;> rfl
  · cases q with
    | pl =>
      show (if c = 123 then onB (d + 1) r (n + k) else if c = 125 then onB (d - 1) r (n + k) else if c = 92 then onB d (tk r (n + k)).1 (tk r (n + k)).2 else if c = 39 then .go .sg d r (n + k) else if c = 34 then .go .db d r (n + k) else onB d r (nl c (n + k)))
        = shSb k (if c = 123 then onB (d + 1) r n else if c = 125 then onB (d - 1) r n else if c = 92 then onB d (tk r n).1 (tk r n).2 else if c = 39 then .go .sg d r n else if c = 34 then .go .db d r n else onB d r (nl c n))
      rw [tk_add, nl_add, onB_add, onB_add, onB_add, onB_add]
      repeat' split
      all_goals rfl
    | sg =>
      show (if c = 39 then .go .pl d r (n + k) else .go .sg d r (nl c (n + k))) = shSb k (if c = 39 then .go .pl d r n else .go .sg d r (nl c n))
      rw [nl_add]
      split <;> rfl
    | db =>
      show (if c = 92 then .go .db d (tk r (n + k)).1 (tk r (n + k)).2 else if c = 34 then .go .pl d r (n + k) else .go .db d r (nl c (n + k))) = shSb k (if c = 92 then .go .db d (tk r n).1 (tk r n).2 else if c = 34 then .go .pl d r n else .go .db d r (nl c n))
      rw [nl_add, tk_add]
      repeat' split
      all_goals rfl
theorem blockF_add (k : Nat) : ∀ (f : Nat) (q : Q) (d : Int) (s : Tx) (n : Nat), blockF f q d s (n + k) = (blockF f q d s n).map fun p => (p.1, p.2 + k)
  | 0, _, _, _, _ => rfl
  | f + 1, q, d, s, n => by
    unfold blockF
    rw [stepB_add]
    cases stepB q d s n with
    | bad => rfl
    | fin s' n' => rfl
    | go q' d' s' n' => exact blockF_add k f q' d' s' n'
def shSp (k : Nat) : Sp → Sp
  | .bad e => .bad e
  | .fin => .fin
  | .go q t s n => .go q t s (n + k)
theorem escS_add (q : Q) (f : Tx → Tx) (s : Tx) (n k : Nat) : escS q f s (n + k) = shSp k (escS q f s n) := by
  rcases s with _ | ⟨c, r⟩
  · rfl
  · unfold escS
    rw [esc_cons, esc_cons]
    split
    · rename_i h
      split at h
      · cases h
      · cases h
    · rename_i t r2 k2 h
      split at h
      · rename_i hc
        rw [if_pos hc]
        simp only [Option.some.injEq, Prod.mk.injEq] at h
        obtain ⟨rfl, rfl, rfl⟩ := h
        show Sp.go q (f []) r (n + k + 1) = .go q (f []) r (n + 1 + k)
        rw [Nat.add_right_comm]
      · rename_i hc
        rw [if_neg hc]
        simp only [Option.some.injEq, Prod.mk.injEq] at h
        obtain ⟨rfl, rfl, rfl⟩ := h
        rfl
theorem namS_add (env : Env) (q : Q) (s : Tx) (n k : Nat) : namS env q s (n + k) = shSp k (namS env q s n) := by
  unfold namS
  cases nam env s with
  | none => rfl
  | some p => rfl
theorem stepW_add (env : Env) (q : Q) (s : Tx) (n k : Nat) : stepW env q s (n + k) = shSp k (stepW env q s n) := by
  rcases s with _ | ⟨c, r⟩
  · cases q <;> rfl
  · cases q with
    | pl =>
      show (if brk (c :: r) then .fin else if c = 39 then .go .sg [] r (n + k) else if c = 34 then .go .db [] r (n + k) else if c = 92 then escS .pl id r (n + k) else if c = 36 then namS env .pl r (n + k) else .go .pl [c] r (n + k))
        = shSp k (if brk (c :: r) then .fin else if c = 39 then .go .sg [] r n else if c = 34 then .go .db [] r n else if c = 92 then escS .pl id r n else if c = 36 then namS env .pl r n else .go .pl [c] r n)
      rw [escS_add, namS_add]
      repeat' split
      all_goals rfl
    | sg =>
      show (if c = 39 then .go .pl [] r (n + k) else .go .sg [c] r (nl c (n + k))) = shSp k (if c = 39 then .go .pl [] r n else .go .sg [c] r (nl c n))
      rw [nl_add]
      split <;> rfl
    | db =>
      show (if c = 34 then .go .pl [] r (n + k) else if c = 92 then escS .db lett r (n + k) else if c = 36 then namS env .db r (n + k) else .go .db [c] r (nl c (n + k)))
        = shSp k (if c = 34 then .go .pl [] r n else if c = 92 then escS .db lett r n else if c = 36 then namS env .db r n else .go .db [c] r (nl c n))
      rw [escS_add, namS_add, nl_add]
      repeat' split
      all_goals rfl
def shWR (k : Nat) : WR → WR
  | .bad e => .bad e
  | .got m s n => .got m s (n + k)
theorem wordF_add (env : Env) (k : Nat) : ∀ (f : Nat) (q : Q) (m s : Tx) (n : Nat), wordF env f q m s (n + k) = shWR k (wordF env f q m s n)
  | 0, _, _, _, _ => rfl
  | f + 1, q, m, s, n => by
    unfold wordF
    rw [stepW_add]
    cases stepW env q s n with
    | bad e => rfl
    | fin => rfl
    | go q' t s' n' =>
      show (if m.length + t.length > 8192 then WR.bad 2 else wordF env f q' (m ++ t) s' (n' + k)) = shWR k (if m.length + t.length > 8192 then WR.bad 2 else wordF env f q' (m ++ t) s' n')
      rw [wordF_add env k f]
      split <;> rfl
theorem wordP_add (env : Env) (s : Tx) (n k : Nat) : wordP env s (n + k) = shWR k (wordP env s n) := by
  unfold wordP
  rw [wordF_add, wordF_add]
  repeat' split
  all_goals rfl
def shL (k : Nat) (L : List Ln) : List Ln := L.map fun l => { l with words := shW k l.words }
def shSr (k : Nat) : Sr → Sr
  | .bad e => .bad e
  | .fin => .fin
  | .go L ws g s n => .go (shL k L) (shW k ws) g s (n + k)
def shRR (k : Nat) : RR → RR
  | .bad e l => .bad e (l + k)
  | .done L => .done (shL k L)
theorem shW_len (k : Nat) (l : List Wd) : (shW k l).length = l.length := List.length_map _
theorem shL_len (k : Nat) (l : List Ln) : (shL k l).length = l.length := List.length_map _
theorem shW_nil {k : Nat} {l : List Wd} : shW k l = [] ↔ l = [] := by unfold shW; exact List.map_eq_nil_iff
theorem endC_add (k : Nat) (L : List Ln) (ws : List Wd) (g : Nat) : endC (shL k L) (shW k ws) g = shL k (endC L ws g) := by
  unfold endC
  by_cases h : ws = []
  · rw [if_pos h, if_pos (shW_nil.2 h)]
  · rw [if_neg h, if_neg (fun e => h (shW_nil.1 e))]
    unfold shL
    rw [List.map_append]; rfl
theorem grp_add (k : Nat) (L : List Ln) (g : Nat) : grp (shL k L) g = grp L g := by
  unfold grp shL
  rw [List.getLast?_map]
  cases L.getLast? with
  | none => rfl
  | some l => rfl
theorem many_add (k : Nat) (L : List Ln) (ws : List Wd) : many (shL k L) (shW k ws) = many L ws := by
  unfold many
  rw [shW_len, shL_len]
  cases ws <;> rfl
theorem shW_snoc (k : Nat) (ws : List Wd) (x : Wd) : shW k (ws ++ [x]) = shW k ws ++ [sh k x] := by unfold shW; rw [List.map_append]; rfl
end Go.Proofs.YtplikjbajejciaaDoor.Lex
