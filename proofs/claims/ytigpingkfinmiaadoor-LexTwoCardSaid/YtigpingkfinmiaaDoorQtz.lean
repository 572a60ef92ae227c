/- lex, in plain words: what is wrong has a number. -/
import Derived.Test.YtigpingkfinmiaaDoorQty
import Derived.Test.YtigpingkfinmiaaDoorQrk
namespace Go.Proofs.YtigpingkfinmiaaDoor.Lex
open Go.RowKit
section
variable {env : Env}
theorem escS_bad {q : Q} {fn : Tx → Tx} {s : Tx} {n e : Nat} (h : escS q fn s n = .bad e) : e = 4 := by
  unfold escS at h
  cases hx : esc s n with
  | none => rw [hx] at h; cases h; rfl
  | some p => obtain ⟨t, r, k⟩ := p; rw [hx] at h; cases h
theorem namS_bad {q : Q} {s : Tx} {n e : Nat} (h : namS env q s n = .bad e) : e = 4 := by
  unfold namS at h
  cases hx : nam env s with
  | none => rw [hx] at h; cases h; rfl
  | some p => obtain ⟨t, r⟩ := p; rw [hx] at h; cases h
theorem escS_le {q q' : Q} {fn : Tx → Tx} {s t s' : Tx} {n n' : Nat} (h : escS q fn s n = .go q' t s' n') : s'.length ≤ s.length := by
  unfold escS at h
  cases hx : esc s n with
  | none => rw [hx] at h; cases h
  | some p => obtain ⟨t1, r, k⟩ := p; rw [hx] at h; cases h; have := (esc_len hx).1; omega
theorem namS_le (he : EnvOk env) {q q' : Q} {s t s' : Tx} {n n' : Nat} (h : namS env q s n = .go q' t s' n') : s'.length ≤ s.length := by
  unfold namS at h
  cases hx : nam env s with
  | none => rw [hx] at h; cases h
  | some p => obtain ⟨t1, r⟩ := p; rw [hx] at h; cases h; have := (nam_len he hx).1; omega
theorem stepW_pl (c : UInt8) (r : Tx) (n : Nat) : stepW env .pl (c :: r) n =
    if brk (c :: r) then .fin
    else if c = 39 then .go .sg [] r n
    else if c = 34 then .go .db [] r n
    else if c = 92 then escS .pl id r n
    else if c = 36 then namS env .pl r n
    else .go .pl [c] r n := rfl
theorem stepW_sg (c : UInt8) (r : Tx) (n : Nat) : stepW env .sg (c :: r) n = if c = 39 then .go .pl [] r n else .go .sg [c] r (nl c n) := rfl
theorem stepW_db (c : UInt8) (r : Tx) (n : Nat) : stepW env .db (c :: r) n =
    if c = 34 then .go .pl [] r n
    else if c = 92 then escS .db lett r n
    else if c = 36 then namS env .db r n
    else .go .db [c] r (nl c n) := rfl
theorem stepW_lt (he : EnvOk env) {q q' : Q} {s t s' : Tx} {n n' : Nat} (h : stepW env q s n = .go q' t s' n') : s'.length < s.length := by
  rcases s with _ | ⟨c, r⟩
  · cases q <;> cases h
  · rw [List.length_cons]
    cases q with
    | pl =>
      rw [stepW_pl] at h
      by_cases h0 : brk (c :: r) = true
      · rw [if_pos h0] at h; cases h
      rw [if_neg h0] at h
      by_cases h1 : c = 39
      · rw [if_pos h1] at h; cases h; omega
      rw [if_neg h1] at h
      by_cases h2 : c = 34
      · rw [if_pos h2] at h; cases h; omega
      rw [if_neg h2] at h
      by_cases h3 : c = 92
      · rw [if_pos h3] at h; have := escS_le h; omega
      rw [if_neg h3] at h
      by_cases h4 : c = 36
      · rw [if_pos h4] at h; have := namS_le he h; omega
      rw [if_neg h4] at h; cases h; omega
    | sg =>
      rw [stepW_sg] at h
      by_cases h1 : c = 39
      · rw [if_pos h1] at h; cases h; omega
      rw [if_neg h1] at h; cases h; omega
    | db =>
      rw [stepW_db] at h
      by_cases h2 : c = 34
      · rw [if_pos h2] at h; cases h; omega
      rw [if_neg h2] at h
      by_cases h3 : c = 92
      · rw [if_pos h3] at h; have := escS_le h; omega
      rw [if_neg h3] at h
      by_cases h4 : c = 36
      · rw [if_pos h4] at h; have := namS_le he h; omega
      rw [if_neg h4] at h; cases h; omega
theorem stepW_bad {q : Q} {s : Tx} {n e : Nat} (h : stepW env q s n = .bad e) : e = 4 := by
  rcases s with _ | ⟨c, r⟩
  · cases q <;> cases h <;> rfl
  · cases q with
    | pl =>
      rw [stepW_pl] at h
      by_cases h0 : brk (c :: r) = true
      · rw [if_pos h0] at h; cases h
      rw [if_neg h0] at h
      by_cases h1 : c = 39
      · rw [if_pos h1] at h; cases h
      rw [if_neg h1] at h
      by_cases h2 : c = 34
      · rw [if_pos h2] at h; cases h
      rw [if_neg h2] at h
      by_cases h3 : c = 92
      · rw [if_pos h3] at h; exact escS_bad h
      rw [if_neg h3] at h
      by_cases h4 : c = 36
      · rw [if_pos h4] at h; exact namS_bad h
      rw [if_neg h4] at h; cases h
    | sg =>
      rw [stepW_sg] at h
      by_cases h1 : c = 39
      · rw [if_pos h1] at h; cases h
      rw [if_neg h1] at h; cases h
    | db =>
      rw [stepW_db] at h
      by_cases h2 : c = 34
      · rw [if_pos h2] at h; cases h
      rw [if_neg h2] at h
      by_cases h3 : c = 92
      · rw [if_pos h3] at h; exact escS_bad h
      rw [if_neg h3] at h
      by_cases h4 : c = 36
      · rw [if_pos h4] at h; exact namS_bad h
      rw [if_neg h4] at h; cases h
theorem wordF_ne (he : EnvOk env) : ∀ (f : Nat) {q : Q} {m s : Tx} {n e : Nat}, s.length < f → wordF env f q m s n = .bad e → e ≠ 0
  | 0, _, _, _, _, _, h, _ => by cases h
  | f + 1, q, m, s, n, e, hf, h => by
    unfold wordF at h
    cases hst : stepW env q s n with
    | bad e1 => rw [hst] at h; cases h; have := stepW_bad hst; omega
    | fin => rw [hst] at h; cases h
    | go q2 t s2 n2 =>
      rw [hst] at h
      simp only at h
      by_cases hlg : m.length + t.length > 8192
      · rw [if_pos hlg] at h; cases h; decide
      · rw [if_neg hlg] at h
        exact wordF_ne he f (by have := stepW_lt he hst; omega) h
theorem wordP_ne (he : EnvOk env) {s : Tx} {n e : Nat} (h : wordP env s n = .bad e) : e ≠ 0 := by
  unfold wordP at h
  by_cases hh : home s = true
  · rw [if_pos hh] at h
    by_cases hlg : (valP env homeL).length > 8192
    · rw [if_pos hlg] at h; cases h; decide
    · rw [if_neg hlg] at h
      exact wordF_ne he _ (by cases s <;> simp <;> omega) h
  · rw [if_neg hh] at h
    exact wordF_ne he _ (by omega) h
theorem stepR_ne (he : EnvOk env) {L : List Ln} {ws : List Wd} {g n e : Nat} {s : Tx} (h : stepR env L ws g s n = .bad e) : e ≠ 0 := by
  rcases s with _ | ⟨c, r⟩
  · cases h
  · rw [stepR_cons] at h
    by_cases h1 : c = 10
    · rw [if_pos h1] at h; cases h
    rw [if_neg h1] at h
    by_cases h2 : c = 59
    · rw [if_pos h2] at h; cases h
    rw [if_neg h2] at h
    by_cases h3 : c = 32 ∨ c = 9
    · rw [if_pos h3] at h; cases h
    rw [if_neg h3] at h
    by_cases h4 : c = 35
    · rw [if_pos h4] at h; cases h
    rw [if_neg h4] at h
    by_cases h5 : c = 123
    · rw [if_pos h5] at h
      by_cases hm : many L ws = true
      · rw [if_pos hm] at h; cases h; decide
      · rw [if_neg hm] at h
        cases hb : blockP (c :: r) n with
        | none => rw [hb] at h; cases h; decide
        | some p => obtain ⟨s1, n1⟩ := p; rw [hb] at h; cases h
    rw [if_neg h5] at h
    by_cases h6 : c = 125
    · rw [if_pos h6] at h; cases h; decide
    rw [if_neg h6] at h
    by_cases h7 : c = 92 ∧ r.head? = some 10
    · rw [if_pos h7] at h; cases h
    rw [if_neg h7] at h
    by_cases hm : many L ws = true
    · rw [if_pos hm] at h; cases h; decide
    · rw [if_neg hm] at h
      cases hw : wordP env (c :: r) n with
      | bad e1 => rw [hw] at h; cases h; exact wordP_ne he hw
      | got t s1 n1 => rw [hw] at h; cases h
theorem readF_ne (he : EnvOk env) : ∀ (f : Nat) {L : List Ln} {ws : List Wd} {g n e l : Nat} {s : Tx}, s.length < f → readF env f L ws g s n = .bad e l → e ≠ 0
  | 0, _, _, _, _, _, _, _, h, _ => by cases h
  | f + 1, L, ws, g, n, e, l, s, hf, h => by
    unfold readF at h
    cases hst : stepR env L ws g s n with
    | bad e1 => rw [hst] at h; cases h; exact stepR_ne he hst
    | fin => rw [hst] at h; cases h
    | go L2 ws2 g2 s2 n2 =>
      rw [hst] at h
      exact readF_ne he f (by have := (step_len he hst).1; omega) h
theorem splitP_ne (he : EnvOk env) {s : Tx} {e l : Nat} (h : splitP env s = .bad e l) : e ≠ 0 := by
  unfold splitP at h
  split at h
  · cases h; decide
  · exact readF_ne he _ (by omega) h
theorem cnt_le (he : EnvOk env) : ∀ (f : Nat) {L : List Ln} {ws : List Wd} {g n : Nat} {s : Tx} {L' : List Ln}, readF env f L ws g s n = .done L' → L'.length ≤ L.length + one ws + s.length
  | 0, _, _, _, _, _, _, h => by cases h
  | f + 1, L, ws, g, n, s, L', h => by
    unfold readF at h
    cases hst : stepR env L ws g s n with
    | bad e => rw [hst] at h; cases h
    | fin => rw [hst] at h; cases h; rw [endC_len]; omega
    | go L2 ws2 g2 s2 n2 =>
      rw [hst] at h
      have ih := cnt_le he f h
      have hl := (step_len he hst).1
      rcases step_shape hst with ⟨rfl, rfl⟩ | ⟨rfl, rfl⟩ | ⟨rfl, t, k, rfl⟩
      · rw [endC_len, show one [] = 0 from rfl] at ih; omega
      · omega
      · rw [one_app] at ih; omega
theorem splitP_cnt (he : EnvOk env) {s : Tx} {L : List Ln} (h : splitP env s = .done L) : L.length ≤ 65536 := by
  unfold splitP at h
  split at h
  · cases h
  · have := cnt_le he _ h
    rw [show one [] = 0 from rfl, List.length_nil] at this
    omega
theorem step_gle {L L' : List Ln} {ws ws' : List Wd} {g g' n n' : Nat} {s s' : Tx} (h : stepR env L ws g s n = .go L' ws' g' s' n') : g' ≤ g + 1 := by
  have hgrp : ∀ M : List Ln, grp M g ≤ g + 1 := fun M => by
    unfold grp
    split
    · omega
    · split <;> omega
  rcases s with _ | ⟨c, r⟩
  · cases h
  · rw [stepR_cons] at h
    by_cases h1 : c = 10
    · rw [if_pos h1] at h; cases h; exact hgrp _
    rw [if_neg h1] at h
    by_cases h2 : c = 59
    · rw [if_pos h2] at h; cases h; omega
    rw [if_neg h2] at h
    by_cases h3 : c = 32 ∨ c = 9
    · rw [if_pos h3] at h; cases h; omega
    rw [if_neg h3] at h
    by_cases h4 : c = 35
    · rw [if_pos h4] at h; cases h; omega
    rw [if_neg h4] at h
    by_cases h5 : c = 123
    · rw [if_pos h5] at h
      by_cases hm : many L ws = true
      · rw [if_pos hm] at h; cases h
      · rw [if_neg hm] at h
        cases hb : blockP (c :: r) n with
        | none => rw [hb] at h; cases h
        | some p => obtain ⟨s1, n1⟩ := p; rw [hb] at h; cases h; omega
    rw [if_neg h5] at h
    by_cases h6 : c = 125
    · rw [if_pos h6] at h; cases h
    rw [if_neg h6] at h
    by_cases h7 : c = 92 ∧ r.head? = some 10
    · rw [if_pos h7] at h; cases h; omega
    rw [if_neg h7] at h
    by_cases hm : many L ws = true
    · rw [if_pos hm] at h; cases h
    · rw [if_neg hm] at h
      cases hw : wordP env (c :: r) n with
      | bad e => rw [hw] at h; cases h
      | got t s1 n1 => rw [hw] at h; cases h; omega
theorem endC_gr {M : Nat} {L : List Ln} {ws : List Wd} {g : Nat} (h : ∀ l ∈ L, l.group ≤ M) (hg : g ≤ M) : ∀ l ∈ endC L ws g, l.group ≤ M := by
  unfold endC
  split
  · exact h
  · intro l hl
    rcases List.mem_append.1 hl with hl | hl
    · exact h l hl
    · rw [List.mem_singleton] at hl; subst hl; exact hg
theorem group_le (he : EnvOk env) (M : Nat) : ∀ (f : Nat) {L : List Ln} {ws : List Wd} {g n : Nat} {s : Tx} {L' : List Ln}, (∀ l ∈ L, l.group ≤ M) → g + s.length ≤ M → readF env f L ws g s n = .done L' → ∀ l ∈ L', l.group ≤ M
  | 0, _, _, _, _, _, _, _, _, h => by cases h
  | f + 1, L, ws, g, n, s, L', h1, h2, h => by
    unfold readF at h
    cases hst : stepR env L ws g s n with
    | bad e => rw [hst] at h; cases h
    | fin => rw [hst] at h; cases h; exact endC_gr h1 (by omega)
    | go L2 ws2 g2 s2 n2 =>
      rw [hst] at h
      have hl := (step_len he hst).1
      have hg := step_gle hst
      rcases step_shape hst with ⟨rfl, rfl⟩ | ⟨rfl, rfl⟩ | ⟨rfl, t, k, rfl⟩
      · exact group_le he M f (endC_gr h1 (by omega)) (by omega) h
      · exact group_le he M f h1 (by omega) h
      · exact group_le he M f h1 (by omega) h
theorem splitP_group (he : EnvOk env) {s : Tx} {L : List Ln} (h : splitP env s = .done L) : ∀ l ∈ L, l.group ≤ 65537 := by
  unfold splitP at h
  split at h
  · cases h
  · exact group_le he 65537 _ (fun l hl => by cases hl) (by omega) h
theorem fd_take (a : Tx) : ∀ k (h : k < a.length), fd (a.take (k + 1)) = fd (a.take k) + (if a[k] = 10 then 1 else 0) := by
  induction a with
  | nil => intro k h; cases h
  | cons c r ih =>
    intro k h
    cases k with
    | zero => show (if c = 10 then 1 else 0) + fd (r.take 0) = fd [] + _; simp [fd]
    | succ k =>
      have := ih k (by simpa using h)
      show (if c = 10 then 1 else 0) + fd (r.take (k + 1)) = (if c = 10 then 1 else 0) + fd (r.take k) + _
      rw [this]
      simp only [List.getElem_cons_succ]
      omega
theorem fd_le : ∀ a : Tx, fd a ≤ a.length
  | [] => Nat.le_refl _
  | c :: r => by
    have := fd_le r
    show (if c = 10 then 1 else 0) + fd r ≤ r.length + 1
    split <;> omega
end
/-- What Split tells, with its parts named. -/
def Fact (G : Nat) (w' : World) (R : RR) (A : Option Addr) (n c f l : Nat) : Prop :=
  match R with
  | .bad k l' => A = none ∧ n = 0 ∧ c = 0 ∧ f = k ∧ l = l'
  | .done L => f = 0 ∧ l = 0 ∧ ∃ ls : List LV, ls.map (·.2) = L ∧ n = ls.length ∧ LsAt G w' (.slice A n c) ls
theorem XP.fact {w w' : World} {R : RR} {e : Ending} (h : XP w R e w') : ∃ (A : Option Addr) (n c f l : Nat), e = .returned (.tuple #[.slice A n c, .int .i64 (f : Int), .int .i64 (l : Int)]) ∧ Below w.heap.size w w' ∧ Fact w.heap.size w' R A n c f l := by
  unfold XP at h
  cases R with
  | bad k l =>
    obtain ⟨rfl, hb⟩ := h
    exact ⟨none, 0, 0, k, l, rfl, hb, rfl, rfl, rfl, rfl, rfl⟩
  | done L =>
    obtain ⟨v, ls, hm, rfl, hls, hb⟩ := h
    obtain ⟨A, c, rfl⟩ := hls.slice
    exact ⟨A, ls.length, c, 0, 0, rfl, hb, rfl, rfl, ls, hm, rfl, hls⟩
theorem Fact.bounds {env : Env} (he : EnvOk env) {G : Nat} {w' : World} {s : Tx} {A : Option Addr} {n c f l : Nat} (h : Fact G w' (splitP env s) A n c f l) : n ≤ 65536 ∧ l ≤ 65537 := by
  cases hR : splitP env s with
  | bad k l' =>
    rw [hR] at h
    obtain ⟨_, rfl, _, _, rfl⟩ := h
    exact ⟨by omega, splitP_line he hR⟩
  | done L =>
    rw [hR] at h
    obtain ⟨_, rfl, ls, hm, rfl, _⟩ := h
    have := splitP_cnt he hR
    rw [← hm, List.length_map] at this
    exact ⟨this, by omega⟩
theorem Fact.done {env : Env} (he : EnvOk env) {G : Nat} {w' : World} {s : Tx} {A : Option Addr} {n c f l : Nat} (h : Fact G w' (splitP env s) A n c f l) (hf : f = 0) :
    ∃ L ls, splitP env s = .done L ∧ l = 0 ∧ ls.map (·.2) = L ∧ n = ls.length ∧ LsAt G w' (.slice A n c) ls := by
  cases hR : splitP env s with
  | bad k l' =>
    rw [hR] at h
    obtain ⟨_, _, _, h1, _⟩ := h
    exact absurd (h1.symm.trans hf) (splitP_ne he hR)
  | done L =>
    rw [hR] at h
    obtain ⟨_, h2, ls, hm, hn, h3⟩ := h
    exact ⟨L, ls, rfl, h2, hm, hn, h3⟩
theorem Fact.wrong {env : Env} {G : Nat} {w' : World} {s : Tx} {A : Option Addr} {n c f l : Nat} (h : Fact G w' (splitP env s) A n c f l) (hf : f ≠ 0) : splitP env s = .bad f l ∧ n = 0 := by
  cases hR : splitP env s with
  | bad k l' =>
    rw [hR] at h
    obtain ⟨_, h0, _, rfl, rfl⟩ := h
    exact ⟨rfl, h0⟩
  | done L =>
    rw [hR] at h
    exact absurd h.1 hf
theorem lastG_take {l : List LV} {i : Nat} (h : i < l.length) : lastG ((l.take (i + 1)).map (·.2)) = l[i].2.group := by
  unfold lastG
  rw [List.take_succ_eq_append_getElem h, List.map_append, List.getLast?_append]
  rfl
theorem cat_at {k G : Nat} {l1 l2 l3 : List LV} (h : l3.map (·.2) = l1.map (·.2) ++ gsh G (shL k (l2.map (·.2)))) :
    l3.length = l1.length + l2.length ∧ (∀ i (h1 : i < l1.length) (h3 : i < l3.length), (l3[i]).2 = (l1[i]).2) ∧
      ∀ j (h2 : j < l2.length) (h3 : l1.length + j < l3.length), (l3[l1.length + j]).2.words = shW k (l2[j]).2.words ∧ (l3[l1.length + j]).2.group = (l2[j]).2.group + G := by
  have hl : l3.length = l1.length + l2.length := by
    have := congrArg List.length h
    rw [List.length_map, List.length_append, gsh_len, shL_len, List.length_map, List.length_map] at this
    exact this
  refine ⟨hl, fun i h1 h3 => ?_, fun j h2 h3 => ?_⟩
  · have e1 : (l3.map (·.2))[i]? = some (l3[i]).2 := by rw [List.getElem?_map, List.getElem?_eq_getElem h3]; rfl
    rw [h, List.getElem?_append_left (by rw [List.length_map]; exact h1), List.getElem?_map, List.getElem?_eq_getElem h1] at e1
    exact (Option.some.inj e1).symm
  · have e1 : (l3.map (·.2))[l1.length + j]? = some (l3[l1.length + j]).2 := by rw [List.getElem?_map, List.getElem?_eq_getElem h3]; rfl
    rw [h, List.getElem?_append_right (by rw [List.length_map]; omega), List.length_map, Nat.add_sub_cancel_left] at e1
    unfold gsh shL at e1
    rw [List.getElem?_map, List.getElem?_map, List.getElem?_map, List.getElem?_eq_getElem h2] at e1
    have e2 := Option.some.inj e1
    rw [← e2]
    exact ⟨rfl, rfl⟩
end Go.Proofs.YtigpingkfinmiaaDoor.Lex
