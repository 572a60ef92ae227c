/- lex, in plain words: words as they are written are read again as they are. -/
import Derived.Test.YtplikjbajejciaaDoorQqu
import Derived.Test.YtplikjbajejciaaDoorQpu
namespace Go.Proofs.YtplikjbajejciaaDoor.Lex
open Go.RowKit
theorem ix_mem (l : Tx) (c : UInt8) : 0 ≤ Lib.indexByte l c ↔ c ∈ l := by
  constructor
  · intro h
    obtain ⟨o, ho⟩ : ∃ o : Nat, Lib.indexByte l c = (o : Int) := ⟨(Lib.indexByte l c).toNat, by omega⟩
    exact List.mem_of_getElem? (Lib.indexByte_some ho).1
  · intro h
    have hge := Lib.indexByte_ge l c
    rcases Int.lt_or_le (Lib.indexByte l c) 0 with hn | hn
    · have he : Lib.indexByte l c = -1 := by omega
      obtain ⟨k, hk⟩ := List.mem_iff_getElem?.1 h
      exact absurd hk (Lib.indexByte_none he k)
    · exact hn
theorem dropW_nil {p : UInt8 → Bool} : ∀ {l : Tx}, l.dropWhile p = [] ↔ ∀ c ∈ l, p c = true
  | [] => by simp
  | c :: l => by
    rw [List.dropWhile_cons]
    by_cases h : p c = true
    · rw [if_pos h, dropW_nil]
      simp [h]
    · rw [if_neg h]
      simp [h]
theorem dropW_mem {p : UInt8 → Bool} {l : Tx} {c : UInt8} (h : c ∈ l) (hp : p c = false) : c ∈ l.dropWhile p := by
  induction l with
  | nil => exact h
  | cons d l ih =>
    rw [List.dropWhile_cons]
    by_cases hd : p d = true
    · rw [if_pos hd]
      rcases List.mem_cons.1 h with rfl | h
      · rw [hp] at hd; cases hd
      · exact ih h
    · rw [if_neg hd]; exact h
theorem trimS_nil (l cs : Tx) : Lib.trimS l cs = [] ↔ ∀ c ∈ l, cs.contains c = true := by
  constructor
  · intro h c hc
    cases hp : cs.contains c with
    | true => rfl
    | false =>
      exfalso
      have h1 : c ∈ Lib.trimRightS l cs := by
        unfold Lib.trimRightS
        rw [List.mem_reverse]
        exact dropW_mem (List.mem_reverse.2 hc) hp
      have h2 : c ∈ Lib.trimS l cs := by
        unfold Lib.trimS Lib.trimLeftS
        exact dropW_mem h1 hp
      rw [h] at h2
      cases h2
  · intro h
    have : Lib.trimRightS l cs = [] := by
      unfold Lib.trimRightS
      rw [dropW_nil.2 (fun c hc => h c (List.mem_reverse.1 hc))]
      rfl
    unfold Lib.trimS
    rw [this]
    rfl
/-- Words as they are written, a blank between. -/
def joinP (l : List Tx) : Tx := Lib.join (l.map quoteP) [32]
theorem joinP_cons (a b : Tx) (l : List Tx) : joinP (a :: b :: l) = quoteP a ++ 32 :: joinP (b :: l) := by
  unfold joinP
  show Lib.join (quoteP a :: quoteP b :: l.map quoteP) [32] = _
  simp [Lib.join, List.append_assoc]
theorem joinP_one (a : Tx) : joinP [a] = quoteP a := by
  unfold joinP
  exact Lib.join_one _ _
theorem joinP_nil : joinP [] = [] := rfl
/-- A byte that may stand as it is. -/
def bareB (c : UInt8) : Bool := bareL.contains c
theorem bare_facts : ∀ n : Fin 256, bareB (UInt8.ofNat n.val) = true → (fun c : UInt8 => c ≠ 32 ∧ c ≠ 9 ∧ c ≠ 10 ∧ c ≠ 59 ∧ c ≠ 39 ∧ c ≠ 34 ∧ c ≠ 92 ∧ c ≠ 36 ∧ c ≠ 35 ∧ c ≠ 123 ∧ c ≠ 125 ∧ c ≠ 126) (UInt8.ofNat n.val) := by decide +kernel
theorem bare_at (c : UInt8) (h : bareB c = true) : c ≠ 32 ∧ c ≠ 9 ∧ c ≠ 10 ∧ c ≠ 59 ∧ c ≠ 39 ∧ c ≠ 34 ∧ c ≠ 92 ∧ c ≠ 36 ∧ c ≠ 35 ∧ c ≠ 123 ∧ c ≠ 125 ∧ c ≠ 126 := by
  have := bare_facts ⟨c.toNat, c.toNat_lt⟩
  simp only [UInt8.ofNat_toNat] at this
  exact this h
theorem wf_go {env : Env} {f : Nat} {q q' : Q} {m s t s' : Tx} {n n' : Nat} (h : stepW env q s n = .go q' t s' n') (hl : m.length + t.length ≤ 8192) : wordF env (f + 1) q m s n = wordF env f q' (m ++ t) s' n' := by
  conv => lhs; unfold wordF
  rw [h]
  exact if_neg (by omega)
theorem brk_no {c : UInt8} (r : Tx) (h1 : c ≠ 32) (h2 : c ≠ 9) (h3 : c ≠ 10) (h4 : c ≠ 59) : brk (c :: r) = false := by
  show (c == 32 || (c == 9 || (c == 10 || c == 59))) = false
  rw [beq_eq_false_iff_ne.2 h1, beq_eq_false_iff_ne.2 h2, beq_eq_false_iff_ne.2 h3, beq_eq_false_iff_ne.2 h4]
  rfl
theorem wf_fin {env : Env} {f : Nat} {m r : Tx} {n : Nat} (hr : brk r = true) : wordF env (f + 1) .pl m r n = .got m r n := by
  unfold wordF
  have : stepW env .pl r n = .fin := by
    cases r with
    | nil => rfl
    | cons c r => exact if_pos hr
  rw [this]
theorem wf_bare (env : Env) (r : Tx) (hr : brk r = true) (n : Nat) : ∀ (t m : Tx) (f : Nat), (∀ c ∈ t, bareB c = true) → m.length + t.length ≤ 8192 → t.length < f → wordF env f .pl m (t ++ r) n = .got (m ++ t) r n
  | [], m, f + 1, _, _, _ => by rw [List.append_nil]; exact wf_fin hr
  | c :: t, m, f + 1, hb, hl, hf => by
    obtain ⟨h1, h2, h3, h4, h5, h6, h7, h8, _⟩ := bare_at c (hb c (by simp))
    rw [List.length_cons] at hl hf
    have hst : stepW env .pl (c :: t ++ r) n = .go .pl [c] (t ++ r) n := by
      show (if brk (c :: (t ++ r)) then _ else _) = _
      rw [brk_no _ h1 h2 h3 h4, if_neg (by decide), if_neg h5, if_neg h6, if_neg h7, if_neg h8]
      rfl
    rw [wf_go hst (by simp; omega), wf_bare env r hr n t (m ++ [c]) f (fun x hx => hb x (by simp [hx])) (by simp; omega) (by omega)]
    simp
theorem wf_sg (env : Env) (r : Tx) (hr : brk r = true) : ∀ (t m : Tx) (n f : Nat), (39 : UInt8) ∉ t → m.length + t.length ≤ 8192 → t.length + 1 < f → ∃ n', wordF env f .sg m (t ++ 39 :: r) n = .got (m ++ t) r n'
  | [], m, n, f + 2, _, hl, _ => by
    refine ⟨n, ?_⟩
    have hst : stepW env .sg ([] ++ 39 :: r) n = .go .pl [] r n := rfl
    rw [wf_go (f := f + 1) hst (by simpa using hl), List.append_nil]
    exact wf_fin hr
  | c :: t, m, n, f + 1, hb, hl, hf => by
    rw [List.length_cons] at hl hf
    have hc : c ≠ 39 := fun e => hb (by simp [e])
    have hst : stepW env .sg (c :: t ++ 39 :: r) n = .go .sg [c] (t ++ 39 :: r) (nl c n) := by
      show (if c = 39 then _ else _) = _
      rw [if_neg hc]
      rfl
    obtain ⟨n', h⟩ := wf_sg env r hr t (m ++ [c]) (nl c n) f (fun e => hb (by simp [e])) (by simp; omega) (by omega)
    refine ⟨n', ?_⟩
    rw [wf_go hst (by simp; omega), h]
    simp
theorem escQ_pos {c : UInt8} (h : c = 34 ∨ c = 92 ∨ c = 36) : escQ c = [92, c] := by
  unfold escQ
  rw [if_pos ((ix_mem _ _).2 (by simpa using h))]
theorem escQ_neg {c : UInt8} (h : ¬ (c = 34 ∨ c = 92 ∨ c = 36)) : escQ c = [c] := by
  unfold escQ
  rw [if_neg (fun hx => h (by simpa using (ix_mem _ _).1 hx))]
theorem escL_cons (c : UInt8) (t : Tx) : escL (c :: t) = escQ c ++ escL t := by unfold escL; rw [List.flatMap_cons]
theorem wf_db (env : Env) (r : Tx) (hr : brk r = true) : ∀ (t m : Tx) (n f : Nat), m.length + t.length ≤ 8192 → t.length + 1 < f → ∃ n', wordF env f .db m (escL t ++ 34 :: r) n = .got (m ++ t) r n'
  | [], m, n, f + 2, hl, _ => by
    refine ⟨n, ?_⟩
    have hst : stepW env .db (escL [] ++ 34 :: r) n = .go .pl [] r n := rfl
    rw [wf_go (f := f + 1) hst (by simpa using hl), List.append_nil]
    exact wf_fin hr
  | c :: t, m, n, f + 1, hl, hf => by
    rw [List.length_cons] at hl hf
    rw [escL_cons]
    by_cases h : c = 34 ∨ c = 92 ∨ c = 36
    · have h10 : c ≠ 10 := by rintro rfl; revert h; decide
      have hle : lett [c] = [c] := by
        rcases h with rfl | rfl | rfl <;> rfl
      have hst : stepW env .db (escQ c ++ escL t ++ 34 :: r) n = .go .db [c] (escL t ++ 34 :: r) n := by
        rw [escQ_pos h]
        show escS .db lett (c :: (escL t ++ 34 :: r)) n = _
        have he : esc (c :: (escL t ++ 34 :: r)) n = some ([c], escL t ++ 34 :: r, n) := by
          show (if c = 10 then _ else _) = _
          rw [if_neg h10]
        unfold escS
        rw [he]
        show Sp.go .db (lett [c]) _ n = _
        rw [hle]
      obtain ⟨n', hh⟩ := wf_db env r hr t (m ++ [c]) n f (by simp; omega) (by omega)
      refine ⟨n', ?_⟩
      rw [wf_go hst (by simp; omega), hh]
      simp
    · have hst : stepW env .db (escQ c ++ escL t ++ 34 :: r) n = .go .db [c] (escL t ++ 34 :: r) (nl c n) := by
        rw [escQ_neg h]
        show (if c = 34 then _ else if c = 92 then _ else if c = 36 then _ else _) = _
        rw [if_neg (fun e => h (.inl e)), if_neg (fun e => h (.inr (.inl e))), if_neg (fun e => h (.inr (.inr e)))]
        rfl
      obtain ⟨n', hh⟩ := wf_db env r hr t (m ++ [c]) (nl c n) f (by simp; omega) (by omega)
      refine ⟨n', ?_⟩
      rw [wf_go hst (by simp; omega), hh]
      simp
theorem quoteP_bare {t : Tx} (h1 : t ≠ []) (h2 : ∀ c ∈ t, bareB c = true) : quoteP t = t := by
  unfold quoteP
  rw [if_pos ⟨h1, (trimS_nil _ _).2 h2⟩]
theorem quoteP_not {t : Tx} (h : ¬ (t ≠ [] ∧ ∀ c ∈ t, bareB c = true)) : quoteP t = if (39 : UInt8) ∈ t then 34 :: (escL t ++ [34]) else 39 :: (t ++ [39]) := by
  unfold quoteP
  rw [if_neg (fun hh => h ⟨hh.1, (trimS_nil _ _).1 hh.2⟩)]
  by_cases hm : (39 : UInt8) ∈ t
  · rw [if_pos hm, if_pos ((ix_mem _ _).2 hm)]; rfl
  · rw [if_neg hm, if_neg (fun hh => hm ((ix_mem _ _).1 hh))]
/-- A word as it is written is read as it is. -/
theorem word_back (env : Env) (t r : Tx) (n : Nat) (hr : brk r = true) (hl : t.length ≤ 8192) : ∃ c q n', quoteP t = c :: q ∧ (c ≠ 10 ∧ c ≠ 59 ∧ c ≠ 32 ∧ c ≠ 9 ∧ c ≠ 35 ∧ c ≠ 123 ∧ c ≠ 125 ∧ c ≠ 92) ∧ wordP env (c :: (q ++ r)) n = .got t r n' := by
  by_cases h : t ≠ [] ∧ ∀ c ∈ t, bareB c = true
  · obtain ⟨h1, h2⟩ := h
    rcases t with _ | ⟨c, q⟩
    · exact absurd rfl h1
    obtain ⟨e1, e2, e3, e4, e5, e6, e7, e8, e9, e10, e11, e12⟩ := bare_at c (h2 c (by simp))
    refine ⟨c, q, n, quoteP_bare h1 h2, ⟨e3, e4, e1, e2, e9, e10, e11, e7⟩, ?_⟩
    unfold wordP
    have hh : home (c :: (q ++ r)) = false := by
      show (c == 126 && _) = false
      rw [beq_eq_false_iff_ne.2 e12]; rfl
    rw [hh, if_neg (by decide)]
    have := wf_bare env r hr n (c :: q) [] ((c :: (q ++ r)).length + 1) h2 (by simpa using hl) (by simp; omega)
    exact this
  · rw [quoteP_not h]
    by_cases hm : (39 : UInt8) ∈ t
    · obtain ⟨n', hh⟩ := wf_db env r hr t [] n ((34 :: (escL t ++ [34] ++ r)).length) (by simpa using hl) (by
        have : t.length ≤ (escL t).length := by
          clear hm hl h
          induction t with
          | nil => exact Nat.zero_le _
          | cons c t ih =>
            rw [escL_cons, List.length_append, List.length_cons]
            have : 1 ≤ (escQ c).length := by unfold escQ; split <;> simp
            omega
        simp; omega)
      refine ⟨34, escL t ++ [34], n', if_pos hm, by decide, ?_⟩
      unfold wordP
      rw [show home (34 :: (escL t ++ [34] ++ r)) = false from rfl, if_neg (by decide)]
      rw [wf_go (q' := .db) (t := []) (s' := escL t ++ [34] ++ r) (n' := n) rfl (by simp)]
      rw [List.nil_append] at hh
      rw [← hh]
      simp
    · obtain ⟨n', hh⟩ := wf_sg env r hr t [] n ((39 :: (t ++ [39] ++ r)).length) hm (by simpa using hl) (by simp)
      refine ⟨39, t ++ [39], n', if_neg hm, by decide, ?_⟩
      unfold wordP
      rw [show home (39 :: (t ++ [39] ++ r)) = false from rfl, if_neg (by decide)]
      rw [wf_go (q' := .sg) (t := []) (s' := t ++ [39] ++ r) (n' := n) rfl (by simp)]
      rw [List.nil_append] at hh
      rw [← hh]
      simp
theorem rd_word {env : Env} {ws : List Wd} {t r : Tx} {n f : Nat} (hw : ws.length < 256) (hr : brk r = true) (hl : t.length ≤ 8192) : ∃ n', readF env (f + 1) [] ws 1 (quoteP t ++ r) n = readF env f [] (ws ++ [⟨t, n, false⟩]) 1 r n' := by
  obtain ⟨c, q, n', e, ⟨h1, h2, h3, h4, h5, h6, h7, h8⟩, hwp⟩ := word_back env t r n hr hl
  refine ⟨n', ?_⟩
  rw [e]
  have hm : many [] ws = false := by
    unfold many
    rw [beq_eq_false_iff_ne.2 (by omega)]
    simp
  refine readF_step ?_
  show stepR env [] ws 1 (c :: (q ++ r)) n = _
  rw [stepR_cons, if_neg h1, if_neg h2, if_neg (by rintro (h | h); exact h3 h; exact h4 h), if_neg h5, if_neg h6, if_neg h7, if_neg (fun h => h8 h.1), hm, if_neg (by decide), hwp]
theorem rd_back (env : Env) : ∀ (l : List Tx) (ws : List Wd) (n f : Nat), ws.length + l.length ≤ 256 → (∀ t ∈ l, t.length ≤ 8192) → (joinP l).length < f →
    ∃ ws', readF env f [] ws 1 (joinP l) n = .done (endC [] (ws ++ ws') 1) ∧ ws'.map (fun x => x.text) = l ∧ ∀ x ∈ ws', x.block = false
  | [], ws, n, f + 1, _, _, _ => ⟨[], by rw [List.append_nil]; rfl, rfl, fun x hx => by cases hx⟩
  | [t], ws, n, f + 1, hw, hl, hf => by
    simp only [List.length_cons, List.length_nil] at hw
    obtain ⟨n', h⟩ := rd_word (env := env) (ws := ws) (t := t) (r := []) (n := n) (f := f) (by omega) rfl (hl t (by simp))
    rw [joinP_one] at hf ⊢
    rw [List.append_nil] at h
    rw [h]
    obtain ⟨k, rfl⟩ : ∃ k, f = k + 1 := by
      obtain ⟨c, q, _, e, _⟩ := word_back env t [] n rfl (hl t (by simp))
      rw [e, List.length_cons] at hf
      exact ⟨f - 1, by omega⟩
    refine ⟨[⟨t, n, false⟩], rfl, rfl, fun x hx => ?_⟩
    rw [List.mem_singleton] at hx
    subst hx
    rfl
  | t :: u :: l, ws, n, f + 1, hw, hl, hf => by
    simp only [List.length_cons] at hw
    obtain ⟨n', h⟩ := rd_word (env := env) (ws := ws) (t := t) (r := 32 :: joinP (u :: l)) (n := n) (f := f) (by omega) rfl (hl t (by simp))
    rw [joinP_cons] at hf ⊢
    rw [h]
    have hlen : (quoteP t ++ 32 :: joinP (u :: l)).length = (quoteP t).length + 1 + (joinP (u :: l)).length := by simp; omega
    rw [hlen] at hf
    have hq : 1 ≤ (quoteP t).length := by
      obtain ⟨c, q, _, e, _⟩ := word_back env t [] n rfl (hl t (by simp))
      rw [e, List.length_cons]; omega
    obtain ⟨k, rfl⟩ : ∃ k, f = k + 1 := ⟨f - 1, by omega⟩
    have hst : stepR env [] (ws ++ [⟨t, n, false⟩]) 1 (32 :: joinP (u :: l)) n' = .go [] (ws ++ [⟨t, n, false⟩]) 1 (joinP (u :: l)) n' := by
      rw [stepR_cons, if_neg (by decide), if_neg (by decide), if_pos (.inl rfl)]
    rw [readF_step hst]
    obtain ⟨ws', h1, h2, h3⟩ := rd_back env (u :: l) (ws ++ [⟨t, n, false⟩]) n' k (by simp; omega) (fun x hx => hl x (by simp at hx ⊢; exact .inr hx)) (by omega)
    refine ⟨⟨t, n, false⟩ :: ws', by rw [h1]; simp, by simp [h2], fun x hx => ?_⟩
    rcases List.mem_cons.1 hx with rfl | hx
    · rfl
    · exact h3 x hx
theorem quoteP_len (t : Tx) : (quoteP t).length ≤ 2 * t.length + 2 := by
  by_cases h : t ≠ [] ∧ ∀ c ∈ t, bareB c = true
  · rw [quoteP_bare h.1 h.2]; omega
  · rw [quoteP_not h]
    have := escL_len t
    split <;> simp <;> omega
def total (l : List Tx) : Nat := (l.map List.length).sum
theorem total_cons (t : Tx) (l : List Tx) : total (t :: l) = t.length + total l := by unfold total; simp
theorem joinP_len : ∀ (l : List Tx), (joinP l).length ≤ 2 * total l + 3 * l.length
  | [] => by rw [joinP_nil]; exact Nat.zero_le _
  | [t] => by
    rw [joinP_one, total_cons]
    have := quoteP_len t
    simp; omega
  | t :: u :: l => by
    rw [joinP_cons, total_cons, List.length_append, List.length_cons]
    have := joinP_len (u :: l)
    have := quoteP_len t
    simp at *; omega
/-- Words that are written are read again as they are, one command. -/
theorem back_plain (env : Env) (l : List Tx) (h1 : l.length ≤ 256) (h2 : ∀ t ∈ l, t.length ≤ 8192) (h3 : total l ≤ 20000) :
    ∃ ws, splitP env (joinP l) = .done (if l = [] then [] else [⟨ws, 1⟩]) ∧ ws.map (fun x => x.text) = l ∧ ∀ x ∈ ws, x.block = false := by
  have hlen := joinP_len l
  unfold splitP
  rw [if_neg (by omega)]
  obtain ⟨ws, e1, e2, e3⟩ := rd_back env l [] 1 ((joinP l).length + 1) (by simpa using h1) h2 (by omega)
  refine ⟨ws, ?_, e2, e3⟩
  rw [e1, List.nil_append]
  unfold endC
  cases ws with
  | nil => cases e2; rfl
  | cons x ws =>
    cases e2
    rfl
end Go.Proofs.YtplikjbajejciaaDoor.Lex
