/- lex: a word. -/
import Derived.Test.YtplikjbajejciaaDoorQfr
import Derived.Laws.BytesArg
import Derived.Laws.IdiomStrings
namespace Go.Proofs.YtplikjbajejciaaDoor.Lex
open Go.RowKit Go.Maps
attribute [local go_sem] Jx.normal Jx.exit Jx.ret Jx.panic Jx.goto
/-- What a word comes to. -/
def WP (B rb : Nat) (w0 : World) (K : Kp) (env : Env) (W : WR) (e : Ending) (w' : World) : Prop :=
  match W with
  | .bad k => e = .panicked (ftP k K.bg) ∧ Only [rb] w0 w'
  | .got m s n => e = .returned (.string (bs m)) ∧ (∃ kv, Cx B w' rb (K.made kv) env s n) ∧ Only [rb] w0 w'
theorem WP.bad_ {B rb : Nat} {w0 w' : World} {K : Kp} {env : Env} {W : WR} {k : Nat} (hW : W = .bad k) (h : Only [rb] w0 w') : WP B rb w0 K env W (.panicked (ftP k K.bg)) w' := by subst hW; exact ⟨rfl, h⟩
theorem WP.got_ {B rb n : Nat} {w0 w' : World} {K : Kp} {env : Env} {W : WR} {m s : Tx} {kv : Value} (hW : W = .got m s n) (hc : Cx B w' rb (K.made kv) env s n) (h : Only [rb] w0 w') : WP B rb w0 K env W (.returned (.string (bs m))) w' := by subst hW; exact ⟨rfl, ⟨kv, hc⟩, h⟩
/-- A word at hand: m of it is made. -/
structure WH (B rb : Nat) (w0 w : World) (K : Kp) (env : Env) (kv : Value) (m s : Tx) (n : Nat) : Prop where
  cx : Cx B w rb (K.made kv) env s n
  own : w.ownsRow w0.heap.size 5 1 kv m.length (bytV m)
  only : Only [rb] w0 w
  len : m.length ≤ 8192
  base : B ≤ w0.heap.size
section
variable {B rb n : Nat} {w0 w w' : World} {K : Kp} {env : Env} {kv : Value} {m s : Tx}
theorem WH.go (h : WH B rb w0 w K env kv m s n) {s' : Tx} {n' : Nat} (hc : Cx B w' rb (K.made kv) env s' n') (ho : Only [rb] w w') : WH B rb w0 w' K env kv m s' n' := by
  refine ⟨hc, own_only h.own ho (fun k hk => ?_), h.only.trans ho, h.len, h.base⟩
  obtain ⟨mv, hR, _⟩ := h.cx.place
  have := own_type h.own (show BL w rb 49 _ from hR) (by decide)
  simp
  intro e
  exact this (by rw [hk, e])
theorem WH.take {c : UInt8} (h : WH B rb w0 w K env kv m (c :: s) n) :
    Calls Tryd.prog 41 #[ptrV rb] w fun e w' => e = .returned (.string (bs [c])) ∧ WH B rb w0 w' K env kv m s (nl c n) :=
  (take_cx h.cx).mono fun _ _ he => ⟨he.1, h.go he.2.1 he.2.2⟩
theorem WH.take_end (h : WH B rb w0 w K env kv m [] n) :
    Calls Tryd.prog 41 #[ptrV rb] w fun e w' => e = .returned (.string { data := #[] }) ∧ WH B rb w0 w' K env kv m [] n :=
  (take_end_cx h.cx).mono fun _ _ he => ⟨he.1, h.go he.2.1 he.2.2⟩
theorem WH.refuse (h : WH B rb w0 w K env kv m s n) (k : Nat) :
    Calls Tryd.prog 39 #[ptrV rb, .int .i64 (k : Int)] w fun e w' => e = .panicked (ftP k K.bg) ∧ Only [rb] w0 w' :=
  (refuse_cx h.cx k).mono fun _ _ he => ⟨he.1, he.2 ▸ h.only⟩
theorem WH.add (h : WH B rb w0 w K env kv m s n) (t : Tx) (ht : ¬ m.length + t.length > 8192) :
    Calls Tryd.prog 57 #[ptrV rb, .string (bs t)] w fun e w' => e = .returned (.tuple #[]) ∧ ∃ kv, WH B rb w0 w' K env kv (m ++ t) s n :=
  (add_ok h.cx h.own h.only.size h.base t (by omega)).mono fun e w' he => by
    obtain ⟨he, kv', h1, h2, h3⟩ := he
    refine ⟨he, kv', h1, h2, h.only.trans2 (h3 kv.ownBlock.toList (fun k hk => by show k ∈ kv.ownBlock.toList; rw [show kv.ownBlock = some k from hk]; simp)) (fun x hx => ?_), by rw [List.length_append]; omega, h.base⟩
    rcases List.mem_cons.1 hx with rfl | hx
    · exact .inl (by simp)
    · rw [Option.mem_toList] at hx
      exact .inr (own_low h.own x hx).1
theorem WH.long (h : WH B rb w0 w K env kv m s n) (t : Tx) (ht : m.length + t.length > 8192) (htl : t.length ≤ 140737488355328) :
    Calls Tryd.prog 57 #[ptrV rb, .string (bs t)] w fun e w' => e = .panicked (ftP 2 K.bg) ∧ Only [rb] w0 w' :=
  (add_long h.cx h.own t h.len (by omega) htl).mono fun _ _ he => ⟨he.1, he.2 ▸ h.only⟩
theorem esc_cons (c : UInt8) (r : Tx) (n : Nat) : esc (c :: r) n = if c = 10 then some ([], r, n + 1) else some ([c], r, n) := rfl
theorem nam_cons (env : Env) (c : UInt8) (r : Tx) : nam env (c :: r) = if c = 123 then (if nameN r = 0 then none else match r.drop (nameN r) with | [] => none | d :: r' => if d = 125 then some (valP env (r.take (nameN r)), r') else none) else if nameN (c :: r) = 0 then some ([36], c :: r) else some (valP env ((c :: r).take (nameN (c :: r))), (c :: r).drop (nameN (c :: r))) := rfl
/-- What an escape comes to. -/
theorem WH.esc_none (h : WH B rb w0 w K env kv m [] n) :
    Calls Tryd.prog 59 #[ptrV rb] w fun e w' => e = .panicked (ftP 4 K.bg) ∧ Only [rb] w0 w' :=
  (Lex.esc_none h.cx).mono fun _ _ he => ⟨he.1, h.only.trans he.2⟩
theorem WH.esc_some (h : WH B rb w0 w K env kv m s n) {t r : Tx} {k : Nat} (he : esc s n = some (t, r, k)) :
    Calls Tryd.prog 59 #[ptrV rb] w fun e w' => e = .returned (.string (bs t)) ∧ WH B rb w0 w' K env kv m r k := by
  rcases s with _ | ⟨c, s⟩
  · cases he
  · rw [esc_cons] at he
    by_cases hc : c = 10
    · subst hc
      simp only [if_pos, Option.some.injEq, Prod.mk.injEq] at he
      obtain ⟨rfl, rfl, rfl⟩ := he
      exact (esc_feed h.cx).mono fun _ _ hx => ⟨hx.1, h.go hx.2.1 hx.2.2⟩
    · simp only [if_neg hc, Option.some.injEq, Prod.mk.injEq] at he
      obtain ⟨rfl, rfl, rfl⟩ := he
      exact (esc_byte hc h.cx).mono fun _ _ hx => ⟨hx.1, h.go hx.2.1 hx.2.2⟩
theorem esc_len {t r : Tx} {k : Nat} (he : esc s n = some (t, r, k)) : r.length < s.length ∧ t.length ≤ 1 := by
  rcases s with _ | ⟨c, s⟩
  · cases he
  · rw [esc_cons] at he
    split at he <;> (simp only [Option.some.injEq, Prod.mk.injEq] at he; obtain ⟨rfl, rfl, _⟩ := he; simp)
theorem esc_nil (he : esc s n = none) : s = [] := by
  rcases s with _ | ⟨c, s⟩
  · rfl
  · rw [esc_cons] at he
    split at he <;> cases he
theorem WH.lett (h : WH B rb w0 w K env kv m s n) {t r : Tx} {k : Nat} {s2 : Tx} {n2 : Nat} (he : esc s2 n2 = some (t, r, k)) :
    Calls Tryd.prog 61 #[.string (bs t)] w fun e w' => e = .returned (.string (bs (Lex.lett t))) ∧ WH B rb w0 w' K env kv m s n := by
  have : t = [] ∨ ∃ c, t = [c] := by
    rcases s2 with _ | ⟨c, s2⟩
    · cases he
    · rw [esc_cons] at he
      split at he <;> (simp only [Option.some.injEq, Prod.mk.injEq] at he; obtain ⟨rfl, _, _⟩ := he)
      · exact .inl rfl
      · exact .inr ⟨c, rfl⟩
  rcases this with rfl | ⟨c, rfl⟩
  · exact (lett_nil w).mono fun _ _ hx => ⟨hx.1, hx.2 ▸ h⟩
  · exact (lett_any c w).mono fun _ _ hx => ⟨hx.1, hx.2 ▸ h⟩
theorem WH.nam_none (h : WH B rb w0 w K env kv m s n) (he : nam env s = none) :
    Calls Tryd.prog 60 #[ptrV rb] w fun e w' => e = .panicked (ftP 4 K.bg) ∧ Only [rb] w0 w' := by
  have := named_cx h.cx
  rw [he] at this
  exact this.mono fun _ _ hx => ⟨hx.1, h.only.trans hx.2⟩
theorem WH.nam_some (h : WH B rb w0 w K env kv m s n) {t r : Tx} (he : nam env s = some (t, r)) :
    Calls Tryd.prog 60 #[ptrV rb] w fun e w' => e = .returned (.string (bs t)) ∧ WH B rb w0 w' K env kv m r n := by
  have := named_cx h.cx
  rw [he] at this
  exact this.mono fun _ _ hx => ⟨hx.1, h.go hx.2.1 hx.2.2⟩
/-- The text that is made. -/
theorem WH.str (h : WH B rb w0 w K env kv m s n) : (convert 42 9 kv).run Tryd.prog w = .ok (.string (bs m)) w := by
  rcases m with _ | ⟨c, m⟩
  · rcases h.own.2 with ⟨rfl, _⟩ | ⟨g, cap, cur, rfl, _⟩
    · exact run_convert_bytes_nil w 42 5 Tryd.underlying42 Tryd.underlying5 0 0 9 Tryd.underlying9
    · exact run_convert_bytes_back w 42 9 5 ⟨g, 0, none⟩ cap [] Tryd.underlying42 Tryd.underlying5 Tryd.underlying9 (fun j hj => by cases hj)
  · obtain ⟨g, cap, tail, rfl, _, hb, _⟩ := own_some h.own (by simp)
    refine run_convert_bytes_back w 42 9 5 ⟨g, 0, none⟩ cap (c :: m) Tryd.underlying42 Tryd.underlying5 Tryd.underlying9 (fun j hj => ?_)
    rw [Addr.add_mid, Nat.zero_add, hb.cell j, List.getElem?_append_left (by unfold bytV; rw [List.length_map]; exact hj)]
    unfold bytV
    rw [List.getElem?_map, List.getElem?_eq_getElem hj]
    rfl
theorem lett_len (t : Tx) : (Lex.lett t).length ≤ t.length + 1 := by
  unfold Lex.lett
  split
  · split
    · simp
    · split
      · simp
      · split <;> simp
  · omega
theorem brk_10 {c : UInt8} {r : Tx} (h : brk (c :: r) = false) : ¬ c = 10 := fun e => by subst e; revert h; simp [brk]
theorem val_len (he : EnvOk env) (nm : Tx) : (valP env nm).length ≤ 140737488355328 := by
  cases hl : lastI env nm with
  | none => rw [(lastI_val env nm).2 hl]; exact Nat.zero_le _
  | some k =>
    obtain ⟨hk, hv⟩ := (lastI_val env nm).1 k hl
    rw [← hv]
    exact (he.2 _ (List.getElem_mem hk)).2
theorem nam_len (he : EnvOk env) {t r : Tx} (hn : nam env s = some (t, r)) : r.length ≤ s.length ∧ t.length ≤ 140737488355328 := by
  rcases s with _ | ⟨c, s⟩
  · rw [show nam env [] = some ([36], []) from rfl] at hn
    simp only [Option.some.injEq, Prod.mk.injEq] at hn
    obtain ⟨rfl, rfl⟩ := hn
    simp
  · rw [nam_cons] at hn
    split at hn
    · split at hn
      · cases hn
      · split at hn
        · cases hn
        · rename_i d r' hd
          split at hn
          · simp only [Option.some.injEq, Prod.mk.injEq] at hn
            obtain ⟨rfl, rfl⟩ := hn
            have := congrArg List.length hd
            rw [List.length_drop, List.length_cons] at this
            exact ⟨by rw [List.length_cons]; omega, val_len he _⟩
          · cases hn
    · split at hn
      · simp only [Option.some.injEq, Prod.mk.injEq] at hn
        obtain ⟨rfl, rfl⟩ := hn
        simp
      · simp only [Option.some.injEq, Prod.mk.injEq] at hn
        obtain ⟨rfl, rfl⟩ := hn
        exact ⟨by rw [List.length_drop]; omega, val_len he _⟩
end
def QL : Q → Nat
  | .pl => 0
  | .sg => 1
  | .db => 2
/-- What holds at the labels of a word. -/
def WJ (B rb : Nat) (w0 : World) (K : Kp) (env : Env) (W : WR) (f l : Nat) (a : Act) (w : World) : Prop :=
  ∃ q m s n kv, l = QL q ∧ Fr 86 (ptrV rb) a ∧ WH B rb w0 w K env kv m s n ∧ s.length < f ∧ wordF env f q m s n = W
/-- What a function's one scope holds. -/
noncomputable def innerC (f : Func) : Code := match f.body with
  | some (.scope c) => c
  | some (.seq _ (.scope c)) => c
  | _ => .skip
noncomputable def wordC : Code := innerC Tryd.f45
section
variable {B rb n f : Nat} {w0 w : World} {K : Kp} {env : Env} {kv : Value} {m s : Tx} {W : WR} {a : Act}
theorem wordF_go {q q' : Q} {t s' : Tx} {n' : Nat} (hw : wordF env (f + 1) q m s n = W) (hst : stepW env q s n = .go q' t s' n') : (m.length + t.length > 8192 → W = .bad 2) ∧ (¬ m.length + t.length > 8192 → wordF env f q' (m ++ t) s' n' = W) := by
  unfold wordF at hw
  rw [hst] at hw
  exact ⟨fun h => by simp only [if_pos h] at hw; exact hw.symm, fun h => by simp only [if_neg h] at hw; exact hw⟩
theorem wordF_bad {q : Q} {e : Nat} (hw : wordF env (f + 1) q m s n = W) (hst : stepW env q s n = .bad e) : W = .bad e := by
  unfold wordF at hw
  rw [hst] at hw
  exact hw.symm
theorem wordF_fin {q : Q} (hw : wordF env (f + 1) q m s n = W) (hst : stepW env q s n = .fin) : W = .got m s n := by
  unfold wordF at hw
  rw [hst] at hw
  exact hw.symm
end
end Go.Proofs.YtplikjbajejciaaDoor.Lex
