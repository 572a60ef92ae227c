/- lex: what stands behind a dollar sign; what is added to a word. -/
import Derived.Test.YtplikjbajejciaaDoorQna
import Derived.Lib.AppendStr
namespace Go.Proofs.YtplikjbajejciaaDoor.Lex
open Go.RowKit Go.Maps
section
variable {B rb n : Nat} {w : World} {K : Kp} {env : Env}
/-- What a name behind a dollar sign comes to. -/
def NamP (B rb : Nat) (K : Kp) (env : Env) (n : Nat) (w : World) (o : Option (Tx × Tx)) (e : Ending) (w' : World) : Prop :=
  match o with
  | none => e = .panicked (ftP 4 K.bg) ∧ Only [rb] w w'
  | some (t, r) => e = .returned (.string (bs t)) ∧ Cx B w' rb K env r n ∧ Only [rb] w w'
theorem NamP.none_ {B rb : Nat} {K : Kp} {env : Env} {n : Nat} {w w' : World} (h : Only [rb] w w') : NamP B rb K env n w none (.panicked (ftP 4 K.bg)) w' := ⟨rfl, h⟩
theorem NamP.some_ {B rb : Nat} {K : Kp} {env : Env} {n : Nat} {w w' : World} {t r : Tx} (h1 : Cx B w' rb K env r n) (h : Only [rb] w w') : NamP B rb K env n w (some (t, r)) (.returned (.string (bs t))) w' := ⟨rfl, h1, h⟩
theorem full_3 {t : Tx} (h : t ≠ []) : ((bs t).toList == ([] : List UInt8)) = false ∧ ((bs t).toList != ([] : List UInt8)) = true ∧ (bs t).toList.isEmpty = false := by
  rw [bs_tl]
  cases t with
  | nil => exact absurd rfl h
  | cons c r => exact ⟨rfl, rfl, rfl⟩
theorem take_ne {s : Tx} (h : nameN s ≠ 0) : s.take (nameN s) ≠ [] := fun e => by
  have := nameN_le s
  have h2 : (s.take (nameN s)).length = 0 := by rw [e]; rfl
  rw [List.length_take] at h2
  omega
set_option maxRecDepth 100000 in
set_option maxHeartbeats 2000000 in
/-- Without a brace. -/
theorem named_bare {s : Tx} (hb : ((bs (s.take 1)).toList == [123]) = false) (h : Cx B w rb K env s n) (hn : nam env s = if nameN s = 0 then some ([36], s) else some (valP env (s.take (nameN s)), s.drop (nameN s))) :
    Calls Tryd.prog 60 #[ptrV rb] w (NamP B rb K env n w (nam env s)) := by
  have hlen := h.len
  have HX := Lib.hid (next_cx h)
  have HN := Lib.hid (fun V (hV : Cx B V rb K env s n) => name_cx hV)
  clear h
  generalize bs (s.take 1) = S at *
  rw [hn]
  by_cases h0 : nameN s = 0
  · rw [if_pos h0]
    rw [h0] at HN
    have e0 : bs (s.take 0) = { data := #[] } := rfl
    rw [e0] at HN
    clear hn h0 e0
    unfold ptrV at *
    go_enter Tryd.func60, Tryd.ntmps60
    go_wp2_with fail
    refine HX.out.mono ?_
    rintro _ w1 ⟨rfl, h1, o1⟩
    have H1 := Lib.hid h1
    have O1 := Lib.hid (o1.mono (G := [rb]) (by simp))
    clear h1 o1
    go_wp2_with fail
    refine (HN.out _ H1.out).mono ?_
    rintro _ w2 ⟨rfl, h1, o1⟩
    have H2 := Lib.hid h1
    have O2 := Lib.hid (O1.out.trans o1)
    clear h1 o1
    go_wp2_with fail
    go_ret
    exact NamP.some_ (t := [36]) H2.out O2.out
  · rw [if_neg h0]
    obtain ⟨f1, f2, f3⟩ := full_3 (take_ne h0)
    have HV := Lib.hid (fun V (hV : Cx B V rb K env (s.drop (nameN s)) n) => value_cx hV (s.take (nameN s)) (by rw [List.length_take]; omega))
    clear hn h0 hlen
    generalize hY : valP env (s.take (nameN s)) = Y at *
    clear hY
    generalize bs (s.take (nameN s)) = X at *
    generalize s.drop (nameN s) = s2 at *
    unfold ptrV at *
    go_enter Tryd.func60, Tryd.ntmps60
    go_wp2_with fail
    refine HX.out.mono ?_
    rintro _ w1 ⟨rfl, h1, o1⟩
    have H1 := Lib.hid h1
    have O1 := Lib.hid (o1.mono (G := [rb]) (by simp))
    clear h1 o1
    go_wp2_with fail
    refine (HN.out _ H1.out).mono ?_
    rintro _ w2 ⟨rfl, h1, o1⟩
    have H2 := Lib.hid h1
    have O2 := Lib.hid (O1.out.trans o1)
    clear h1 o1
    go_wp2_with fail
    refine (HV.out _ H2.out).mono ?_
    rintro _ w3 ⟨rfl, h1, o1⟩
    have H3 := Lib.hid h1
    have O3 := Lib.hid (O2.out.trans o1)
    clear h1 o1
    go_wp2_with fail
    go_ret
    exact NamP.some_ H3.out O3.out
set_option maxRecDepth 100000 in
set_option maxHeartbeats 2000000 in
/-- With a brace, and no name in it. -/
theorem named_empty {r : Tx} (h : Cx B w rb K env (123 :: r) n) (h0 : nameN r = 0) :
    Calls Tryd.prog 60 #[ptrV rb] w (NamP B rb K env n w none) := by
  have HX : Hid (Calls Tryd.prog 36 #[ptrV rb] w fun e w' => e = .returned (.string { data := #[123] }) ∧ Cx B w' rb K env (123 :: r) n ∧ Only [] w w') := next_cx h
  have HT := Lib.hid (fun V (hV : Cx B V rb K env (123 :: r) n) => take_cx hV)
  have hn1 : nl 123 n = n := rfl
  rw [hn1] at HT
  have HN := Lib.hid (fun V (hV : Cx B V rb K env r n) => name_cx hV)
  rw [h0] at HN
  have e0 : bs (r.take 0) = { data := #[] } := rfl
  rw [e0] at HN
  clear h h0 hn1 e0
  unfold ptrV at *
  go_enter Tryd.func60, Tryd.ntmps60
  go_wp2_with fail
  refine HX.out.mono ?_
  rintro _ w1 ⟨rfl, h1, o1⟩
  have H1 := Lib.hid h1
  have O1 := Lib.hid (o1.mono (G := [rb]) (by simp))
  clear h1 o1
  go_wp2_with fail
  refine (HT.out _ H1.out).mono ?_
  rintro _ w2 ⟨rfl, h1, o1⟩
  have H2 := Lib.hid h1
  have O2 := Lib.hid (O1.out.trans o1)
  clear h1 o1
  go_wp2_with fail
  refine (HN.out _ H2.out).mono ?_
  rintro _ w3 ⟨rfl, h1, o1⟩
  have H3 := Lib.hid h1
  have O3 := Lib.hid (O2.out.trans o1)
  clear h1 o1
  go_wp2_with fail
  refine (refuse_cx H3.out 4).mono ?_
  rintro _ w4 ⟨rfl, rfl⟩
  exact ⟨rfl, NamP.none_ O3.out⟩
set_option maxRecDepth 100000 in
set_option maxHeartbeats 2000000 in
/-- With a brace that is not closed. -/
theorem named_open {r : Tx} (h : Cx B w rb K env (123 :: r) n) (h0 : nameN r ≠ 0) (hr : ∀ q, r.drop (nameN r) ≠ 125 :: q) :
    Calls Tryd.prog 60 #[ptrV rb] w (NamP B rb K env n w none) := by
  have HX : Hid (Calls Tryd.prog 36 #[ptrV rb] w fun e w' => e = .returned (.string { data := #[123] }) ∧ Cx B w' rb K env (123 :: r) n ∧ Only [] w w') := next_cx h
  have HT := Lib.hid (fun V (hV : Cx B V rb K env (123 :: r) n) => take_cx hV)
  have hn1 : nl 123 n = n := rfl
  rw [hn1] at HT
  have HN := Lib.hid (fun V (hV : Cx B V rb K env r n) => name_cx hV)
  obtain ⟨f1, f2, f3⟩ := full_3 (take_ne h0)
  have HT2 : Hid (∀ V, Cx B V rb K env (r.drop (nameN r)) n → Calls Tryd.prog 41 #[ptrV rb] V fun e w' => e = .returned (.string (bs ((r.drop (nameN r)).take 1))) ∧ (∃ s' n', Cx B w' rb K env s' n') ∧ Only [rb] V w') := fun V hV => by
    cases hq : r.drop (nameN r) with
    | nil => rw [hq] at hV; exact (take_end_cx hV).mono fun e w' he => ⟨he.1, ⟨_, _, he.2.1⟩, he.2.2⟩
    | cons d q => rw [hq] at hV; exact (take_cx hV).mono fun e w' he => ⟨he.1, ⟨_, _, he.2.1⟩, he.2.2⟩
  have g1 : ((bs ((r.drop (nameN r)).take 1)).toList != [125]) = true := by
    rw [bs_tl]
    cases hq : r.drop (nameN r) with
    | nil => rfl
    | cons d q =>
      have hd : ¬ d = 125 := fun e => hr q (by rw [hq, e])
      simp [bne, hd]
  have g2 : ((bs ((r.drop (nameN r)).take 1)).toList == [125]) = false := by
    cases hx : ((bs ((r.drop (nameN r)).take 1)).toList == [125]) with
    | false => rfl
    | true => rw [bne, hx] at g1; cases g1
  clear h h0 hr hn1
  generalize bs (r.take (nameN r)) = X at *
  generalize bs ((r.drop (nameN r)).take 1) = Z at *
  generalize r.drop (nameN r) = s2 at *
  unfold ptrV at *
  go_enter Tryd.func60, Tryd.ntmps60
  go_wp2_with fail
  refine HX.out.mono ?_
  rintro _ w1 ⟨rfl, h1, o1⟩
  have H1 := Lib.hid h1
  have O1 := Lib.hid (o1.mono (G := [rb]) (by simp))
  clear h1 o1
  go_wp2_with fail
  refine (HT.out _ H1.out).mono ?_
  rintro _ w2 ⟨rfl, h1, o1⟩
  have H2 := Lib.hid h1
  have O2 := Lib.hid (O1.out.trans o1)
  clear h1 o1
  go_wp2_with fail
  refine (HN.out _ H2.out).mono ?_
  rintro _ w3 ⟨rfl, h1, o1⟩
  have H3 := Lib.hid h1
  have O3 := Lib.hid (O2.out.trans o1)
  clear h1 o1
  go_wp2_with fail
  refine (HT2.out _ H3.out).mono ?_
  rintro _ w4 ⟨rfl, ⟨s4, n4, h1⟩, o1⟩
  have H4 := Lib.hid h1
  have O4 := Lib.hid (O3.out.trans o1)
  clear h1 o1
  go_wp2_with fail
  refine (refuse_cx H4.out 4).mono ?_
  rintro _ w5 ⟨rfl, rfl⟩
  exact ⟨rfl, NamP.none_ O4.out⟩
set_option maxRecDepth 100000 in
set_option maxHeartbeats 2000000 in
/-- With a brace that is closed. -/
theorem named_brace {r q : Tx} (h : Cx B w rb K env (123 :: r) n) (h0 : nameN r ≠ 0) (hr : r.drop (nameN r) = 125 :: q) :
    Calls Tryd.prog 60 #[ptrV rb] w (NamP B rb K env n w (some (valP env (r.take (nameN r)), q))) := by
  have hlen := h.len
  have HX : Hid (Calls Tryd.prog 36 #[ptrV rb] w fun e w' => e = .returned (.string { data := #[123] }) ∧ Cx B w' rb K env (123 :: r) n ∧ Only [] w w') := next_cx h
  have HT := Lib.hid (fun V (hV : Cx B V rb K env (123 :: r) n) => take_cx hV)
  have hn1 : nl 123 n = n := rfl
  rw [hn1] at HT
  have HN := Lib.hid (fun V (hV : Cx B V rb K env r n) => name_cx hV)
  rw [hr] at HN
  obtain ⟨f1, f2, f3⟩ := full_3 (take_ne h0)
  have HT2 : Hid (∀ V, Cx B V rb K env (125 :: q) n → Calls Tryd.prog 41 #[ptrV rb] V fun e w' => e = .returned (.string { data := #[125] }) ∧ Cx B w' rb K env q n ∧ Only [rb] V w') := fun V hV => take_cx hV
  have HV := Lib.hid (fun V (hV : Cx B V rb K env q n) => value_cx hV (r.take (nameN r)) (by rw [List.length_take]; simp at hlen; omega))
  clear h h0 hr hn1 hlen
  generalize hY : valP env (r.take (nameN r)) = Y at *
  clear hY
  generalize bs (r.take (nameN r)) = X at *
  unfold ptrV at *
  go_enter Tryd.func60, Tryd.ntmps60
  go_wp2_with fail
  refine HX.out.mono ?_
  rintro _ w1 ⟨rfl, h1, o1⟩
  have H1 := Lib.hid h1
  have O1 := Lib.hid (o1.mono (G := [rb]) (by simp))
  clear h1 o1
  go_wp2_with fail
  refine (HT.out _ H1.out).mono ?_
  rintro _ w2 ⟨rfl, h1, o1⟩
  have H2 := Lib.hid h1
  have O2 := Lib.hid (O1.out.trans o1)
  clear h1 o1
  go_wp2_with fail
  refine (HN.out _ H2.out).mono ?_
  rintro _ w3 ⟨rfl, h1, o1⟩
  have H3 := Lib.hid h1
  have O3 := Lib.hid (O2.out.trans o1)
  clear h1 o1
  go_wp2_with fail
  refine (HT2.out _ H3.out).mono ?_
  rintro _ w4 ⟨rfl, h1, o1⟩
  have H4 := Lib.hid h1
  have O4 := Lib.hid (O3.out.trans o1)
  clear h1 o1
  go_wp2_with fail
  refine (HV.out _ H4.out).mono ?_
  rintro _ w5 ⟨rfl, h1, o1⟩
  have H5 := Lib.hid h1
  have O5 := Lib.hid (O4.out.trans o1)
  clear h1 o1
  go_wp2_with fail
  go_ret
  exact NamP.some_ H5.out O5.out
theorem named_cx {s : Tx} (h : Cx B w rb K env s n) :
    Calls Tryd.prog 60 #[ptrV rb] w (NamP B rb K env n w (nam env s)) := by
  rcases s with _ | ⟨c, r⟩
  · exact named_bare (by rw [bs_tl]; rfl) h rfl
  · by_cases hc : c = 123
    · subst hc
      by_cases h0 : nameN r = 0
      · have e : nam env (123 :: r) = none := by unfold nam; simp [h0]
        rw [e]; exact named_empty h h0
      · cases hq : r.drop (nameN r) with
        | nil =>
          have e : nam env (123 :: r) = none := by unfold nam; simp [h0, hq]
          rw [e]; exact named_open h h0 (fun q e => by rw [hq] at e; cases e)
        | cons d q =>
          by_cases hd : d = 125
          · subst hd
            have e : nam env (123 :: r) = some (valP env (r.take (nameN r)), q) := by unfold nam; simp [h0, hq]
            rw [e]; exact named_brace h h0 hq
          · have e : nam env (123 :: r) = none := by unfold nam; simp [h0, hq, hd]
            rw [e]; exact named_open h h0 (fun q' e => by rw [hq] at e; injection e with e _; exact hd e)
    · refine named_bare (by rw [bs_tl]; simp [hc]) h ?_
      unfold nam
      simp only [if_neg hc]
end
end Go.Proofs.YtplikjbajejciaaDoor.Lex
