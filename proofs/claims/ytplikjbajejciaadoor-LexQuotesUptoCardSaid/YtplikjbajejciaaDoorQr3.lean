/- lex: a word between words. -/
import Derived.Test.YtplikjbajejciaaDoorQrh
namespace Go.Proofs.YtplikjbajejciaaDoor.Lex
open Go.RowKit Go.Maps
attribute [local go_sem] Jx.normal Jx.exit Jx.ret Jx.panic Jx.goto
section
variable {B rb n f m : Nat} {w0 w : World} {K : Kp} {env : Env} {ls : List LV} {ws : List Wd} {s : Tx} {R : RR} {a : Act}
theorem wordF_len {q : Q} {m m' s s' : Tx} {n n' : Nat} (he : EnvOk env) : ∀ {f : Nat}, wordF env f q m s n = .got m' s' n' → s'.length ≤ s.length := by
  intro f
  induction f generalizing q m s n with
  | zero => intro h; cases h
  | succ f ih =>
    intro h
    have key : ∀ {q' : Q} {t s1 : Tx} {n1 : Nat}, stepW env q s n = .go q' t s1 n1 → s1.length ≤ s.length → s'.length ≤ s.length := fun {q' t s1 n1} hst hl => by
      obtain ⟨g1, g2⟩ := wordF_go h hst
      by_cases hlong : m.length + t.length > 8192
      · have := g1 hlong; cases this
      · have := ih (g2 hlong); omega
    have kes : ∀ {q' : Q} {fn : Tx → Tx} {r : Tx}, stepW env q s n = escS q' fn r n → r.length ≤ s.length → s'.length ≤ s.length := fun {q' fn r} hst hl => by
      unfold escS at hst
      cases hx : esc r n with
      | none => rw [hx] at hst; have := wordF_bad h hst; cases this
      | some p =>
        obtain ⟨t, r2, k⟩ := p
        rw [hx] at hst
        exact key hst (by have := (esc_len hx).1; omega)
    have kna : ∀ {q' : Q} {r : Tx}, stepW env q s n = namS env q' r n → r.length ≤ s.length → s'.length ≤ s.length := fun {q' r} hst hl => by
      unfold namS at hst
      cases hx : nam env r with
      | none => rw [hx] at hst; have := wordF_bad h hst; cases this
      | some p =>
        obtain ⟨t, r2⟩ := p
        rw [hx] at hst
        exact key hst (by have := (nam_len he hx).1; omega)
    rcases s with _ | ⟨c, r⟩
    · cases q with
      | pl => have := wordF_fin h rfl; cases this; exact Nat.le_refl _
      | sg => have := wordF_bad h rfl; cases this
      | db => have := wordF_bad h rfl; cases this
    · cases q with
      | pl =>
        have hst : stepW env .pl (c :: r) n = if brk (c :: r) then .fin else if c = 39 then .go .sg [] r n else if c = 34 then .go .db [] r n else if c = 92 then escS .pl id r n else if c = 36 then namS env .pl r n else .go .pl [c] r n := rfl
        split at hst
        · have := wordF_fin h hst; cases this; exact Nat.le_refl _
        · split at hst
          · exact key hst (by simp)
          · split at hst
            · exact key hst (by simp)
            · split at hst
              · exact kes hst (by simp)
              · split at hst
                · exact kna hst (by simp)
                · exact key hst (by simp)
      | sg =>
        have hst : stepW env .sg (c :: r) n = if c = 39 then .go .pl [] r n else .go .sg [c] r (nl c n) := rfl
        split at hst <;> exact key hst (by simp)
      | db =>
        have hst : stepW env .db (c :: r) n = if c = 34 then .go .pl [] r n else if c = 92 then escS .db lett r n else if c = 36 then namS env .db r n else .go .db [c] r (nl c n) := rfl
        split at hst
        · exact key hst (by simp)
        · split at hst
          · exact kes hst (by simp)
          · split at hst
            · exact kna hst (by simp)
            · exact key hst (by simp)
/-- A word takes a byte at the least. -/
theorem wordP_len {s s' m' : Tx} {n n' : Nat} (he : EnvOk env) (hb : brk s = false) (h : wordP env s n = .got m' s' n') : s'.length < s.length := by
  unfold wordP at h
  split at h
  · rename_i hh
    obtain ⟨r, rfl⟩ := home_126 hh
    split at h
    · cases h
    · have := wordF_len he h
      exact Nat.lt_of_le_of_lt this (by simp)
  · have key : ∀ {q' : Q} {t s1 : Tx} {n1 : Nat}, stepW env .pl s n = .go q' t s1 n1 → s1.length < s.length → s'.length < s.length := fun {q' t s1 n1} hst hl => by
      obtain ⟨g1, g2⟩ := wordF_go h hst
      by_cases hlong : ([] : Tx).length + t.length > 8192
      · have := g1 hlong; cases this
      · have := wordF_len he (g2 hlong); omega
    rcases s with _ | ⟨c, r⟩
    · cases hb
    · have hst : stepW env .pl (c :: r) n = if brk (c :: r) then .fin else if c = 39 then .go .sg [] r n else if c = 34 then .go .db [] r n else if c = 92 then escS .pl id r n else if c = 36 then namS env .pl r n else .go .pl [c] r n := rfl
      rw [hb] at hst
      simp only [Bool.false_eq_true, if_false] at hst
      split at hst
      · exact key hst (by simp)
      · split at hst
        · exact key hst (by simp)
        · split at hst
          · unfold escS at hst
            cases hx : esc r n with
            | none => rw [hx] at hst; have := wordF_bad h hst; cases this
            | some p =>
              obtain ⟨t, r2, k⟩ := p
              rw [hx] at hst
              exact key hst (by have := (esc_len hx).1; rw [List.length_cons]; omega)
          · split at hst
            · unfold namS at hst
              cases hx : nam env r with
              | none => rw [hx] at hst; have := wordF_bad h hst; cases this
              | some p =>
                obtain ⟨t, r2⟩ := p
                rw [hx] at hst
                exact key hst (by have := (nam_len he hx).1; rw [List.length_cons]; omega)
            · exact key hst (by simp)
/-- A word, seen from between words. -/
theorem RH.word {B G : Nat} (hb : brk s = false) (h : RH B G rb w K env ls ws s n) :
    Calls Tryd.prog 45 #[ptrV rb] w fun e w' => match wordP env s n with
      | .bad k => e = .panicked (ftP k K.bg) ∧ Only [rb] w w'
      | .got t s' n' => e = .returned (.string (bs t)) ∧ (∃ K', K'.lv = K.lv ∧ K'.wv = K.wv ∧ K'.g = K.g ∧ K'.bg = K.bg ∧ RH B G rb w' K' env ls ws s' n') ∧ Only [rb] w w' := by
  refine (word_any h.cx).mono fun e w' he => ?_
  unfold WP at he
  cases hw : wordP env s n with
  | bad k => rw [hw] at he; exact he
  | got t s' n' =>
    rw [hw] at he
    obtain ⟨h1, ⟨kv, h2⟩, h3⟩ := he
    exact ⟨h1, ⟨K.made kv, rfl, rfl, rfl, rfl, h.go h2 h3 rfl rfl rfl (Nat.le_of_lt (wordP_len h.cx.eok hb hw))⟩, h3⟩
set_option maxRecDepth 100000 in
set_option maxHeartbeats 8000000 in
theorem rpass_3 (hf : Fr 62 (ptrV rb) a) (h : RH B w0.heap.size rb w K env ls ws s n) (ho : Only [rb] w0 w) (hbg : K.bg = n) (hbr : brk s = false) (hstp : stepR env (ls.map (·.2)) ws K.g s n = wordS env (ls.map (·.2)) ws K.g s n) (hs : s.length < f + 1) (hw : readF env (f + 1) (ls.map (·.2)) ws K.g s n = R) (hm : m = 3 * s.length) :
    ∃ rest, findLabel readC 3 = some (Code.skip.seq rest) ∧ rest.wp Tryd.prog (Jx (fun l' a' w' => ∃ m', m' < m ∧ RJ B rb w0 env R m' l' a' w') (bodyPost Tryd.prog Tryd.f24 (RP B w0.heap.size rb w0 env R))) a w := by
  refine ⟨_, rfl, ?_⟩
  obtain ⟨u1, u2, u3, u4, u5, u6, u7, u8, u9, u10, u11, u12, u13, u14, u15, u16, u17, u18, u19, u20, u21, u22, u23, u24, u25, u26, u27, u28, u29, u30, u31, u32, u33, u34, u35, u36, u37, u38, u39, u40, u41, u42, u43, u44, u45, u46, u47, u48, u49, u50, u51, u52, u53, u54, u55, u56, u57, u58, u59, u60, u61, rfl⟩ := frame62 hf
  clear hf
  cases hmn : many (ls.map (·.2)) ws with
  | true =>
    have HBG := Lib.hid (begin_any h true hmn)
    have HW := Lib.hid (readF_bad hw (show stepR env (ls.map (·.2)) ws K.g (s) n = .bad 3 from by rw [hstp]; unfold wordS; rw [hmn]; rfl))
    have HO := Lib.hid ho
    have HG := Lib.hid hbg
    clear h hw hs ho hm hmn hbg hstp
    go_wp2_with fail
    refine HBG.out.mono ?_
    rintro _ w1 ⟨rfl, rfl⟩
    rw [HG.out]
    exact ⟨rfl, RP.bad_ HW.out HO.out⟩
  | false =>
    have HBG := Lib.hid (begin_any h false hmn)
    have hst : stepR env (ls.map (·.2)) ws K.g s n = match wordP env s n with
        | .bad e => .bad e
        | .got t s' n' => .go (ls.map (·.2)) (ws ++ [⟨t, n, false⟩]) K.g s' n' := by
      rw [hstp]; unfold wordS; rw [hmn]; rfl
    have HB := Lib.hid (h.word hbr)
    have H := Lib.hid h
    have HO := Lib.hid ho
    have HG := Lib.hid hbg
    cases hb : wordP env s n with
    | bad k =>
      rw [hb] at HB hst
      have HW := Lib.hid (readF_bad hw hst)
      clear h hw hs ho hm hmn hst hb hbg hstp
      go_wp2_with fail
      refine HBG.out.mono ?_
      rintro _ w1 ⟨rfl, rfl⟩
      go_wp2_with fail
      refine HB.out.mono ?_
      rintro _ w2 ⟨rfl, o2⟩
      rw [HG.out]
      exact ⟨rfl, RP.bad_ HW.out (HO.out.trans o2)⟩
    | got tx s' n' =>
      rw [hb] at HB hst
      have HW := Lib.hid (readF_go hw hst)
      have hl := wordP_len h.cx.eok hbr hb
      have hf2 := h.few
      have HM := Lib.hid (show 3 * s'.length + 1 < m by omega)
      have HL := Lib.hid (show s'.length < f by omega)
      have HK := Lib.hid (fun V K' (hV : RH B w0.heap.size rb V K' env ls ws s' n') => keep_any hV tx false (by omega))
      clear h hw hs ho hm hmn hst hb hbg hl hf2 hstp
      go_wp2_with fail
      refine HBG.out.mono ?_
      rintro _ w1 ⟨rfl, rfl⟩
      go_wp2_with fail
      refine HB.out.mono ?_
      rintro _ w2 ⟨rfl, ⟨K2, e1, e2, e3, e4, k2⟩, o2⟩
      have H2 := Lib.hid k2
      have O2 := Lib.hid (HO.out.trans o2)
      have HE := Lib.hid (And.intro e3 e4)
      clear k2 o2 e1 e2 e3 e4
      go_wp2_with fail
      refine (HK.out _ _ H2.out).mono ?_
      rintro _ w3 ⟨rfl, wv, k3, o3⟩
      have O3 := Lib.hid (frame_own rfl O2.out H2.out.wown o3)
      have H3 := Lib.hid k3
      clear k3 o3
      rw [HE.out.2, HG.out] at H3
      have HW3 := Lib.hid (show readF env f (ls.map (·.2)) (ws ++ [⟨tx, n, false⟩]) (K2.wds wv).g s' n' = R by show readF env f _ _ K2.g _ _ = R; rw [HE.out.1]; exact HW.out)
      go_wp2_with fail
      apply wp_goto
      exact ⟨_, HM.out, K2.wds wv, ls, _, s', n', ⟨rfl, rfl, rfl⟩, H3.out, O3.out, .btw f HL.out HW3.out⟩
end
end Go.Proofs.YtplikjbajejciaaDoor.Lex
