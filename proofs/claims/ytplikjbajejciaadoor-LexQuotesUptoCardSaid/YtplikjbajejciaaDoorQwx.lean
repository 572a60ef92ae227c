/- lex: every word. -/
import Derived.Test.YtplikjbajejciaaDoorQw0
import Derived.Test.YtplikjbajejciaaDoorQw1
import Derived.Test.YtplikjbajejciaaDoorQw2
namespace Go.Proofs.YtplikjbajejciaaDoor.Lex
open Go.RowKit Go.Maps
attribute [local go_sem] Jx.normal Jx.exit Jx.ret Jx.panic Jx.goto
section
variable {B rb n : Nat} {w : World} {K : Kp} {env : Env} {s : Tx}
theorem skip_first {P : Program} {Q : Exit → Act → World → Prop} {X : Code} {a : Act} {w : World} (h : X.wp P Q a w) : (Code.skip.seq X).wp P Q a w := by
  apply wp_seq
  apply wp_skip
  exact h
theorem word_pass {w0 : World} {W : WR} (f l : Nat) (a : Act) (w : World) (h : WJ B rb w0 K env W f l a w) :
    ∃ rest, findLabel wordC l = some (Code.skip.seq rest) ∧ rest.wp Tryd.prog (Jx (fun l' a' w' => ∃ f', f' < f ∧ WJ B rb w0 K env W f' l' a' w') (bodyPost Tryd.prog Tryd.f45 (WP B rb w0 K env W))) a w := by
  obtain ⟨q, m, s, n, kv, rfl, hf, hh, hs, hw⟩ := h
  cases f with
  | zero => cases hs
  | succ f =>
    cases q with
    | pl => exact pass_pl hf hh hs hw
    | sg => exact pass_sg hf hh hs hw
    | db => exact pass_db hf hh hs hw
theorem word_pass0 {w0 : World} {W : WR} {f l : Nat} {a : Act} {w : World} {rest : Code} (h : WJ B rb w0 K env W f l a w) (hf : findLabel wordC l = some (Code.skip.seq rest)) :
    rest.wp Tryd.prog (Jx (fun l' a' w' => ∃ f', WJ B rb w0 K env W f' l' a' w') (bodyPost Tryd.prog Tryd.f45 (WP B rb w0 K env W))) a w := by
  obtain ⟨rest', hf', hr⟩ := word_pass f l a w h
  rw [hf] at hf'
  cases hf'
  exact wp_mono hr (Jx.mono fun l a w ⟨f', _, h⟩ => ⟨f', h⟩)
theorem WH.value {w0 : World} {kv : Value} {m : Tx} (h : WH B rb w0 w K env kv m s n) (nm : Tx) (hl : nm.length ≤ 65536) :
    Calls Tryd.prog 58 #[.pointer (some ⟨rb, 3, none⟩), .string (bs nm)] w fun e w' => e = .returned (.string (bs (valP env nm))) ∧ WH B rb w0 w' K env kv m s n :=
  (value_cx h.cx nm hl).mono fun _ _ hx => ⟨hx.1, h.go hx.2.1 hx.2.2⟩
theorem WH.home {w0 : World} {kv : Value} {m : Tx} (h : WH B rb w0 w K env kv m s n) :
    Calls Tryd.prog 56 #[ptrV rb] w fun e w' => e = .returned (.bool (Lex.home s)) ∧ WH B rb w0 w' K env kv m s n :=
  (home_cx h.cx).mono fun _ _ hx => ⟨hx.1, h.go hx.2.1 (hx.2.2.mono (by simp))⟩
theorem home_126 {s : Tx} (h : Lex.home s = true) : ∃ r, s = 126 :: r := by
  cases s with
  | nil => cases h
  | cons c r =>
    by_cases hc : c = 126
    · exact ⟨r, by rw [hc]⟩
    · rw [not_126 hc] at h; cases h
set_option maxRecDepth 100000 in
set_option maxHeartbeats 8000000 in
theorem word_any (h : Cx B w rb K env s n) :
    Calls Tryd.prog 45 #[ptrV rb] w (WP B rb w K env (wordP env s n)) := by
  obtain ⟨W, hW⟩ : ∃ W, W = wordP env s n := ⟨_, rfl⟩
  rw [← hW]
  have hB : B ≤ w.heap.size := by have := h.lt; have := h.low; omega
  have hek := h.eok
  have H1 : Hid (∀ f9 : w.frozen? ⟨rb, 9, none⟩ = false, WH B rb w (w.setCell ⟨rb, 9, none⟩ (.slice none 0 0)) K env (.slice none 0 0) [] s n) := fun _ => by
    obtain ⟨mv, hR, hM⟩ := h.place
    have hs9 : RAt (w.setCell ⟨rb, 9, none⟩ (.slice none 0 0)) rb ((K.made (.slice none 0 0)).rd s n mv) := BL.set_ hR 9 _
    refine ⟨h.turn hs9 (hM.set mv hR (one_set w rb 9 _) (by simp)) (one_set w rb 9 _) rfl rfl (List.suffix_refl _) (Nat.le_refl _), ⟨rfl, .inl ⟨rfl, rfl⟩⟩, one_set w rb 9 _, by simp, hB⟩
  obtain ⟨mv0, hR0, _⟩ := h.place
  have f9 : w.frozen? ⟨rb, 9, none⟩ = false := BL.frozen hR0 9
  have c9 : w.cell? ⟨rb, 9, none⟩ = some K.kv := BL.cell hR0 9
  have H2 := Lib.hid (H1.out f9)
  have HW := Lib.hid hW
  clear h hW hR0 H1
  unfold ptrV
  go_enter Tryd.func45, Tryd.ntmps45
  go_wp2_with fail
  refine wp_scope_any (fun f l a' w' => WJ B rb w K env W f l a' w') ?_ (fun f l a' w' hJ => by
    obtain ⟨rest, hf, hr⟩ := word_pass f l a' w' hJ
    exact ⟨_, hf, skip_first hr⟩)
  go_wp2_with fail
  refine H2.out.home.mono ?_
  rintro _ w1 ⟨rfl, h1⟩
  have H3 := Lib.hid h1
  clear h1
  cases hh : Lex.home s with
  | false =>
    have HW2 : Hid (wordF env (s.length + 1) .pl [] s n = W) := by
      show _ = _
      rw [HW.out]; unfold wordP; rw [hh]; rfl
    clear hh
    go_wp2_with fail
    apply wp_label
    simp only [Exit.then]
    rename_i hK
    refine hK _ _ ?_
    refine word_pass0 (f := s.length + 1) (l := 0) ?_ rfl
    exact ⟨.pl, [], s, n, _, rfl, ⟨rfl, rfl, rfl⟩, H3.out, Nat.lt_succ_self _, HW2.out⟩
  | true =>
    obtain ⟨r, rfl⟩ := home_126 hh
    have HT := Lib.hid (fun V (hV : WH B rb w V K env (.slice none 0 0) [] (126 :: r) n) => (show Calls Tryd.prog 41 #[ptrV rb] V fun e w' => e = .returned (.string { data := #[126] }) ∧ WH B rb w w' K env (.slice none 0 0) [] r n from hV.take))
    have HV := Lib.hid (fun V (hV : WH B rb w V K env (.slice none 0 0) [] r n) => (show Calls Tryd.prog 58 #[.pointer (some ⟨rb, 3, none⟩), .string { data := #[72, 79, 77, 69] }] V fun e w' => e = .returned (.string (bs (valP env homeL))) ∧ WH B rb w w' K env (.slice none 0 0) [] r n from hV.value homeL (by decide)))
    have hvl := val_len hek homeL
    have hW := HW.out
    unfold wordP at hW
    rw [if_pos hh] at hW
    clear hh
    by_cases hlong : (valP env homeL).length > 8192
    · rw [if_pos hlong] at hW
      have HW2 := Lib.hid hW
      have HA := Lib.hid (fun V (hV : WH B rb w V K env (.slice none 0 0) [] r n) => hV.long (valP env homeL) (by simpa using hlong) hvl)
      clear hW hvl hlong hek
      generalize hS : bs (valP env homeL) = S at *
      clear hS
      unfold ptrV at *
      go_wp2_with fail
      refine (HT.out _ H3.out).mono ?_
      rintro _ w2 ⟨rfl, h2⟩
      have H4 := Lib.hid h2
      clear h2
      go_wp2_with fail
      refine (HV.out _ H4.out).mono ?_
      rintro _ w3 ⟨rfl, h3⟩
      have H5 := Lib.hid h3
      clear h3
      go_wp2_with fail
      refine (HA.out _ H5.out).mono ?_
      rintro _ w4 ⟨rfl, h4⟩
      exact ⟨rfl, WP.bad_ HW2.out h4⟩
    · rw [if_neg hlong] at hW
      have HW2 : Hid (wordF env ((126 :: r).length + 1) .pl ([] ++ valP env homeL) r n = W) := by show _ = _; rw [hW]; rfl
      have HA := Lib.hid (fun V (hV : WH B rb w V K env (.slice none 0 0) [] r n) => hV.add (valP env homeL) (by simpa using hlong))
      clear hW hvl hlong hek
      generalize hS : bs (valP env homeL) = S at *
      clear hS
      unfold ptrV at *
      go_wp2_with fail
      refine (HT.out _ H3.out).mono ?_
      rintro _ w2 ⟨rfl, h2⟩
      have H4 := Lib.hid h2
      clear h2
      go_wp2_with fail
      refine (HV.out _ H4.out).mono ?_
      rintro _ w3 ⟨rfl, h3⟩
      have H5 := Lib.hid h3
      clear h3
      go_wp2_with fail
      refine (HA.out _ H5.out).mono ?_
      rintro _ w4 ⟨rfl, kv4, h4⟩
      have H6 := Lib.hid h4
      clear h4
      go_wp2_with fail
      apply wp_label
      simp only [Exit.then]
      rename_i hK
      refine hK _ _ ?_
      refine word_pass0 (f := (126 :: r).length + 1) (l := 0) ?_ rfl
      exact ⟨.pl, _, r, n, _, rfl, ⟨rfl, rfl, rfl⟩, H6.out, by simp; omega, HW2.out⟩
end
end Go.Proofs.YtplikjbajejciaaDoor.Lex
