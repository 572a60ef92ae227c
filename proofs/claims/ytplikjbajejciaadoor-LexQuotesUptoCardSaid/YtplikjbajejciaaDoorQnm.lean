/- lex: escapes, HOME, names. -/
import Derived.Test.YtplikjbajejciaaDoorQcx
namespace Go.Proofs.YtplikjbajejciaaDoor.Lex
open Go.RowKit Go.Maps
section
variable {B rb n : Nat} {w : World} {K : Kp} {env : Env}
set_option maxRecDepth 100000 in
theorem esc_none (h : Cx B w rb K env [] n) :
    Calls Tryd.prog 59 #[ptrV rb] w fun e w' => e = .panicked (ftP 4 K.bg) ∧ Only [rb] w w' := by
  have H := Lib.hid h
  clear h
  unfold ptrV
  go_enter Tryd.func59, Tryd.ntmps59
  go_wp2_with fail
  refine (take_end_cx H.out).mono ?_
  rintro _ w1 ⟨rfl, h1, o1⟩
  have H1 := Lib.hid h1
  have O1 := Lib.hid o1
  clear h1 o1
  go_wp2_with fail
  refine (refuse_cx H1.out 4).mono ?_
  rintro _ w2 ⟨rfl, rfl⟩
  exact ⟨rfl, rfl, O1.out⟩
set_option maxRecDepth 100000 in
theorem esc_feed {s : Tx} (h : Cx B w rb K env (10 :: s) n) :
    Calls Tryd.prog 59 #[ptrV rb] w fun e w' => e = .returned (.string { data := #[] }) ∧ Cx B w' rb K env s (n + 1) ∧ Only [rb] w w' := by
  have H := Lib.hid (take_cx h)
  clear h
  unfold ptrV at *
  go_enter Tryd.func59, Tryd.ntmps59
  go_wp2_with fail
  refine H.out.mono ?_
  rintro _ w1 ⟨rfl, h1, o1⟩
  have H1 := Lib.hid h1
  have O1 := Lib.hid o1
  clear h1 o1
  have e1 : bs [10] = { data := #[10] } := rfl
  rw [e1]
  go_wp2_with fail
  go_ret
  exact ⟨rfl, H1.out, O1.out⟩
set_option maxRecDepth 100000 in
theorem esc_byte {c : UInt8} {s : Tx} (hc : ¬ c = 10) (h : Cx B w rb K env (c :: s) n) :
    Calls Tryd.prog 59 #[ptrV rb] w fun e w' => e = .returned (.string (bs [c])) ∧ Cx B w' rb K env s n ∧ Only [rb] w w' := by
  have H := Lib.hid (take_cx h)
  have hn : nl c n = n := by unfold nl; rw [if_neg hc]
  rw [hn] at H
  have n0 := ne0 c
  have n1 := ne1 hc
  clear h hn hc
  generalize bs [c] = S at *
  unfold ptrV at *
  go_enter Tryd.func59, Tryd.ntmps59
  go_wp2_with fail
  refine H.out.mono ?_
  rintro _ w1 ⟨rfl, h1, o1⟩
  have H1 := Lib.hid h1
  have O1 := Lib.hid o1
  clear h1 o1
  go_wp2_with fail
  go_ret
  exact ⟨rfl, H1.out, O1.out⟩
theorem not_126 {c : UInt8} {s : Tx} (hc : ¬ c = 126) : home (c :: s) = false := by unfold home; simp [hc]
set_option maxRecDepth 100000 in
theorem home_no {s : Tx} (hs : ∀ r, s ≠ 126 :: r) (h : Cx B w rb K env s n) :
    Calls Tryd.prog 56 #[ptrV rb] w fun e w' => e = .returned (.bool (home s)) ∧ Cx B w' rb K env s n ∧ Only [] w w' := by
  have H := Lib.hid (next_cx h)
  have hh : home s = false := by
    cases s with
    | nil => rfl
    | cons c r => exact not_126 (fun e => hs r (by rw [e]))
  have hne : ((bs (s.take 1)).toList == [126]) = false := by
    rw [bs_tl]
    cases s with
    | nil => rfl
    | cons c r => 
      have hc : ¬ c = 126 := fun e => hs r (by rw [e])
      simp [hc]
  rw [hh]
  clear h hs hh
  generalize bs (s.take 1) = S at *
  unfold ptrV at *
  go_enter Tryd.func56, Tryd.ntmps56
  go_wp2_with fail
  refine H.out.mono ?_
  rintro _ w1 ⟨rfl, h1, o1⟩
  have H1 := Lib.hid h1
  have O1 := Lib.hid o1
  clear h1 o1
  go_wp2_with fail
  go_ret
  exact ⟨rfl, H1.out, O1.out⟩
set_option maxRecDepth 100000 in
theorem home_slash {r : Tx} (h : Cx B w rb K env (126 :: 47 :: r) n) :
    Calls Tryd.prog 56 #[ptrV rb] w fun e w' => e = .returned (.bool true) ∧ Cx B w' rb K env (126 :: 47 :: r) n ∧ Only [] w w' := by
  have H : Hid (Calls Tryd.prog 36 #[ptrV rb] w fun e w' => e = .returned (.string { data := #[126] }) ∧ Cx B w' rb K env (126 :: 47 :: r) n ∧ Only [] w w') := next_cx h
  have HA : Hid (∀ V, Cx B V rb K env (126 :: 47 :: r) n → Calls Tryd.prog 40 #[ptrV rb] V fun e w' => e = .returned (.string { data := #[47] }) ∧ Cx B w' rb K env (126 :: 47 :: r) n ∧ Only [] V w') := fun V hV => after_cx hV
  clear h
  unfold ptrV at *
  go_enter Tryd.func56, Tryd.ntmps56
  go_wp2_with fail
  refine H.out.mono ?_
  rintro _ w1 ⟨rfl, h1, o1⟩
  have H1 := Lib.hid h1
  have O1 := Lib.hid o1
  clear h1 o1
  go_wp2_with fail
  refine (HA.out _ H1.out).mono ?_
  rintro _ w2 ⟨rfl, h1, o1⟩
  have H2 := Lib.hid h1
  have O2 := Lib.hid (O1.out.trans o1)
  clear h1 o1
  go_wp2_with fail
  go_ret
  exact ⟨rfl, H2.out, O2.out⟩
set_option maxRecDepth 100000 in
theorem home_else {r : Tx} (hr : ((bs (r.take 1)).toList == [47]) = false) (h : Cx B w rb K env (126 :: r) n) :
    Calls Tryd.prog 56 #[ptrV rb] w fun e w' => e = .returned (.bool (brk r)) ∧ Cx B w' rb K env (126 :: r) n ∧ Only [] w w' := by
  have H : Hid (Calls Tryd.prog 36 #[ptrV rb] w fun e w' => e = .returned (.string { data := #[126] }) ∧ Cx B w' rb K env (126 :: r) n ∧ Only [] w w') := next_cx h
  have HA := Lib.hid (fun V (hV : Cx B V rb K env (126 :: r) n) => after_cx hV)
  have HB := Lib.hid (fun V => behind_any r V)
  clear h
  generalize bs (r.take 1) = S at *
  unfold ptrV at *
  go_enter Tryd.func56, Tryd.ntmps56
  go_wp2_with fail
  refine H.out.mono ?_
  rintro _ w1 ⟨rfl, h1, o1⟩
  have H1 := Lib.hid h1
  have O1 := Lib.hid o1
  clear h1 o1
  go_wp2_with fail
  refine (HA.out _ H1.out).mono ?_
  rintro _ w2 ⟨rfl, h1, o1⟩
  have H2 := Lib.hid h1
  have O2 := Lib.hid (O1.out.trans o1)
  clear h1 o1
  go_wp2_with fail
  refine (HA.out _ H2.out).mono ?_
  rintro _ w3 ⟨rfl, h1, o1⟩
  have H3 := Lib.hid h1
  have O3 := Lib.hid (O2.out.trans o1)
  clear h1 o1
  go_wp2_with fail
  refine (HB.out _).mono ?_
  rintro _ w4 ⟨rfl, rfl⟩
  go_wp2_with fail
  go_ret
  exact ⟨rfl, H3.out, O3.out⟩
theorem home_cx {s : Tx} (h : Cx B w rb K env s n) :
    Calls Tryd.prog 56 #[ptrV rb] w fun e w' => e = .returned (.bool (home s)) ∧ Cx B w' rb K env s n ∧ Only [] w w' := by
  rcases s with _ | ⟨c, r⟩
  · exact home_no (fun r e => by cases e) h
  · by_cases hc : c = 126
    · subst hc
      rcases r with _ | ⟨d, r⟩
      · exact home_else (r := []) (by rw [bs_tl]; rfl) h
      · by_cases hd : d = 47
        · subst hd; exact home_slash h
        · have e : home (126 :: d :: r) = brk (d :: r) := by unfold home; simp [hd]
          rw [e]
          exact home_else (r := d :: r) (by rw [bs_tl]; simp [hd]) h
    · exact home_no (fun r' e => hc (by injection e)) h
/-! ### Names -/
theorem lett_at (c : UInt8) : decide (0 ≤ Lib.indexByte lettersL c) = isL c := by
  have h : ∀ n : Fin 256, decide (0 ≤ Lib.indexByte lettersL (UInt8.ofNat n.val)) = isL (UInt8.ofNat n.val) := by decide +kernel
  have := h ⟨c.toNat, UInt8.toNat_lt c⟩
  simpa using this
theorem digit_at (c : UInt8) : decide (0 ≤ Lib.indexByte digitsL c) = isD c := by
  have h : ∀ n : Fin 256, decide (0 ≤ Lib.indexByte digitsL (UInt8.ofNat n.val)) = isD (UInt8.ofNat n.val) := by decide +kernel
  have := h ⟨c.toNat, UInt8.toNat_lt c⟩
  simpa using this
set_option maxRecDepth 100000 in
theorem one_nil (S : ByteArray) (w : World) :
    Calls Tryd.prog 71 #[.string { data := #[] }, .string S] w fun e w' => e = .returned (.bool false) ∧ w = w' := by
  go_enter Tryd.func71, Tryd.ntmps71
  go_wp2_with fail
  go_ret
  exact ⟨rfl, rfl⟩
set_option maxRecDepth 100000 in
theorem one_byte (l : Tx) (c : UInt8) (w : World) :
    Calls Tryd.prog 71 #[.string (bs [c]), .string (bs l)] w fun e w' => e = .returned (.bool (decide (0 ≤ Lib.indexByte l c))) ∧ w = w' := by
  have HC : Hid (Calls Tryd.prog 17 #[.string (bs l), .string (bs [c])] w fun e w' => e = .returned (.bool (decide (0 ≤ Lib.indexByte l c))) ∧ w' = w) := by
    have := Tryd.strings_Contains_one (bs l) c w
    rw [bs_list] at this
    exact this
  have n0 := ne0 c
  have n2 : ((bs [c]).toList != ([] : List UInt8)) = true := by rw [bs_tl]; rfl
  have n3 : (bs [c]).toList.isEmpty = false := by rw [bs_tl]; rfl
  generalize bs [c] = S at *
  generalize bs l = L at *
  generalize decide (0 ≤ Lib.indexByte l c) = b at *
  go_enter Tryd.func71, Tryd.ntmps71
  go_wp2_with fail
  refine HC.out.mono ?_
  rintro _ w1 ⟨rfl, rfl⟩
  go_wp2_with fail
  go_ret
  exact ⟨rfl, rfl⟩
end
end Go.Proofs.YtplikjbajejciaaDoor.Lex
