/- The chapter's Colour walked. -/
import Derived.Test.YtajnlbfhcbkopaaDoorRcc
namespace Go.Proofs.YtajnlbfhcbkopaaDoor.Sty
open Go.RowKit

/-- What the chapter's Colour answers. -/
def colRef : Option Int → Value
  | some c => .tuple #[.int .i64 c, .bool true]
  | none => .tuple #[.int .i64 0, .bool false]
theorem lit_colour : ({ data := #[99, 111, 108, 111, 117, 114] } : ByteArray) = bs tColour := rfl
theorem lit_color : ({ data := #[99, 111, 108, 111, 114] } : ByteArray) = bs tColor := rfl
/-- No colour below d (and none of the mixed ones) is named. -/
def Unnamed (q : Tx) (d : Int) : Prop := ∀ c, -1 ≤ c → c < d → ¬ Names q c
theorem names_iff (q : Tx) (c : Int) (h0 : -1 ≤ c) (h1 : c ≤ 255) : Names q c ↔ (name c = q ∨ (0 ≤ c ∧ (q = tColour ++ dec c.toNat ∨ q = tColor ++ dec c.toNat))) := by
  constructor
  · rintro ⟨_, h | ⟨h2, _, h3⟩⟩
    · exact .inl h.symm
    · exact .inr ⟨h2, h3⟩
  · rintro (h | ⟨h2, h3⟩)
    · exact ⟨(isCol_iff _).2 (by omega), .inl h.symm⟩
    · exact ⟨(isCol_iff _).2 (by omega), .inr ⟨h2, h1, h3⟩⟩
theorem unnamed_end {q : Tx} (h : Unnamed q 256) (hq : ∀ r, r.length = 6 → q ≠ 35 :: r) : colourS q = none := by
  refine colourS_none fun c hn => ?_
  have hc := hn.1
  rw [isCol_iff] at hc
  rcases names_ways hn with ⟨b, hb, ed, es2⟩ | ⟨b, hb, ed, es2⟩ | ⟨b, hb, ed, es2⟩ | ⟨b, hb, ed, es2⟩
  · exact h c (by omega) (by omega) hn
  · exact h c (by omega) (by omega) hn
  · exact h c (by omega) (by omega) hn
  · exact hq _ (hexk_length 6 b) es2
set_option maxRecDepth 100000 in
set_option maxHeartbeats 2000000 in
theorem colourRef_any (l : Tx) (w : World) (hs : l.length ≤ 140737488351232) :
    Calls Tryd.prog 11 #[.string (bs l)] w fun e w' => e = .returned (colRef (colourS (low l))) ∧ Below w.heap.size w w' := by
  have hlo := fun w => lowRef_any l w hs
  have hll := low_length l
  rw [← hll] at hs
  clear hll
  generalize low l = q at *
  generalize bs l = S0 at *
  by_cases hq : ∃ r, r.length = 6 ∧ q = 35 :: r
  · obtain ⟨r, hr6, rfl⟩ := hq
    have hqs : (bs (35 :: r)).size = 7 := by rw [bs_size, List.length_cons]; omega
    have h35 : ∃ h : 0 < (bs (35 :: r)).size, ((((bs (35 :: r))[0]'h).toNat : Int) == 35) = true := ⟨by omega, rfl⟩
    have HL : Hid (∀ (k : Nat) (h : k < r.length) (h2 : k + 1 < (bs (35 :: r)).size), (bs (35 :: r))[k + 1]'h2 = r[k]) := by
      show ∀ (k : Nat) (h : k < r.length) (h2 : k + 1 < (bs (35 :: r)).size), (bs (35 :: r))[k + 1]'h2 = r[k]
      intro k h h2
      rfl
    have HNX : Hid (NoHex r → colourS (35 :: r) = none) := fun h => colourS_none (not_hex h)
    have HYX : Hid (∀ n, n < 16777216 → r = hexk 6 n → colourS (35 :: r) = some ((n : Int) + 16777216)) := fun n hn h => colourS_some (names_hex hn h)
    generalize bs (35 :: r) = SQ at *
    generalize colourS (35 :: r) = ANS at *
    go_enter Tryd.func11, Tryd.ntmps11
    go_wp2_with fail
    refine (hlo _).mono ?_
    rintro e w1 ⟨rfl, hb1⟩
    obtain ⟨h0, h35⟩ := h35
    clear hlo hs
    go_wp2_with fail
    go_loop [2, 3, 4, 5] (fun _ _ n i => ∃ k acc : Nat, k ≤ 6 ∧ i = .int .i64 ((k : Int) + 1) ∧ n = .int .i64 (acc : Int) ∧ acc < 16777216 ∧ Hid (Sofar r k acc)) (fun _ _ _ i => (8 - intOf i).toNat)
    case atStart => exact ⟨0, 0, by omega, rfl, rfl, by omega, fun _ => ⟨rfl, by decide⟩⟩
    case round =>
      obtain ⟨k, acc, hk, rfl, rfl, hacc, hso⟩ := hrel
      by_cases hlt : k < 6
      · have hkr : k < r.length := by omega
        have hch := HL.out k hkr (by omega)
        have h3 : r[k].toNat < 256 := UInt8.toNat_lt _
        have HST : Hid (∀ t, t < 16 → r[k] = hx t → Sofar r (k + 1) (acc * 16 + t) ∧ acc * 16 + t < 16777216) := fun t ht hb => by
          have h1 := sofar_step hso.out hkr ht hb
          refine ⟨h1, ?_⟩
          have h2 := (h1 (by omega)).2
          have h4 : (16 : Nat) ^ (k + 1) ≤ 16 ^ 6 := Nat.pow_le_pow_right (by omega) (by omega)
          have h5 : (16 : Nat) ^ 6 = 16777216 := by decide
          omega
        by_cases h1 : 48 ≤ r[k].toNat ∧ r[k].toNat ≤ 57
        · have hst := Lib.hid (HST.out (r[k].toNat - 48) (by omega) (hx_dig h1.1 h1.2))
          obtain ⟨t, ht⟩ : ∃ t, r[k].toNat - 48 = t := ⟨_, rfl⟩
          rw [ht] at hst
          have hz1 : 48 ≤ (r[k].toNat : Int) := by omega
          have hz2 : (r[k].toNat : Int) ≤ 57 := by omega
          have HN : Hid (16 * (acc : Int) + ((r[k].toNat : Int) - 48) = ((acc * 16 + t : Nat) : Int)) := by show _ = _; omega
          clear h1 HST ht
          go_wp2_with fail
          go_round
          case rel => exact ⟨k + 1, acc * 16 + t, by omega, by go_num, by rw [← HN.out], hst.out.2, hst.out.1⟩
          case measure => simp [intOf]; omega
        · by_cases h2 : 97 ≤ r[k].toNat ∧ r[k].toNat ≤ 102
          · have hst := Lib.hid (HST.out (r[k].toNat - 87) (by omega) (hx_let h2.1 h2.2))
            obtain ⟨t, ht⟩ : ∃ t, r[k].toNat - 87 = t := ⟨_, rfl⟩
            rw [ht] at hst
            have hz1 : 97 ≤ (r[k].toNat : Int) := by omega
            have hz2 : (r[k].toNat : Int) ≤ 102 := by omega
            have HN : Hid (16 * (acc : Int) + ((r[k].toNat : Int) - 97) + 10 = ((acc * 16 + t : Nat) : Int)) := by show _ = _; omega
            clear h1 h2 HST ht
            go_wp2_with fail
            go_round
            case rel => exact ⟨k + 1, acc * 16 + t, by omega, by go_num, by rw [← HN.out], hst.out.2, hst.out.1⟩
            case measure => simp [intOf]; omega
          · have HF := Lib.hid (HNX.out (noHex_byte k hkr fun t ht => hx_none h1 h2 t ht))
            clear HST
            by_cases g1 : 48 ≤ r[k].toNat
            · have g2 : 57 < r[k].toNat := by omega
              by_cases g3 : 97 ≤ r[k].toNat
              · have g4 : 102 < r[k].toNat := by omega
                clear h1 h2
                go_wp2_with fail
                go_ret2
                exact ⟨by rw [HF.out]; rfl, hb1⟩
              · clear h1 h2
                go_wp2_with fail
                go_ret2
                exact ⟨by rw [HF.out]; rfl, hb1⟩
            · have g3 : ¬ 97 ≤ r[k].toNat := by omega
              clear h1 h2
              go_wp2_with fail
              go_ret2
              exact ⟨by rw [HF.out]; rfl, hb1⟩
      · obtain rfl : k = 6 := by omega
        have HF : Hid (ANS = some ((acc : Int) + 16777216)) := by
          obtain ⟨h1, h2⟩ := hso.out (by omega)
          rw [List.take_of_length_le (by omega)] at h1
          exact HYX.out acc hacc h1
        have HC : Hid (16777216 + (acc : Int) = (acc : Int) + 16777216) := by show _ = _; omega
        go_wp2_with fail
        go_ret2
        exact ⟨by rw [HF.out, ← HC.out]; rfl, hb1⟩
  · have HQ : Hid (∀ r, r.length = 6 → q ≠ 35 :: r) := fun r hr e => hq ⟨r, hr, e⟩
    clear hq
    go_enter Tryd.func11, Tryd.ntmps11
    go_wp2_with fail
    refine (hlo _).mono ?_
    rintro e w1 ⟨rfl, hb1⟩
    have hqs := bs_size q
    have hqt := bs_tl q
    have h7 : q.length = 7 → ∃ h : 0 < (bs q).size, ((bs q)[0]'h).toNat ≠ 35 := by
      intro e
      refine ⟨by omega, fun hh => ?_⟩
      cases q with
      | nil => simp at e
      | cons x r =>
        have h2 : x.toNat = 35 := hh
        have h3 : x = 35 := UInt8.toNat_inj.1 (by rw [h2]; rfl)
        exact HQ.out r (by simpa using e) (by rw [h3])
    obtain ⟨SQ, hSQ⟩ : ∃ SQ, bs q = SQ := ⟨_, rfl⟩
    rw [hSQ] at hqs hqt h7 ⊢
    clear hSQ
    by_cases hl7 : q.length = 7
    · obtain ⟨h0, hne⟩ := h7 hl7
      have hne2 : (((SQ[0]'h0).toNat : Int) == 35) = false := by
        have : ((SQ[0]'h0).toNat : Int) ≠ 35 := by exact_mod_cast hne
        simpa using this
      clear hne h7
      have hs7 : SQ.size = 7 := by omega
      go_wp2_with fail
      go_loopw [2, 3, 7] (fun _ _ i wr => ∃ c : Int, -1 ≤ c ∧ c ≤ 256 ∧ i = .int .i64 c ∧ Hid (Unnamed q c) ∧ Below w.heap.size w wr) (fun _ _ i _ => (256 - intOf i).toNat)
      case atStart => exact ⟨-1, by omega, by omega, rfl, fun c h1 h2 => by omega, hb1⟩
      case round =>
        obtain ⟨c, hc0, hc1, rfl, hun, hb⟩ := hrel
        by_cases hlt : c < 256
        · have HN := Lib.hid (names_iff q c hc0 (by omega))
          have hnm := fun w => nameRef_any c w
          have T0 := bs_tl (name c)
          have hbs := hb.size
          cases b0 : name c == q
          · have HNE := Lib.hid (show name c ≠ q by simpa using b0)
            have e0 := b0
            rw [← T0] at e0
            clear b0 T0
            generalize bs (name c) = N0 at *
            by_cases hneg : c < 0
            · have HU : Hid (Unnamed q (c + 1)) := fun d h1 h2 hn => by
                by_cases hd : d < c
                · exact hun.out d h1 hd hn
                · obtain rfl : d = c := by omega
                  rcases HN.out.1 hn with h | ⟨h, _⟩
                  · exact HNE.out h
                  · omega
              clear HN HNE
              go_wp2_with fail
              refine (hnm _).mono ?_
              rintro e w2 ⟨rfl, hb2⟩
              go_wp2_with fail
              go_roundw
              case rel => exact ⟨c + 1, by omega, by omega, rfl, HU, hb.trans (hb2.mono hbs)⟩
              case measure => simp [intOf]; omega
            · have dd := fun w => digitsI_any c (by omega) (by omega) w
              have z1 := dec_sz c.toNat
              have s1 : ∀ w : World, (Op.stringOp .add { data := #[99, 111, 108, 111, 117, 114] } (bs (dec c.toNat))).run Tryd.prog w = .ok (.string (bs (tColour ++ dec c.toNat))) w := fun w => by
                rw [← bs_app]; exact run_string_add_sum w _ _ (by show 6 + _ ≤ _; omega)
              have s2 : ∀ w : World, (Op.stringOp .add { data := #[99, 111, 108, 111, 114] } (bs (dec c.toNat))).run Tryd.prog w = .ok (.string (bs (tColor ++ dec c.toNat))) w := fun w => by
                rw [← bs_app]; exact run_string_add_sum w _ _ (by show 5 + _ ≤ _; omega)
              have T1 := bs_tl (tColour ++ dec c.toNat)
              have T2 := bs_tl (tColor ++ dec c.toNat)
              have hc00 : 0 ≤ c := by omega
              cases b1 : q == tColour ++ dec c.toNat
              · have HN1 := Lib.hid (show q ≠ tColour ++ dec c.toNat by simpa using b1)
                have e1 := b1
                rw [← T1] at e1
                cases b2 : q == tColor ++ dec c.toNat
                · have HN2 := Lib.hid (show q ≠ tColor ++ dec c.toNat by simpa using b2)
                  have e2 := b2
                  rw [← T2] at e2
                  have HU : Hid (Unnamed q (c + 1)) := fun d h1 h2 hn => by
                    by_cases hd : d < c
                    · exact hun.out d h1 hd hn
                    · obtain rfl : d = c := by omega
                      rcases HN.out.1 hn with h | ⟨_, h | h⟩
                      · exact HNE.out h
                      · exact HN1.out h
                      · exact HN2.out h
                  clear HN HNE HN1 HN2 b1 b2 T1 T2
                  generalize bs (tColour ++ dec c.toNat) = C1 at *
                  generalize bs (tColor ++ dec c.toNat) = C2 at *
                  generalize bs (dec c.toNat) = D at *
                  go_wp2_with fail
                  refine (hnm _).mono ?_
                  rintro e w2 ⟨rfl, hb2⟩
                  go_wp2_with fail
                  refine (dd _).mono ?_
                  rintro e w3 ⟨rfl, hb3⟩
                  go_wp2_with fail
                  refine (dd _).mono ?_
                  rintro e w4 ⟨rfl, hb4⟩
                  have hbw2 := hb.trans (hb2.mono hbs)
                  have hbw3 := hbw2.trans (hb3.mono hbw2.size)
                  have hbw4 := hbw3.trans (hb4.mono hbw3.size)
                  go_wp2_with fail
                  go_roundw
                  case rel => exact ⟨c + 1, by omega, by omega, rfl, HU, hbw4⟩
                  case measure => simp [intOf]; omega
                · have HF : Hid (colourS q = some c) := colourS_some (HN.out.2 (.inr ⟨hc00, .inr (by simpa using b2)⟩))
                  have e2 := b2
                  rw [← T2] at e2
                  clear HN HNE HN1 b1 b2 T1 T2
                  generalize bs (tColour ++ dec c.toNat) = C1 at *
                  generalize bs (tColor ++ dec c.toNat) = C2 at *
                  generalize bs (dec c.toNat) = D at *
                  go_wp2_with fail
                  refine (hnm _).mono ?_
                  rintro e w2 ⟨rfl, hb2⟩
                  go_wp2_with fail
                  refine (dd _).mono ?_
                  rintro e w3 ⟨rfl, hb3⟩
                  go_wp2_with fail
                  refine (dd _).mono ?_
                  rintro e w4 ⟨rfl, hb4⟩
                  have hbw2 := hb.trans (hb2.mono hbs)
                  have hbw3 := hbw2.trans (hb3.mono hbw2.size)
                  have hbw4 := hbw3.trans (hb4.mono hbw3.size)
                  go_wp2_with fail
                  go_ret2
                  exact ⟨by rw [HF.out]; rfl, hbw4⟩
              · have HF : Hid (colourS q = some c) := colourS_some (HN.out.2 (.inr ⟨hc00, .inl (by simpa using b1)⟩))
                have e1 := b1
                rw [← T1] at e1
                clear HN HNE b1 T1 T2 s2
                generalize bs (tColour ++ dec c.toNat) = C1 at *
                generalize bs (dec c.toNat) = D at *
                go_wp2_with fail
                refine (hnm _).mono ?_
                rintro e w2 ⟨rfl, hb2⟩
                go_wp2_with fail
                refine (dd _).mono ?_
                rintro e w3 ⟨rfl, hb3⟩
                have hbw2 := hb.trans (hb2.mono hbs)
                have hbw3 := hbw2.trans (hb3.mono hbw2.size)
                go_wp2_with fail
                go_ret2
                exact ⟨by rw [HF.out]; rfl, hbw3⟩
          · have HF : Hid (colourS q = some c) := colourS_some (HN.out.2 (.inl (by simpa using b0)))
            have e0 := b0
            rw [← T0] at e0
            clear b0 T0 HN
            generalize bs (name c) = N0 at *
            go_wp2_with fail
            refine (hnm _).mono ?_
            rintro e w2 ⟨rfl, hb2⟩
            go_wp2_with fail
            go_ret2
            exact ⟨by rw [HF.out]; rfl, hb.trans (hb2.mono hbs)⟩
        · obtain rfl : c = 256 := by omega
          have HF : Hid (colourS q = none) := unnamed_end hun.out HQ.out
          go_wp2_with fail
          go_ret2
          exact ⟨by rw [HF.out]; rfl, hb⟩
    · go_wp2_with fail
      go_loopw [2, 3, 7] (fun _ _ i wr => ∃ c : Int, -1 ≤ c ∧ c ≤ 256 ∧ i = .int .i64 c ∧ Hid (Unnamed q c) ∧ Below w.heap.size w wr) (fun _ _ i _ => (256 - intOf i).toNat)
      case atStart => exact ⟨-1, by omega, by omega, rfl, fun c h1 h2 => by omega, hb1⟩
      case round =>
        obtain ⟨c, hc0, hc1, rfl, hun, hb⟩ := hrel
        by_cases hlt : c < 256
        · have HN := Lib.hid (names_iff q c hc0 (by omega))
          have hnm := fun w => nameRef_any c w
          have T0 := bs_tl (name c)
          have hbs := hb.size
          cases b0 : name c == q
          · have HNE := Lib.hid (show name c ≠ q by simpa using b0)
            have e0 := b0
            rw [← T0] at e0
            clear b0 T0
            generalize bs (name c) = N0 at *
            by_cases hneg : c < 0
            · have HU : Hid (Unnamed q (c + 1)) := fun d h1 h2 hn => by
                by_cases hd : d < c
                · exact hun.out d h1 hd hn
                · obtain rfl : d = c := by omega
                  rcases HN.out.1 hn with h | ⟨h, _⟩
                  · exact HNE.out h
                  · omega
              clear HN HNE
              go_wp2_with fail
              refine (hnm _).mono ?_
              rintro e w2 ⟨rfl, hb2⟩
              go_wp2_with fail
              go_roundw
              case rel => exact ⟨c + 1, by omega, by omega, rfl, HU, hb.trans (hb2.mono hbs)⟩
              case measure => simp [intOf]; omega
            · have dd := fun w => digitsI_any c (by omega) (by omega) w
              have z1 := dec_sz c.toNat
              have s1 : ∀ w : World, (Op.stringOp .add { data := #[99, 111, 108, 111, 117, 114] } (bs (dec c.toNat))).run Tryd.prog w = .ok (.string (bs (tColour ++ dec c.toNat))) w := fun w => by
                rw [← bs_app]; exact run_string_add_sum w _ _ (by show 6 + _ ≤ _; omega)
              have s2 : ∀ w : World, (Op.stringOp .add { data := #[99, 111, 108, 111, 114] } (bs (dec c.toNat))).run Tryd.prog w = .ok (.string (bs (tColor ++ dec c.toNat))) w := fun w => by
                rw [← bs_app]; exact run_string_add_sum w _ _ (by show 5 + _ ≤ _; omega)
              have T1 := bs_tl (tColour ++ dec c.toNat)
              have T2 := bs_tl (tColor ++ dec c.toNat)
              have hc00 : 0 ≤ c := by omega
              cases b1 : q == tColour ++ dec c.toNat
              · have HN1 := Lib.hid (show q ≠ tColour ++ dec c.toNat by simpa using b1)
                have e1 := b1
                rw [← T1] at e1
                cases b2 : q == tColor ++ dec c.toNat
                · have HN2 := Lib.hid (show q ≠ tColor ++ dec c.toNat by simpa using b2)
                  have e2 := b2
                  rw [← T2] at e2
                  have HU : Hid (Unnamed q (c + 1)) := fun d h1 h2 hn => by
                    by_cases hd : d < c
                    · exact hun.out d h1 hd hn
                    · obtain rfl : d = c := by omega
                      rcases HN.out.1 hn with h | ⟨_, h | h⟩
                      · exact HNE.out h
                      · exact HN1.out h
                      · exact HN2.out h
                  clear HN HNE HN1 HN2 b1 b2 T1 T2
                  generalize bs (tColour ++ dec c.toNat) = C1 at *
                  generalize bs (tColor ++ dec c.toNat) = C2 at *
                  generalize bs (dec c.toNat) = D at *
                  go_wp2_with fail
                  refine (hnm _).mono ?_
                  rintro e w2 ⟨rfl, hb2⟩
                  go_wp2_with fail
                  refine (dd _).mono ?_
                  rintro e w3 ⟨rfl, hb3⟩
                  go_wp2_with fail
                  refine (dd _).mono ?_
                  rintro e w4 ⟨rfl, hb4⟩
                  have hbw2 := hb.trans (hb2.mono hbs)
                  have hbw3 := hbw2.trans (hb3.mono hbw2.size)
                  have hbw4 := hbw3.trans (hb4.mono hbw3.size)
                  go_wp2_with fail
                  go_roundw
                  case rel => exact ⟨c + 1, by omega, by omega, rfl, HU, hbw4⟩
                  case measure => simp [intOf]; omega
                · have HF : Hid (colourS q = some c) := colourS_some (HN.out.2 (.inr ⟨hc00, .inr (by simpa using b2)⟩))
                  have e2 := b2
                  rw [← T2] at e2
                  clear HN HNE HN1 b1 b2 T1 T2
                  generalize bs (tColour ++ dec c.toNat) = C1 at *
                  generalize bs (tColor ++ dec c.toNat) = C2 at *
                  generalize bs (dec c.toNat) = D at *
                  go_wp2_with fail
                  refine (hnm _).mono ?_
                  rintro e w2 ⟨rfl, hb2⟩
                  go_wp2_with fail
                  refine (dd _).mono ?_
                  rintro e w3 ⟨rfl, hb3⟩
                  go_wp2_with fail
                  refine (dd _).mono ?_
                  rintro e w4 ⟨rfl, hb4⟩
                  have hbw2 := hb.trans (hb2.mono hbs)
                  have hbw3 := hbw2.trans (hb3.mono hbw2.size)
                  have hbw4 := hbw3.trans (hb4.mono hbw3.size)
                  go_wp2_with fail
                  go_ret2
                  exact ⟨by rw [HF.out]; rfl, hbw4⟩
              · have HF : Hid (colourS q = some c) := colourS_some (HN.out.2 (.inr ⟨hc00, .inl (by simpa using b1)⟩))
                have e1 := b1
                rw [← T1] at e1
                clear HN HNE b1 T1 T2 s2
                generalize bs (tColour ++ dec c.toNat) = C1 at *
                generalize bs (dec c.toNat) = D at *
                go_wp2_with fail
                refine (hnm _).mono ?_
                rintro e w2 ⟨rfl, hb2⟩
                go_wp2_with fail
                refine (dd _).mono ?_
                rintro e w3 ⟨rfl, hb3⟩
                have hbw2 := hb.trans (hb2.mono hbs)
                have hbw3 := hbw2.trans (hb3.mono hbw2.size)
                go_wp2_with fail
                go_ret2
                exact ⟨by rw [HF.out]; rfl, hbw3⟩
          · have HF : Hid (colourS q = some c) := colourS_some (HN.out.2 (.inl (by simpa using b0)))
            have e0 := b0
            rw [← T0] at e0
            clear b0 T0 HN
            generalize bs (name c) = N0 at *
            go_wp2_with fail
            refine (hnm _).mono ?_
            rintro e w2 ⟨rfl, hb2⟩
            go_wp2_with fail
            go_ret2
            exact ⟨by rw [HF.out]; rfl, hb.trans (hb2.mono hbs)⟩
        · obtain rfl : c = 256 := by omega
          have HF : Hid (colourS q = none) := unnamed_end hun.out HQ.out
          go_wp2_with fail
          go_ret2
          exact ⟨by rw [HF.out]; rfl, hb⟩
end Go.Proofs.YtajnlbfhcbkopaaDoor.Sty
