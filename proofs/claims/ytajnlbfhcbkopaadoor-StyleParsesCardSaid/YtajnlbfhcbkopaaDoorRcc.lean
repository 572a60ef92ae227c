/- The chapter's 'colour' (its numbers in an escape) walked. -/
import Derived.Test.YtajnlbfhcbkopaaDoorRpi
namespace Go.Proofs.YtajnlbfhcbkopaaDoor.Sty
open Go.RowKit

theorem digitsI_any (z : Int) (h0 : 0 ≤ z) (h1 : z < 1000) (w : World) :
    Calls Tryd.prog 32 #[.int .i64 z] w fun e w' => e = .returned (.string (bs (dec z.toNat))) ∧ Below w.heap.size w w' := by
  obtain ⟨k, rfl⟩ : ∃ k : Nat, z = k := ⟨z.toNat, by omega⟩
  exact digitsRef_any k (by omega) w
set_option maxRecDepth 100000 in
set_option maxHeartbeats 1000000 in
theorem colourNums_any (c y : Int) (hc : isCol c = true) (hf : y = 0 ∨ y = 10) (w : World) :
    Calls Tryd.prog 49 #[.int .i64 c, .int .i64 y] w fun e w' => e = .returned (.string (bs (codeS c (30 + y)))) ∧ Below w.heap.size w w' := by
  rw [isCol_iff] at hc
  have hf0 : 0 ≤ y := by omega
  have hf1 : y ≤ 10 := by omega
  clear hf
  by_cases h1 : c < 0
  · have HE : Hid (codeS c (30 + y) = dec (39 + y).toNat) := by show _ = _; unfold codeS; rw [if_pos (by omega)]; congr 2; omega
    go_enter Tryd.func49, Tryd.ntmps49
    go_wp2_with (go_at_call 32; refine (digitsI_any (39 + y) (by omega) (by omega) _).mono ?_; rintro e w1 ⟨rfl, hb1⟩)
    go_ret
    exact ⟨by rw [HE.out]; rfl, hb1⟩
  · by_cases h8 : c < 8
    · have HE : Hid (codeS c (30 + y) = dec (30 + y + c).toNat) := by show _ = _; unfold codeS; rw [if_neg (by omega), if_pos h8]
      have hc0 : 0 ≤ c := by omega
      clear hc h1
      go_enter Tryd.func49, Tryd.ntmps49
      go_wp2_with (go_at_call 32; refine (digitsI_any (30 + y + c) (by omega) (by omega) _).mono ?_; rintro e w1 ⟨rfl, hb1⟩)
      go_ret
      exact ⟨by rw [HE.out]; rfl, hb1⟩
    · by_cases h16 : c < 16
      · have HE : Hid (codeS c (30 + y) = dec (82 + y + c).toNat) := by
          show _ = _
          unfold codeS; rw [if_neg (by omega), if_neg h8, if_pos h16]; congr 2; omega
        clear hc h1
        go_enter Tryd.func49, Tryd.ntmps49
        go_wp2_with (go_at_call 32; refine (digitsI_any (82 + y + c) (by omega) (by omega) _).mono ?_; rintro e w1 ⟨rfl, hb1⟩)
        go_ret
        exact ⟨by rw [HE.out]; rfl, hb1⟩
      · by_cases h255 : c < 256
        · have HE : Hid (codeS c (30 + y) = dec (38 + y).toNat ++ t5 ++ dec c.toNat) := by
            show _ = _
            unfold codeS; rw [if_neg (by omega), if_neg h8, if_neg h16, if_pos (by omega)]
            have e : 30 + y + 8 = 38 + y := by omega
            rw [e]
          have z1 := dec_sz (38 + y).toNat
          have z2 := dec_sz c.toNat
          have HJ : Hid (bs (dec (38 + y).toNat) ++ { data := #[59, 53, 59] } ++ bs (dec c.toNat) = bs (codeS c (30 + y))) := by
            show _ = _
            rw [HE.out, ← bs_app, ← bs_app]; rfl
          have i1 := fun w => digitsI_any (38 + y) (by omega) (by omega) w
          have i2 := fun w => digitsI_any c (by omega) (by omega) w
          generalize bs (dec (38 + y).toNat) = X1 at *
          generalize bs (dec c.toNat) = X2 at *
          clear hc h1
          go_enter Tryd.func49, Tryd.ntmps49
          go_wp2_with fail
          refine (i1 _).mono ?_
          rintro e w1 ⟨rfl, hb1⟩
          go_wp2_with fail
          refine (i2 _).mono ?_
          rintro e w2 ⟨rfl, hb2⟩
          go_wp2_with fail
          go_ret
          exact ⟨by rw [← HJ.out]; rfl, hb1.trans (hb2.mono hb1.size)⟩
        · have HE : Hid (codeS c (30 + y) = dec (38 + y).toNat ++ t2 ++ dec ((c - 16777216) / 65536).toNat ++ [59] ++ dec ((c - 16777216) / 256 % 256).toNat ++ [59] ++ dec ((c - 16777216) % 256).toNat) := by
            show _ = _
            unfold codeS; rw [if_neg (by omega), if_neg h8, if_neg h16, if_neg (by omega)]
            have e : 30 + y + 8 = 38 + y := by omega
            rw [e]
          obtain ⟨m, hm⟩ : ∃ m, c - 16777216 = m := ⟨_, rfl⟩
          have hm0 : 0 ≤ m := by omega
          have hm1 : m < 16777216 := by omega
          have hc3 : 16777216 ≤ c := by omega
          have hc4 : c ≤ 33554431 := by omega
          rw [hm] at HE
          have z1 := dec_sz (38 + y).toNat
          have z2 := dec_sz (m / 65536).toNat
          have z3 := dec_sz (m / 256 % 256).toNat
          have z4 := dec_sz (m % 256).toNat
          have HJ : Hid (bs (dec (38 + y).toNat) ++ { data := #[59, 50, 59] } ++ bs (dec (m / 65536).toNat) ++ { data := #[59] } ++ bs (dec (m / 256 % 256).toNat) ++ { data := #[59] } ++ bs (dec (m % 256).toNat) = bs (codeS c (30 + y))) := by
            show _ = _
            rw [HE.out, ← bs_app, ← bs_app, ← bs_app, ← bs_app, ← bs_app, ← bs_app]; rfl
          have i1 := fun w => digitsI_any (38 + y) (by omega) (by omega) w
          have i2 := fun w => digitsI_any (m / 65536) (by omega) (by omega) w
          have i3 := fun w => digitsI_any (m / 256 % 256) (by omega) (by omega) w
          have i4 := fun w => digitsI_any (m % 256) (by omega) (by omega) w
          generalize bs (dec (38 + y).toNat) = X1 at *
          generalize bs (dec (m / 65536).toNat) = X2 at *
          generalize bs (dec (m / 256 % 256).toNat) = X3 at *
          generalize bs (dec (m % 256).toNat) = X4 at *
          clear hc h1
          go_enter Tryd.func49, Tryd.ntmps49
          go_wp2_with fail
          refine (i1 _).mono ?_
          rintro e w1 ⟨rfl, hb1⟩
          go_wp2_with fail
          refine (i2 _).mono ?_
          rintro e w2 ⟨rfl, hb2⟩
          have hbw2 := hb1.trans (hb2.mono hb1.size)
          go_wp2_with fail
          refine (i3 _).mono ?_
          rintro e w3 ⟨rfl, hb3⟩
          have hbw3 := hbw2.trans (hb3.mono hbw2.size)
          go_wp2_with fail
          refine (i4 _).mono ?_
          rintro e w4 ⟨rfl, hb4⟩
          have hbw4 := hbw3.trans (hb4.mono hbw3.size)
          go_wp2_with fail
          go_ret
          exact ⟨by rw [← HJ.out]; rfl, hbw4⟩
end Go.Proofs.YtajnlbfhcbkopaaDoor.Sty
