/- Package style's colourCode, and the document's 'colour': the numbers of a colour in an escape. -/
import Derived.Test.YtajnlbfhcbkopaaDoorPnt
namespace Go.Proofs.YtajnlbfhcbkopaaDoor.Sty
open Go.RowKit

theorem itoaI_any {B : Nat} (z : Int) (h0 : 0 ≤ z) (h1 : z < 1000) (w : World) (ht : Tabs B w) :
    Calls Tryd.prog 34 #[.int .i64 z] w fun e w' => e = .returned (.string (bs (dec z.toNat))) ∧ Below w.heap.size w w' := by
  obtain ⟨k, rfl⟩ : ∃ k : Nat, z = k := ⟨z.toNat, by omega⟩
  exact itoa_any k (by omega) w ht
theorem i64_small (n : Int) (h₀ : 0 ≤ n) (h₁ : n < 2 ^ 63) : IntKind.i64.wrap n = n := by rw [IntKind.wrap_i64]; omega
theorem low8 (x : Int) (h0 : 0 ≤ x) (h1 : x < 16777216) : bits .and .i64 x 255 = x % 256 := by
  have h := bits_mask .i64 63 (by decide) i64_small 8 (by decide) x h0 (by omega)
  have e : ((2 : Int) ^ 8 - 1) = 255 := by decide
  have e2 : ((2 : Int) ^ 8) = 256 := by decide
  rwa [e, e2] at h
def t5 : Tx := [59, 53, 59]
def t2 : Tx := [59, 50, 59]
/-- The numbers of a colour; f: 30 of the front, 40 of the back. -/
def codeS (c f : Int) : Tx :=
  if c = -1 then dec (f + 9).toNat
  else if c < 8 then dec (f + c).toNat
  else if c < 16 then dec (f + 52 + c).toNat
  else if c ≤ 255 then dec (f + 8).toNat ++ t5 ++ dec c.toNat
  else dec (f + 8).toNat ++ t2 ++ dec ((c - 16777216) / 65536).toNat ++ [59] ++ dec ((c - 16777216) / 256 % 256).toNat ++ [59] ++ dec ((c - 16777216) % 256).toNat
theorem dec_sz (n : Nat) : (bs (dec n)).size ≤ 3 := by rw [bs_size]; exact dec_len n
theorem codeS_len (c f : Int) : (codeS c f).length ≤ 20 := by
  unfold codeS
  have h5 : t5.length = 3 := rfl
  have h2 : t2.length = 3 := rfl
  have h59 : ([59] : Tx).length = 1 := rfl
  have hd := dec_len
  split
  · exact Nat.le_trans (hd _) (by omega)
  · split
    · exact Nat.le_trans (hd _) (by omega)
    · split
      · exact Nat.le_trans (hd _) (by omega)
      · split
        · simp only [List.length_append]
          have a := hd (f + 8).toNat
          have b := hd c.toNat
          omega
        · simp only [List.length_append]
          have a := hd (f + 8).toNat
          have b := hd ((c - 16777216) / 65536).toNat
          have d := hd ((c - 16777216) / 256 % 256).toNat
          have e := hd ((c - 16777216) % 256).toNat
          omega

set_option maxRecDepth 100000 in
set_option maxHeartbeats 1000000 in
theorem colourCode_any {B : Nat} (c f : Int) (hc : isCol c = true) (hf : f = 30 ∨ f = 40) (w : World) (ht : Tabs B w) (hB : B ≤ w.heap.size) :
    Calls Tryd.prog 47 #[.int .i64 c, .int .i64 f] w fun e w' => e = .returned (.string (bs (codeS c f))) ∧ Below w.heap.size w w' := by
  rw [isCol_iff] at hc
  have hf0 : 30 ≤ f := by omega
  have hf1 : f ≤ 40 := by omega
  clear hf
  by_cases h1 : c = -1
  · have h1b : (c == -1) = true := by simpa using h1
    have HE : Hid (codeS c f = dec (f + 9).toNat) := by show _ = _; unfold codeS; rw [if_pos h1]
    clear hc h1
    go_enter Tryd.func47, Tryd.ntmps47
    go_wp2_with (go_at_call 34; refine (itoaI_any (f + 9) (by omega) (by omega) _ ht).mono ?_; rintro e w1 ⟨rfl, hb1⟩)
    go_ret
    exact ⟨by rw [HE.out]; rfl, hb1⟩
  · have h1b : (c == -1) = false := by simpa using h1
    by_cases h8 : c < 8
    · have HE : Hid (codeS c f = dec (f + c).toNat) := by show _ = _; unfold codeS; rw [if_neg h1, if_pos h8]
      have hc0 : 0 ≤ c := by omega
      clear hc h1
      go_enter Tryd.func47, Tryd.ntmps47
      go_wp2_with (go_at_call 34; refine (itoaI_any (f + c) (by omega) (by omega) _ ht).mono ?_; rintro e w1 ⟨rfl, hb1⟩)
      go_ret
      exact ⟨by rw [HE.out]; rfl, hb1⟩
    · by_cases h16 : c < 16
      · have HE : Hid (codeS c f = dec (f + 60 + c - 8).toNat) := by
          show _ = _
          unfold codeS; rw [if_neg h1, if_neg h8, if_pos h16]; congr 2; omega
        clear hc h1
        go_enter Tryd.func47, Tryd.ntmps47
        go_wp2_with (go_at_call 34; refine (itoaI_any (f + 60 + c - 8) (by omega) (by omega) _ ht).mono ?_; rintro e w1 ⟨rfl, hb1⟩)
        go_ret
        exact ⟨by rw [HE.out]; rfl, hb1⟩
      · by_cases h255 : c ≤ 255
        · have HE : Hid (codeS c f = dec (f + 8).toNat ++ t5 ++ dec c.toNat) := by
            show _ = _
            unfold codeS; rw [if_neg h1, if_neg h8, if_neg h16, if_pos h255]
          have z1 := dec_sz (f + 8).toNat
          have z2 := dec_sz c.toNat
          clear hc h1
          go_enter Tryd.func47, Tryd.ntmps47
          go_wp2_with fail
          refine (itoaI_any (f + 8) (by omega) (by omega) _ ht).mono ?_
          rintro e w1 ⟨rfl, hb1⟩
          have ht1 := ht.on hB hb1
          have HJ : Hid (bs (dec (f + 8).toNat) ++ { data := #[59, 53, 59] } ++ bs (dec c.toNat) = bs (codeS c f)) := by
            show _ = _
            rw [HE.out, ← bs_app, ← bs_app]; rfl
          generalize bs (dec (f + 8).toNat) = X1 at *
          have hcc := itoaI_any c (by omega) (by omega) w1 ht1
          generalize bs (dec c.toNat) = X2 at *
          go_wp2_with fail
          refine hcc.mono ?_
          rintro e w2 ⟨rfl, hb2⟩
          go_wp2_with fail
          go_ret
          exact ⟨by rw [← HJ.out]; rfl, hb1.trans (hb2.mono hb1.size)⟩
        · have HE : Hid (codeS c f = dec (f + 8).toNat ++ t2 ++ dec ((c - 16777216) / 65536).toNat ++ [59] ++ dec ((c - 16777216) / 256 % 256).toNat ++ [59] ++ dec ((c - 16777216) % 256).toNat) := by
            show _ = _
            unfold codeS; rw [if_neg h1, if_neg h8, if_neg h16, if_neg h255]
          obtain ⟨m, hm⟩ : ∃ m, c - 16777216 = m := ⟨_, rfl⟩
          have hm0 : 0 ≤ m := by omega
          have hm1 : m < 16777216 := by omega
          have hc3 : 16777216 ≤ c := by omega
          have hc4 : c ≤ 33554431 := by omega
          rw [hm] at HE
          have hg := low8 (m / 256) (by omega) (by omega)
          have hbl := low8 m hm0 hm1
          have z1 := dec_sz (f + 8).toNat
          have z2 := dec_sz (m / 65536).toNat
          have z3 := dec_sz (m / 256 % 256).toNat
          have z4 := dec_sz (m % 256).toNat
          have HJ : Hid (bs (dec (f + 8).toNat) ++ { data := #[59, 50, 59] } ++ bs (dec (m / 65536).toNat) ++ { data := #[59] } ++ bs (dec (m / 256 % 256).toNat) ++ { data := #[59] } ++ bs (dec (m % 256).toNat) = bs (codeS c f)) := by
            show _ = _
            rw [HE.out, ← bs_app, ← bs_app, ← bs_app, ← bs_app, ← bs_app, ← bs_app]; rfl
          have i1 := fun w h => itoaI_any (B := B) (f + 8) (by omega) (by omega) w h
          have i2 := fun w h => itoaI_any (B := B) (m / 65536) (by omega) (by omega) w h
          have i3 := fun w h => itoaI_any (B := B) (m / 256 % 256) (by omega) (by omega) w h
          have i4 := fun w h => itoaI_any (B := B) (m % 256) (by omega) (by omega) w h
          generalize bs (dec (f + 8).toNat) = X1 at *
          generalize bs (dec (m / 65536).toNat) = X2 at *
          generalize bs (dec (m / 256 % 256).toNat) = X3 at *
          generalize bs (dec (m % 256).toNat) = X4 at *
          clear hc h1
          go_enter Tryd.func47, Tryd.ntmps47
          go_wp2_with fail
          refine (i1 _ ht).mono ?_
          rintro e w1 ⟨rfl, hb1⟩
          have ht1 := ht.on hB hb1
          go_wp2_with fail
          refine (i2 _ ht1).mono ?_
          rintro e w2 ⟨rfl, hb2⟩
          have hbw2 := hb1.trans (hb2.mono hb1.size)
          go_wp2_with fail
          refine (i3 _ (ht.on hB hbw2)).mono ?_
          rintro e w3 ⟨rfl, hb3⟩
          have hbw3 := hbw2.trans (hb3.mono hbw2.size)
          go_wp2_with fail
          refine (i4 _ (ht.on hB hbw3)).mono ?_
          rintro e w4 ⟨rfl, hb4⟩
          have hbw4 := hbw3.trans (hb4.mono hbw3.size)
          go_wp2_with fail
          go_ret
          exact ⟨by rw [← HJ.out]; rfl, hbw4⟩
end Go.Proofs.YtajnlbfhcbkopaaDoor.Sty
