/- A colour's name: the program. -/
import Derived.Test.YtajnlbfhcbkopaaDoorHex
namespace Go.Proofs.YtajnlbfhcbkopaaDoor.Sty
open Go.RowKit

def SomeHex (n : Nat) (B : Nat) (w : World) (e : Ending) (w' : World) : Prop := (∃ j, j < 6 ∧ n / 16 ^ j < 16 ∧ e = .returned (.string (bs (hexk (j + 1) n)))) ∧ Below B w w'
theorem formatInt_16 {B : Nat} (n : Nat) (hn : n < 16777216) (w : World) (ht : Tabs B w) (hB : B ≤ w.heap.size) :
    Calls Tryd.prog 35 #[.int .i64 n, .int .i64 16] w (SomeHex n w.heap.size w) := by
  have hin : Calls Tryd.prog 55 #[.int .i64 n, .int .i64 16] w (SomeHex n w.heap.size w) := by
    go_enter Tryd.func55, Tryd.ntmps55
    go_wp2_with (go_at_call 70; refine (formatBits_16 n hn w ht hB).mono ?_; rintro e w1 ⟨⟨j, hj, hq, rfl⟩, hb⟩)
    go_ret
    exact ⟨⟨j, hj, hq, rfl⟩, hb⟩
  go_enter Tryd.func35, Tryd.ntmps35
  go_wp2_with (go_at_call 55; refine hin.mono ?_; rintro e w1 ⟨⟨j, hj, hq, rfl⟩, hb⟩)
  go_ret
  exact ⟨⟨j, hj, hq, rfl⟩, hb⟩
theorem repeat_nought : ∀ k, Lib.repeatL [48] k = List.replicate k 48
  | 0 => rfl
  | k + 1 => by rw [Lib.repeatL, repeat_nought k, List.replicate_succ]; rfl
theorem ret_str {a b : ByteArray} (h : a = b) : Ending.returned (.string a) = .returned (.string b) := by rw [h]
set_option maxRecDepth 100000 in
set_option maxHeartbeats 400000 in
theorem name_any {B : Nat} (c : Int) (w : World) (ht : Tabs B w) (hB : B ≤ w.heap.size) :
    Calls Tryd.prog 12 #[.int .i64 c] w fun e w' => e = .returned (.string (bs (name c))) ∧ Below w.heap.size w w' := by
  cases hc : isCol c
  · have c1 := fun w => isColour_any c _ hc w
    have HN := Lib.hid (name_no hc)
    clear hc
    go_enter Tryd.func12, Tryd.ntmps12
    go_wp2_with (go_at_call 33; refine (c1 _).mono ?_; rintro e w' ⟨rfl, rfl⟩)
    go_ret
    exact ⟨by rw [HN.out]; rfl, Below.refl _ _⟩
  · have c1 := fun w => isColour_any c _ hc w
    rw [isCol_iff] at hc
    by_cases h1 : c = -1
    · have h1' : (c == -1) = true := by simpa using h1
      have HN : Hid (name c = tDefault) := by rw [h1]; exact name_default
      clear hc h1
      go_enter Tryd.func12, Tryd.ntmps12
      go_wp2_with (go_at_call 33; refine (c1 _).mono ?_; rintro e w' ⟨rfl, rfl⟩)
      go_ret
      exact ⟨by rw [HN.out]; rfl, Below.refl _ _⟩
    · have h1' : (c == -1) = false := by simpa using h1
      by_cases h8 : c < 8
      · obtain ⟨k, rfl⟩ : ∃ k : Nat, c = k := ⟨c.toNat, by omega⟩
        have hk : k < 8 := by omega
        have hcell := ht.name k hk
        have HN := Lib.hid (name_eight (c := k) (by omega) h8)
        clear hc h1
        go_enter Tryd.func12, Tryd.ntmps12
        go_wp2_with (go_at_call 33; refine (c1 _).mono ?_; rintro e w' ⟨rfl, rfl⟩)
        go_ret
        exact ⟨by rw [HN.out]; rfl, Below.refl _ _⟩
      · by_cases h16 : c < 16
        · obtain ⟨k, rfl⟩ : ∃ k : Nat, c = k + 8 := ⟨(c - 8).toNat, by omega⟩
          have hk : k < 8 := by omega
          have hcell := ht.name k hk
          have HN : Hid (name ((k : Int) + 8) = tBright ++ eight.getD k []) := by
            show _ = _
            rw [name_bright (c := (k : Int) + 8) (by omega) h16]
            congr 2
            omega
          have hsz : (bs (eight.getD k [])).size ≤ 7 := by rw [bs_size]; exact eight_len k
          generalize eight.getD k [] = X at *
          clear hc h1
          go_enter Tryd.func12, Tryd.ntmps12
          go_wp2_with (go_at_call 33; refine (c1 _).mono ?_; rintro e w' ⟨rfl, rfl⟩)
          go_ret
          exact ⟨by rw [HN.out, ← bs_app]; rfl, Below.refl _ _⟩
        · by_cases h255 : c ≤ 255
          · obtain ⟨k, rfl⟩ : ∃ k : Nat, c = k := ⟨c.toNat, by omega⟩
            have HN : Hid (name (k : Int) = tColour ++ dec k) := name_num (c := k) (by omega) h255
            have hsz : (bs (dec k)).size ≤ 3 := by rw [bs_size]; exact dec_len k
            clear hc h1
            go_enter Tryd.func12, Tryd.ntmps12
            go_wp2_with (first
              | (go_at_call 33; refine (c1 _).mono ?_; rintro e w' ⟨rfl, rfl⟩)
              | (go_at_call 34; refine (itoa_any k (by omega) _ ht).mono ?_; rintro e w' ⟨rfl, hb⟩))
            go_ret
            exact ⟨by rw [HN.out, ← bs_app]; rfl, hb⟩
          · obtain ⟨k, hck⟩ : ∃ k : Nat, c - 16777216 = k := ⟨(c - 16777216).toNat, by omega⟩
            have hk : k < 16777216 := by omega
            have HN : Hid (name c = 35 :: hexk 6 k) := by
              have e : (c - 16777216).toNat = k := by omega
              show _ = _
              rw [name_rgb (by omega) (by omega), e]
            have hfit := formatInt_16 k hk w ht hB
            rw [← hck] at hfit
            have h256 : 16777216 ≤ c := by omega
            have h256b : c ≤ 33554431 := by omega
            have HCK := Lib.hid hck
            clear hc h1 hck
            go_enter Tryd.func12, Tryd.ntmps12
            go_wp2_with (go_at_call 33; refine (c1 _).mono ?_; rintro e w' ⟨rfl, rfl⟩)
            refine hfit.mono ?_
            rintro e w1 ⟨⟨j, hj, hq, rfl⟩, hb⟩
            have hl : (hexk (j + 1) k).length = j + 1 := hexk_length _ _
            have hsz : (bs (hexk (j + 1) k)).size = j + 1 := by rw [bs_size, hl]
            have hpad : 35 :: hexk 6 k = [35] ++ Lib.repeatL [48] (5 - j) ++ hexk (j + 1) k := by
              rw [repeat_nought, List.append_assoc, ← hexk_pad k (5 - j) (j + 1) (by rw [Nat.pow_succ]; exact (Nat.div_lt_iff_lt_mul (by exact Nat.pow_pos (by omega))).1 hq |> fun h => by rw [Nat.mul_comm]; exact h)]
              rw [show j + 1 + (5 - j) = 6 by omega]
              rfl
            have HP := Lib.hid hpad
            have hrep := Tryd.strings_Repeat { data := #[48] } (5 - j) w1 (by omega) (by show 1 * (5 - j) ≤ _; omega)
            have hrl : (Lib.repeatL [48] (5 - j)).length = 5 - j := by rw [repeat_nought, List.length_replicate]
            have e0 : ({ data := #[48] } : ByteArray).data.toList = [48] := rfl
            rw [e0] at hrep
            have hrz : (bs (Lib.repeatL [48] (5 - j))).size ≤ 5 := by rw [bs_size]; omega
            change Calls _ _ _ _ (fun e w' => e = .returned (.string (bs (Lib.repeatL [48] (5 - j)))) ∧ Below w1.heap.size w1 w') at hrep
            generalize Lib.repeatL [48] (5 - j) = R at *
            generalize hexk (j + 1) k = X at *
            have hj5 : j = 0 ∨ j = 1 ∨ j = 2 ∨ j = 3 ∨ j = 4 ∨ j = 5 := by omega
            clear hpad hrl hl e0
            have hszl : (bs X).size ≤ 6 := by omega
            have hsz0 : 1 ≤ (bs X).size := by omega
            have e6 : ((5 - j : Nat) : Int) = 6 - ((bs X).size : Int) := by omega
            rw [e6] at hrep
            clear hsz e6 hj hq hj5
            go_wp2_with fail
            refine hrep.mono ?_
            rintro e w2 ⟨rfl, hb2⟩
            go_wp2_with fail
            go_ret
            exact ⟨by rw [HN.out, HP.out, ← bs_app, ← bs_app]; rfl, hb.trans (hb2.mono hb.size)⟩
end Go.Proofs.YtajnlbfhcbkopaaDoor.Sty
