/- The document's answer to layer 3: a colour's name. -/
import Derived.Test.YtajnlbfhcbkopaaDoorRdg
namespace Go.Proofs.YtajnlbfhcbkopaaDoor.Sty
open Go.RowKit

theorem eight_cell {w : World} {g : Nat} {t : TypeId} (h : Blk w g t namedCells) (i : Nat) (hi : i < 8) : w.cell? ⟨g, i, none⟩ = some (.string (bs (eight.getD i []))) := by
  rw [h.cell]
  match i, hi with
  | 0, _ => rfl
  | 1, _ => rfl
  | 2, _ => rfl
  | 3, _ => rfl
  | 4, _ => rfl
  | 5, _ => rfl
  | 6, _ => rfl
  | 7, _ => rfl
  | n + 8, hi => exact absurd hi (by omega)
theorem names_any (w : World) :
    Calls Tryd.prog 38 #[] w fun e w' => ∃ g, e = .returned (.slice (some ⟨g, 0, none⟩) 8 8) ∧ Blk w' g 9 namedCells ∧ Below w.heap.size w w' := by
  go_enter Tryd.func38, Tryd.ntmps38
  go_wp2
  go_ret
  exact ⟨_, rfl, Blk.new w _ _, (Below.refl _ _).alloc (Nat.le_refl _) _⟩

abbrev hexs : ByteArray := { data := #[48, 49, 50, 51, 52, 53, 54, 55, 56, 57, 97, 98, 99, 100, 101, 102] }
theorem hexs_cut (d : Nat) (hd : d < 16) : hexs.extract d (d + 1) = bs [hx d] := by
  have : ∀ d, d < 16 → (hexs.extract d (d + 1)).data.toList = [hx d] := by decide
  rw [← this d hd]
  exact bs_of _

set_option maxRecDepth 100000 in
set_option maxHeartbeats 400000 in
theorem nameRef_any (c : Int) (w : World) :
    Calls Tryd.prog 13 #[.int .i64 c] w fun e w' => e = .returned (.string (bs (name c))) ∧ Below w.heap.size w w' := by
  cases hc : isCol c
  · have c1 := fun w => is_any c _ hc w
    have HN := Lib.hid (name_no hc)
    clear hc
    go_enter Tryd.func13, Tryd.ntmps13
    go_wp2_with (go_at_call 37; refine (c1 _).mono ?_; rintro e w' ⟨rfl, rfl⟩)
    go_ret
    exact ⟨by rw [HN.out]; rfl, Below.refl _ _⟩
  · have c1 := fun w => is_any c _ hc w
    rw [isCol_iff] at hc
    by_cases h1 : c < 0
    · have HN : Hid (name c = tDefault) := by rw [show c = -1 by omega]; exact name_default
      clear hc
      go_enter Tryd.func13, Tryd.ntmps13
      go_wp2_with (go_at_call 37; refine (c1 _).mono ?_; rintro e w' ⟨rfl, rfl⟩)
      go_ret
      exact ⟨by rw [HN.out]; rfl, Below.refl _ _⟩
    · by_cases h8 : c < 8
      · obtain ⟨k, rfl⟩ : ∃ k : Nat, c = k := ⟨c.toNat, by omega⟩
        have hk : k < 8 := by omega
        have HN := Lib.hid (name_eight (c := k) (by omega) h8)
        clear hc
        go_enter Tryd.func13, Tryd.ntmps13
        go_wp2_with (go_at_call 37; refine (c1 _).mono ?_; rintro e w' ⟨rfl, rfl⟩)
        refine (names_any w).mono ?_
        rintro e w1 ⟨g, rfl, hblk, hb⟩
        have hcell := eight_cell hblk k hk
        go_wp2
        go_ret
        exact ⟨by rw [HN.out]; rfl, hb⟩
      · by_cases h16 : c < 16
        · obtain ⟨k, rfl⟩ : ∃ k : Nat, c = k + 8 := ⟨(c - 8).toNat, by omega⟩
          have hk : k < 8 := by omega
          have HN : Hid (name ((k : Int) + 8) = tBright ++ eight.getD k []) := by
            show _ = _
            rw [name_bright (c := (k : Int) + 8) (by omega) h16]
            congr 2
            omega
          have hsz : (bs (eight.getD k [])).size ≤ 7 := by rw [bs_size]; exact eight_len k
          clear hc
          go_enter Tryd.func13, Tryd.ntmps13
          go_wp2_with (go_at_call 37; refine (c1 _).mono ?_; rintro e w' ⟨rfl, rfl⟩)
          refine (names_any w).mono ?_
          rintro e w1 ⟨g, rfl, hblk, hb⟩
          have hcell := eight_cell hblk k hk
          generalize eight.getD k [] = X at *
          go_wp2
          go_ret
          exact ⟨by rw [HN.out, ← bs_app]; rfl, hb⟩
        · by_cases h255 : c < 256
          · obtain ⟨k, rfl⟩ : ∃ k : Nat, c = k := ⟨c.toNat, by omega⟩
            have HN : Hid (name (k : Int) = tColour ++ dec k) := name_num (c := k) (by omega) (by omega)
            have hsz : (bs (dec k)).size ≤ 3 := by rw [bs_size]; exact dec_len k
            clear hc
            go_enter Tryd.func13, Tryd.ntmps13
            go_wp2_with (first
              | (go_at_call 37; refine (c1 _).mono ?_; rintro e w' ⟨rfl, rfl⟩)
              | (go_at_call 32; refine (digitsRef_any k (by omega) _).mono ?_; rintro e w' ⟨rfl, hb⟩))
            go_ret
            exact ⟨by rw [HN.out, ← bs_app]; rfl, hb⟩
          · obtain ⟨k, hck⟩ : ∃ k : Nat, c - 16777216 = k := ⟨(c - 16777216).toNat, by omega⟩
            have hk : k < 16777216 := by omega
            have HN : Hid (name c = 35 :: hexk 6 k) := by
              have e : (c - 16777216).toNat = k := by omega
              show _ = _
              rw [name_rgb (by omega) (by omega), e]
            have h256 : 16777216 ≤ c := by omega
            have h256b : c ≤ 33554431 := by omega
            clear hc
            go_enter Tryd.func13, Tryd.ntmps13
            go_wp2_with (go_at_call 37; refine (c1 _).mono ?_; rintro e w' ⟨rfl, rfl⟩)
            have HX : Hid (∀ j, j < 6 → (35 :: hexk 6 k).take (j + 2) = (35 :: hexk 6 k).take (j + 1) ++ [hx (k / 16 ^ (5 - j) % 16)]) := by
              intro j hj
              obtain rfl | rfl | rfl | rfl | rfl | rfl : j = 0 ∨ j = 1 ∨ j = 2 ∨ j = 3 ∨ j = 4 ∨ j = 5 := by omega
              all_goals simp [hexk]
            go_loop [4, 6] (fun s i => ∃ j : Nat, j ≤ 6 ∧ i = .int .i64 (20 - 4 * (j : Int)) ∧ s = .string (bs ((35 :: hexk 6 k).take (j + 1)))) (fun _ i => (intOf i + 4).toNat)
            case atStart => exact ⟨0, by omega, rfl, rfl⟩
            case round =>
              obtain ⟨j, hj, rfl, rfl⟩ := hrel
              by_cases hj6 : j < 6
              · have hx1 := HX.out j hj6
                have hl1 : (bs ((35 :: hexk 6 k).take (j + 1))).size ≤ 7 := by rw [bs_size, List.length_take]; omega
                have hcut := hexs_cut (k / 16 ^ (5 - j) % 16) (by omega)
                have HSX : Hid (bs ((35 :: hexk 6 k).take (j + 1)) ++ hexs.extract (k / 16 ^ (5 - j) % 16) (k / 16 ^ (5 - j) % 16 + 1) = bs ((35 :: hexk 6 k).take (j + 1 + 1))) := by
                  show _ = _
                  rw [hcut, bs_app, hx1]
                clear hx1 hcut
                generalize bs ((35 :: hexk 6 k).take (j + 1)) = S at *
                have hjj : j = 0 ∨ j = 1 ∨ j = 2 ∨ j = 3 ∨ j = 4 ∨ j = 5 := by omega
                rcases hjj with rfl | rfl | rfl | rfl | rfl | rfl
                all_goals
                  go_wp2
                  go_round
                  case rel =>
                    first
                      | exact ⟨_, by omega, rfl, congrArg Value.string HSX.out⟩
                      | (refine ⟨6, by omega, rfl, ?_⟩
                         have h := HSX.out
                         rw [show k / 16 ^ (5 - 5) % 16 = k % 16 by simp] at h
                         exact congrArg Value.string h)
                  case measure => simp [intOf]
              · obtain rfl : j = 6 := by omega
                have HE : Hid (bs ((35 :: hexk 6 k).take (6 + 1)) = bs (name c)) := by
                  show _ = _
                  rw [HN.out]
                  congr 1
                clear HX
                generalize bs ((35 :: hexk 6 k).take (6 + 1)) = S at *
                go_wp2
                go_ret
                exact ⟨by rw [← HE.out]; rfl, Below.refl _ _⟩
end Go.Proofs.YtajnlbfhcbkopaaDoor.Sty
