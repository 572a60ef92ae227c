/- The walk of the document's rune at the front of bytes. -/
import Derived.Test.YtmnembhfbboljaaDoorRef
namespace Go.Proofs.YtmnembhfbboljaaDoor.Cel
open Go.RowKit

theorem bytes_cons_at {s : ByteArray} {j : Nat} (h : j < s.size) : s.data.toList.drop j = s[j] :: s.data.toList.drop (j + 1) := by
  have hl : j < s.data.toList.length := by simpa using h
  rw [List.drop_eq_getElem_cons hl]
  rfl
theorem scan_end (r lo hi : Int) (i : Nat) (l : List UInt8) : scan r lo hi 0 i l = (r, i) := by cases l <;> rfl
theorem scan_cons (r lo hi : Int) (m i : Nat) (b : UInt8) (l : List UInt8) : scan r lo hi (m + 1) i (b :: l) = if (b.toNat : Int) < lo ∨ hi < (b.toNat : Int) then (65533, i) else scan (r * 64 + (b.toNat : Int) % 64) 128 191 m (i + 1) l := rfl
theorem ret_pair {k k' : IntKind} {a b c d : Int} (h : (a, b) = (c, d)) : Ending.returned (.tuple #[.int k a, .int k' b]) = .returned (.tuple #[.int k c, .int k' d]) := by
  injection h with h1 h2
  rw [h1, h2]

set_option maxRecDepth 100000 in
set_option maxHeartbeats 1000000 in
theorem takeRef_any (s : ByteArray) (w : World) (h0 : 0 < s.size) :
    Calls Tryd.prog 30 #[.string s] w fun e w' => e = .returned (.tuple #[.int .i32 (take s.data.toList).1, .int .i64 ((take s.data.toList).2 : Nat)]) ∧ w = w' := by
  have hb := byte_le s[0]
  have hcons : s.data.toList = s[0] :: s.data.toList.drop 1 := bytes_cons_at h0
  have htk : take s.data.toList = takeAt (s[0].toNat : Int) (s.data.toList.drop 1) := (congrArg take hcons).trans (take_cons _ _)
  have HT := Lib.hid htk
  clear htk hcons
  by_cases h1 : (s[0].toNat : Int) < 128
  · have HR : Hid (take s.data.toList = ((s[0].toNat : Int), 1)) := by show _ = _; rw [HT.out, take_one h1]
    go_enter Tryd.func30, Tryd.ntmps30
    go_wp2
    go_ret2
    exact ⟨by rw [HR.out]; rfl, rfl⟩
  · by_cases h2 : more (s[0].toNat : Int) = -1
    · have HR : Hid (take s.data.toList = (65533, 1)) := by show _ = _; rw [HT.out, take_bad h1 h2]
      have hr := ranges_none (s[0].toNat : Int) w h2
      clear h2
      go_enter Tryd.func30, Tryd.ntmps30
      go_wp2_with (go_at_call 39; refine hr.mono ?_; rintro e w' ⟨rfl, rfl⟩)
      go_ret2
      exact ⟨by rw [HR.out]; rfl, rfl⟩
    · have hr := ranges_open (s[0].toNat : Int) w h2
      have hop := opens h2
      obtain ⟨k, hk, hk2⟩ := more_nat h2
      have HR : Hid (take s.data.toList = scan (mask (s[0].toNat : Int)) (lo (s[0].toNat : Int)) (hi (s[0].toNat : Int)) (k + 1) 1 (s.data.toList.drop 1)) := by
        show _ = _
        rw [HT.out, take_open h1 h2, hk]
        rfl
      have hmk : (k = 0 ∧ mask (s[0].toNat : Int) = (s[0].toNat : Int) % 32) ∨ (k = 1 ∧ mask (s[0].toNat : Int) = (s[0].toNat : Int) % 16) ∨ (k = 2 ∧ mask (s[0].toNat : Int) = (s[0].toNat : Int) % 8) := by
        rcases hop with ⟨_, _, e, e', _⟩ | ⟨q, e, e', _⟩ | ⟨q, e, e', _⟩ | ⟨_, _, _, e, e', _⟩ | ⟨q, e, e', _⟩ | ⟨_, _, e, e', _⟩ | ⟨q, e, e', _⟩ <;> omega
      rw [hk] at hr
      clear h2 hop hk HT
      generalize lo (s[0].toNat : Int) = x0 at *
      generalize hi (s[0].toNat : Int) = u0 at *
      have e1 : bits BinOp.and IntKind.u8 (s[0].toNat : Int) 31 = (s[0].toNat : Int) % 32 := u8_and31 _ hb.1 (by omega)
      have e2 : bits BinOp.and IntKind.u8 (s[0].toNat : Int) 15 = (s[0].toNat : Int) % 16 := u8_and15 _ hb.1 (by omega)
      have e3 : bits BinOp.and IntKind.u8 (s[0].toNat : Int) 7 = (s[0].toNat : Int) % 8 := u8_and7 _ hb.1 (by omega)
      rcases hmk with ⟨rfl, hm⟩ | ⟨rfl, hm⟩ | ⟨rfl, hm⟩
      · rw [hm] at HR
        clear hm hk2
        go_enter Tryd.func30, Tryd.ntmps30
        go_wp2_with (go_at_call 39; refine hr.mono ?_; rintro e w' ⟨rfl, rfl⟩)
        go_loop [4, 5, 7, 8] (fun a b c i => ∃ (j : Nat) (x u y : Int), 1 ≤ j ∧ j ≤ 0 + 2 ∧ a = .int .u8 x ∧ b = .int .u8 u ∧ c = .int .i32 y ∧ i = .int .i64 j ∧ 0 ≤ y ∧ y ≤ 16777215 ∧ Hid ((j = 1 → y ≤ 31) ∧ (j = 2 → y ≤ 2047) ∧ (j = 3 → y ≤ 131071)) ∧ Hid (take s.data.toList = scan y x u (0 + 2 - j) j (s.data.toList.drop j))) (fun _ _ _ i => 0 + 2 - (intOf i).toNat)
        case atStart => exact ⟨1, x0, u0, (s[0].toNat : Int) % 32, by omega, by omega, rfl, rfl, rfl, rfl, by omega, by omega, ⟨fun _ => by omega, fun h => by omega, fun h => by omega⟩, HR.out⟩
        case round =>
          obtain ⟨j, x, u, y, j1, j2, rfl, rfl, rfl, rfl, y0, y1, HY, HS⟩ := hrel
          by_cases hlt : j ≤ 0 + 1
          · by_cases hsz : j < s.size
            · have hby := byte_le s[j]
              have ee : 0 + 2 - j = (0 + 1 - j) + 1 := by omega
              have HD : Hid (take s.data.toList = if (s[j].toNat : Int) < x ∨ u < (s[j].toNat : Int) then (65533, j) else scan (y * 64 + (s[j].toNat : Int) % 64) 128 191 (0 + 1 - j) (j + 1) (s.data.toList.drop (j + 1))) := by
                show _ = _
                rw [HS.out, bytes_cons_at hsz, ee, scan_cons]
              clear ee
              by_cases c1 : (s[j].toNat : Int) < x
              · have HV : Hid (take s.data.toList = (65533, j)) := by show _ = _; rw [HD.out, if_pos (Or.inl c1)]
                go_wp2
                go_ret2
                exact ⟨by rw [HV.out]; rfl, rfl⟩
              · by_cases c2 : u < (s[j].toNat : Int)
                · have HV : Hid (take s.data.toList = (65533, j)) := by show _ = _; rw [HD.out, if_pos (Or.inr c2)]
                  go_wp2
                  go_ret2
                  exact ⟨by rw [HV.out]; rfl, rfl⟩
                · have HV : Hid (take s.data.toList = scan (y * 64 + (s[j].toNat : Int) % 64) 128 191 (0 + 1 - j) (j + 1) (s.data.toList.drop (j + 1))) := by show _ = _; rw [HD.out, if_neg (by omega)]
                  have hyb : y ≤ 131071 := by
                    have hh := HY.out
                    have hj3 : j = 1 ∨ j = 2 ∨ j = 3 := by omega
                    rcases hj3 with h | h | h
                    · have := hh.1 h; omega
                    · have := hh.2.1 h; omega
                    · exact hh.2.2 h
                  have HY2 : Hid ((j + 1 = 1 → y * 64 + (s[j].toNat : Int) % 64 ≤ 31) ∧ (j + 1 = 2 → y * 64 + (s[j].toNat : Int) % 64 ≤ 2047) ∧ (j + 1 = 3 → y * 64 + (s[j].toNat : Int) % 64 ≤ 131071)) := by
                    have hh := HY.out
                    refine ⟨fun h => by omega, fun h => ?_, fun h => ?_⟩
                    · have := hh.1 (by omega); omega
                    · have := hh.2.1 (by omega); omega
                  have f1 : bits BinOp.and IntKind.u8 (s[j].toNat : Int) 63 = (s[j].toNat : Int) % 64 := u8_and63 _ hby.1 (by omega)
                  have f2 : bits BinOp.or IntKind.i32 (y * 64) ((s[j].toNat : Int) % 64) = y * 64 + (s[j].toNat : Int) % 64 := i32_or6 _ _ (by omega) (by omega) (by omega) (by omega) (by omega)
                  go_wp2
                  go_round
                  case rel =>
                    refine ⟨j + 1, 128, 191, _, by omega, by omega, rfl, rfl, rfl, by go_num, by omega, by omega, HY2, ?_⟩
                    have e : 0 + 2 - (j + 1) = 0 + 1 - j := by omega
                    show _ = _
                    rw [HV.out, e]
                  case measure => simp [intOf]; omega
            · have HV : Hid (take s.data.toList = (0, 0)) := by
                show _ = _
                have ee : 0 + 2 - j = (0 + 1 - j) + 1 := by omega
                rw [HS.out, List.drop_of_length_le (by rw [Array.length_toList]; show s.size ≤ j; omega), ee]
                rfl
              go_wp2
              go_ret2
              exact ⟨by rw [HV.out]; rfl, rfl⟩
          · have HV : Hid (take s.data.toList = (y, 0 + 2)) := by
              have e : j = 0 + 2 := by omega
              show _ = _
              rw [HS.out, e]
              exact scan_end _ _ _ _ _
            go_wp2
            go_ret2
            exact ⟨by rw [HV.out]; rfl, rfl⟩
      · rw [hm] at HR
        clear hm hk2
        go_enter Tryd.func30, Tryd.ntmps30
        go_wp2_with (go_at_call 39; refine hr.mono ?_; rintro e w' ⟨rfl, rfl⟩)
        go_loop [4, 5, 7, 8] (fun a b c i => ∃ (j : Nat) (x u y : Int), 1 ≤ j ∧ j ≤ 1 + 2 ∧ a = .int .u8 x ∧ b = .int .u8 u ∧ c = .int .i32 y ∧ i = .int .i64 j ∧ 0 ≤ y ∧ y ≤ 16777215 ∧ Hid ((j = 1 → y ≤ 31) ∧ (j = 2 → y ≤ 2047) ∧ (j = 3 → y ≤ 131071)) ∧ Hid (take s.data.toList = scan y x u (1 + 2 - j) j (s.data.toList.drop j))) (fun _ _ _ i => 1 + 2 - (intOf i).toNat)
        case atStart => exact ⟨1, x0, u0, (s[0].toNat : Int) % 16, by omega, by omega, rfl, rfl, rfl, rfl, by omega, by omega, ⟨fun _ => by omega, fun h => by omega, fun h => by omega⟩, HR.out⟩
        case round =>
          obtain ⟨j, x, u, y, j1, j2, rfl, rfl, rfl, rfl, y0, y1, HY, HS⟩ := hrel
          by_cases hlt : j ≤ 1 + 1
          · by_cases hsz : j < s.size
            · have hby := byte_le s[j]
              have ee : 1 + 2 - j = (1 + 1 - j) + 1 := by omega
              have HD : Hid (take s.data.toList = if (s[j].toNat : Int) < x ∨ u < (s[j].toNat : Int) then (65533, j) else scan (y * 64 + (s[j].toNat : Int) % 64) 128 191 (1 + 1 - j) (j + 1) (s.data.toList.drop (j + 1))) := by
                show _ = _
                rw [HS.out, bytes_cons_at hsz, ee, scan_cons]
              clear ee
              by_cases c1 : (s[j].toNat : Int) < x
              · have HV : Hid (take s.data.toList = (65533, j)) := by show _ = _; rw [HD.out, if_pos (Or.inl c1)]
                go_wp2
                go_ret2
                exact ⟨by rw [HV.out]; rfl, rfl⟩
              · by_cases c2 : u < (s[j].toNat : Int)
                · have HV : Hid (take s.data.toList = (65533, j)) := by show _ = _; rw [HD.out, if_pos (Or.inr c2)]
                  go_wp2
                  go_ret2
                  exact ⟨by rw [HV.out]; rfl, rfl⟩
                · have HV : Hid (take s.data.toList = scan (y * 64 + (s[j].toNat : Int) % 64) 128 191 (1 + 1 - j) (j + 1) (s.data.toList.drop (j + 1))) := by show _ = _; rw [HD.out, if_neg (by omega)]
                  have hyb : y ≤ 131071 := by
                    have hh := HY.out
                    have hj3 : j = 1 ∨ j = 2 ∨ j = 3 := by omega
                    rcases hj3 with h | h | h
                    · have := hh.1 h; omega
                    · have := hh.2.1 h; omega
                    · exact hh.2.2 h
                  have HY2 : Hid ((j + 1 = 1 → y * 64 + (s[j].toNat : Int) % 64 ≤ 31) ∧ (j + 1 = 2 → y * 64 + (s[j].toNat : Int) % 64 ≤ 2047) ∧ (j + 1 = 3 → y * 64 + (s[j].toNat : Int) % 64 ≤ 131071)) := by
                    have hh := HY.out
                    refine ⟨fun h => by omega, fun h => ?_, fun h => ?_⟩
                    · have := hh.1 (by omega); omega
                    · have := hh.2.1 (by omega); omega
                  have f1 : bits BinOp.and IntKind.u8 (s[j].toNat : Int) 63 = (s[j].toNat : Int) % 64 := u8_and63 _ hby.1 (by omega)
                  have f2 : bits BinOp.or IntKind.i32 (y * 64) ((s[j].toNat : Int) % 64) = y * 64 + (s[j].toNat : Int) % 64 := i32_or6 _ _ (by omega) (by omega) (by omega) (by omega) (by omega)
                  go_wp2
                  go_round
                  case rel =>
                    refine ⟨j + 1, 128, 191, _, by omega, by omega, rfl, rfl, rfl, by go_num, by omega, by omega, HY2, ?_⟩
                    have e : 1 + 2 - (j + 1) = 1 + 1 - j := by omega
                    show _ = _
                    rw [HV.out, e]
                  case measure => simp [intOf]; omega
            · have HV : Hid (take s.data.toList = (0, 0)) := by
                show _ = _
                have ee : 1 + 2 - j = (1 + 1 - j) + 1 := by omega
                rw [HS.out, List.drop_of_length_le (by rw [Array.length_toList]; show s.size ≤ j; omega), ee]
                rfl
              go_wp2
              go_ret2
              exact ⟨by rw [HV.out]; rfl, rfl⟩
          · have HV : Hid (take s.data.toList = (y, 1 + 2)) := by
              have e : j = 1 + 2 := by omega
              show _ = _
              rw [HS.out, e]
              exact scan_end _ _ _ _ _
            go_wp2
            go_ret2
            exact ⟨by rw [HV.out]; rfl, rfl⟩
      · rw [hm] at HR
        clear hm hk2
        go_enter Tryd.func30, Tryd.ntmps30
        go_wp2_with (go_at_call 39; refine hr.mono ?_; rintro e w' ⟨rfl, rfl⟩)
        go_loop [4, 5, 7, 8] (fun a b c i => ∃ (j : Nat) (x u y : Int), 1 ≤ j ∧ j ≤ 2 + 2 ∧ a = .int .u8 x ∧ b = .int .u8 u ∧ c = .int .i32 y ∧ i = .int .i64 j ∧ 0 ≤ y ∧ y ≤ 16777215 ∧ Hid ((j = 1 → y ≤ 31) ∧ (j = 2 → y ≤ 2047) ∧ (j = 3 → y ≤ 131071)) ∧ Hid (take s.data.toList = scan y x u (2 + 2 - j) j (s.data.toList.drop j))) (fun _ _ _ i => 2 + 2 - (intOf i).toNat)
        case atStart => exact ⟨1, x0, u0, (s[0].toNat : Int) % 8, by omega, by omega, rfl, rfl, rfl, rfl, by omega, by omega, ⟨fun _ => by omega, fun h => by omega, fun h => by omega⟩, HR.out⟩
        case round =>
          obtain ⟨j, x, u, y, j1, j2, rfl, rfl, rfl, rfl, y0, y1, HY, HS⟩ := hrel
          by_cases hlt : j ≤ 2 + 1
          · by_cases hsz : j < s.size
            · have hby := byte_le s[j]
              have ee : 2 + 2 - j = (2 + 1 - j) + 1 := by omega
              have HD : Hid (take s.data.toList = if (s[j].toNat : Int) < x ∨ u < (s[j].toNat : Int) then (65533, j) else scan (y * 64 + (s[j].toNat : Int) % 64) 128 191 (2 + 1 - j) (j + 1) (s.data.toList.drop (j + 1))) := by
                show _ = _
                rw [HS.out, bytes_cons_at hsz, ee, scan_cons]
              clear ee
              by_cases c1 : (s[j].toNat : Int) < x
              · have HV : Hid (take s.data.toList = (65533, j)) := by show _ = _; rw [HD.out, if_pos (Or.inl c1)]
                go_wp2
                go_ret2
                exact ⟨by rw [HV.out]; rfl, rfl⟩
              · by_cases c2 : u < (s[j].toNat : Int)
                · have HV : Hid (take s.data.toList = (65533, j)) := by show _ = _; rw [HD.out, if_pos (Or.inr c2)]
                  go_wp2
                  go_ret2
                  exact ⟨by rw [HV.out]; rfl, rfl⟩
                · have HV : Hid (take s.data.toList = scan (y * 64 + (s[j].toNat : Int) % 64) 128 191 (2 + 1 - j) (j + 1) (s.data.toList.drop (j + 1))) := by show _ = _; rw [HD.out, if_neg (by omega)]
                  have hyb : y ≤ 131071 := by
                    have hh := HY.out
                    have hj3 : j = 1 ∨ j = 2 ∨ j = 3 := by omega
                    rcases hj3 with h | h | h
                    · have := hh.1 h; omega
                    · have := hh.2.1 h; omega
                    · exact hh.2.2 h
                  have HY2 : Hid ((j + 1 = 1 → y * 64 + (s[j].toNat : Int) % 64 ≤ 31) ∧ (j + 1 = 2 → y * 64 + (s[j].toNat : Int) % 64 ≤ 2047) ∧ (j + 1 = 3 → y * 64 + (s[j].toNat : Int) % 64 ≤ 131071)) := by
                    have hh := HY.out
                    refine ⟨fun h => by omega, fun h => ?_, fun h => ?_⟩
                    · have := hh.1 (by omega); omega
                    · have := hh.2.1 (by omega); omega
                  have f1 : bits BinOp.and IntKind.u8 (s[j].toNat : Int) 63 = (s[j].toNat : Int) % 64 := u8_and63 _ hby.1 (by omega)
                  have f2 : bits BinOp.or IntKind.i32 (y * 64) ((s[j].toNat : Int) % 64) = y * 64 + (s[j].toNat : Int) % 64 := i32_or6 _ _ (by omega) (by omega) (by omega) (by omega) (by omega)
                  go_wp2
                  go_round
                  case rel =>
                    refine ⟨j + 1, 128, 191, _, by omega, by omega, rfl, rfl, rfl, by go_num, by omega, by omega, HY2, ?_⟩
                    have e : 2 + 2 - (j + 1) = 2 + 1 - j := by omega
                    show _ = _
                    rw [HV.out, e]
                  case measure => simp [intOf]; omega
            · have HV : Hid (take s.data.toList = (0, 0)) := by
                show _ = _
                have ee : 2 + 2 - j = (2 + 1 - j) + 1 := by omega
                rw [HS.out, List.drop_of_length_le (by rw [Array.length_toList]; show s.size ≤ j; omega), ee]
                rfl
              go_wp2
              go_ret2
              exact ⟨by rw [HV.out]; rfl, rfl⟩
          · have HV : Hid (take s.data.toList = (y, 2 + 2)) := by
              have e : j = 2 + 2 := by omega
              show _ = _
              rw [HS.out, e]
              exact scan_end _ _ _ _ _
            go_wp2
            go_ret2
            exact ⟨by rw [HV.out]; rfl, rfl⟩
end Go.Proofs.YtmnembhfbboljaaDoor.Cel
