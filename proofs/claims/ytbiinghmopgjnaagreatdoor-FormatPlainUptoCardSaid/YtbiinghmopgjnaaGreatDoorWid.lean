/- The walk of the program's width of a rune: the table's width, whatever the rune. -/
import Derived.Test.YtbiinghmopgjnaaGreatDoorMem
namespace Go.Proofs.YtbiinghmopgjnaaGreatDoor.Cel
open Go.RowKit

theorem look_drop (r : Int) (k : Nat) (s : Int × Int × Int) (h : spans[k]? = some s) : look (spans.drop k) r = if s.1 ≤ r ∧ r ≤ s.2.1 then s.2.2 else look (spans.drop (k + 1)) r := by
  obtain ⟨hk, e⟩ := List.getElem?_eq_some_iff.1 h
  rw [List.drop_eq_getElem_cons hk, e]
  rfl

set_option maxRecDepth 100000 in
set_option maxHeartbeats 400000 in
theorem width_any (r : Int) (w : World) (ht : Tabs w) (hr0 : -2147483648 ≤ r) (hr1 : r ≤ 2147483647) :
    Calls Tryz.prog 118 #[.int .i32 r] w fun e w' => e = .returned (.int .i64 (width r)) ∧ Below w.heap.size w w' := by
  by_cases h : r < 32 ∨ 1114111 < r
  · have HW : Hid (width r = -1) := by show _ = _; unfold width; rw [if_pos h]
    rcases h with h | h
    · go_enter Tryz.func118, Tryz.ntmps118
      go_wp2
      go_ret
      exact ⟨ret_int HW.out.symm, Below.refl _ _⟩
    · have h2 : ¬ r < 32 := by omega
      go_enter Tryz.func118, Tryz.ntmps118
      go_wp2
      go_ret
      exact ⟨ret_int HW.out.symm, Below.refl _ _⟩
  · have h1 : ¬ r < 32 := by omega
    have h2 : ¬ 1114111 < r := by omega
    have HW : Hid (width r = look spans r) := by show _ = _; unfold width; rw [if_neg h]
    clear h
    obtain ⟨t, fr, hg⟩ := ht.spans
    obtain ⟨cs, hcs⟩ : ∃ cs, cs = spanCells := ⟨_, rfl⟩
    rw [← hcs] at hg
    have HS : Hid ((Tryz.prog.info? 189).map (·.size) = some cs.size) := by rw [hcs]; show _ = _; kernel_rfl
    have HA : Hid (∀ k : Nat, k < 18 → _) := span_at cs hcs
    clear hcs
    go_enter Tryz.func118, Tryz.ntmps118
    go_wp2_with (refine wpList_load_row rfl 189 _ rfl 2 rfl t cs fr _ hg Tryz.underlying189 rfl HS.out ?_)
    go_loopw [12] (fun i wr => ∃ k : Nat, k ≤ 18 ∧ i = .int .i64 k ∧ Hid (look (spans.drop k) r = look spans r) ∧ Below w.heap.size w wr) (fun i _ => 18 - (intOf i).toNat)
    case atStart => exact ⟨0, by omega, rfl, rfl, Below.refl _ _⟩
    case round =>
      obtain ⟨k, hk, rfl, HL, hb⟩ := hrel
      have hbs := hb.size
      by_cases hlt : k < 18
      · obtain ⟨s, hs, b1, b2, b3, b4, b5, b6, hidx⟩ := HA.out k hlt
        have HD := Lib.hid (look_drop r k s hs)
        clear hs
        obtain ⟨s1, s2, s3⟩ := s
        simp only at b1 b2 b3 b4 b5 b6 hidx
        by_cases c1 : s1 ≤ r
        · by_cases c2 : r ≤ s2
          · have HV : Hid (width r = s3) := by show _ = _; rw [HW.out, ← HL.out, HD.out, if_pos ⟨c1, c2⟩]
            go_wp2
            go_ret
            exact ⟨ret_int HV.out.symm, hb.alloc hbs _⟩
          · have HV : Hid (look (spans.drop (k + 1)) r = look spans r) := by show _ = _; rw [← HL.out, HD.out, if_neg (by simp only; omega)]
            go_wp2
            go_roundw
            case rel => exact ⟨k + 1, by omega, by go_num, HV, hb.alloc hbs _⟩
            case measure => simp [intOf]; omega
        · have HV : Hid (look (spans.drop (k + 1)) r = look spans r) := by show _ = _; rw [← HL.out, HD.out, if_neg (by simp only; omega)]
          go_wp2
          go_roundw
          case rel => exact ⟨k + 1, by omega, by go_num, HV, hb.alloc hbs _⟩
          case measure => simp [intOf]; omega
      · have HV : Hid (width r = 1) := by
          have e : k = 18 := by omega
          show _ = _
          rw [HW.out, ← HL.out, e]
          rfl
        go_wp2
        go_ret
        exact ⟨ret_int HV.out.symm, hb⟩

/-- The columns that a rune takes. -/
theorem room_any (r : Int) (w : World) (ht : Tabs w) (hr0 : -2147483648 ≤ r) (hr1 : r ≤ 2147483647) :
    Calls Tryz.prog 92 #[.int .i32 r] w fun e w' => e = .returned (.int .i64 (room r)) ∧ Below w.heap.size w w' := by
  have hw := width_bd r
  go_enter Tryz.func92, Tryz.ntmps92
  go_wp2_with (go_at_call 118; refine (width_any r w ht hr0 hr1).mono ?_; rintro e w' ⟨rfl, hb⟩)
  all_goals (go_ret; exact ⟨ret_int (by unfold room; omega), hb⟩)
end Go.Proofs.YtbiinghmopgjnaaGreatDoor.Cel
