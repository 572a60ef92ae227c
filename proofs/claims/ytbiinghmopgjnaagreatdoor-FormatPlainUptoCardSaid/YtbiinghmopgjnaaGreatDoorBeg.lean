/- The walks of the program's decoder, on: a byte begun, a byte taken, fed, the end. -/
import Derived.Test.YtbiinghmopgjnaaGreatDoorDec
namespace Go.Proofs.YtbiinghmopgjnaaGreatDoor.Cel
open Go.RowKit

def findRow : List (Int × Int × Int × Int × Int) → Int → Option (Int × Int × Int × Int × Int)
  | [], _ => none
  | s :: l, b => if s.1 ≤ b ∧ b ≤ s.2.1 then some s else findRow l b
theorem findRow_drop (b : Int) (k : Nat) (s : Int × Int × Int × Int × Int) (h : rows[k]? = some s) : findRow (rows.drop k) b = if s.1 ≤ b ∧ b ≤ s.2.1 then some s else findRow (rows.drop (k + 1)) b := by
  obtain ⟨hk, e⟩ := List.getElem?_eq_some_iff.1 h
  rw [List.drop_eq_getElem_cons hk, e]
  rfl
theorem findRow_none {b : Int} (h : findRow rows b = none) : more b = -1 := by
  unfold rows at h
  simp only [findRow] at h
  repeat' split at h
  all_goals (first | cases h | skip)
  unfold more
  rw [if_neg (by omega), if_neg (by omega), if_neg (by omega)]
theorem findRow_some {b : Int} {s : Int × Int × Int × Int × Int} (h : findRow rows b = some s) :
    more b = s.2.2.2.2 ∧ lo b = s.2.2.1 ∧ hi b = s.2.2.2.1 ∧ ((s.2.2.2.2 = 0 ∧ mask b = b % 32) ∨ (s.2.2.2.2 = 1 ∧ mask b = b % 16) ∨ (s.2.2.2.2 = 2 ∧ mask b = b % 8)) := by
  unfold rows at h
  simp only [findRow] at h
  repeat' split at h
  all_goals (first | cases h | skip)
  all_goals (
    refine ⟨?_, ?_, ?_, ?_⟩
    · show more b = _
      unfold more; repeat' split
      all_goals (show (_ : Int) = _; first | rfl | (exfalso; omega))
    · show lo b = _
      unfold lo; repeat' split
      all_goals (show (_ : Int) = _; first | rfl | (exfalso; omega))
    · show hi b = _
      unfold hi; repeat' split
      all_goals (show (_ : Int) = _; first | rfl | (exfalso; omega))
    · have hm : mask b = (if b ≤ 223 then b - 192 else if b ≤ 239 then b - 224 else b - 240) := rfl
      first
        | exact Or.inl ⟨rfl, by rw [hm]; repeat' split
                                all_goals omega⟩
        | exact Or.inr (Or.inl ⟨rfl, by rw [hm]; repeat' split
                                        all_goals omega⟩)
        | exact Or.inr (Or.inr ⟨rfl, by rw [hm]; repeat' split
                                        all_goals omega⟩))

set_option maxRecDepth 100000 in
set_option maxHeartbeats 1000000 in
theorem begin_any (db base : Nat) (v : Value) (l : List Int) (b : Int) (w : World) (ht : Tabs w) (hd : At w db zero) (hown : Owns w base v l) (hbase : base ≤ w.heap.size) (hne : v.ownBlock ≠ some db) (hn : l.length ≤ 1099511627776)
    (hb0 : 0 ≤ b) (hb1 : b ≤ 255) :
    Calls Tryz.prog 177 #[.pointer (some ⟨db, 0, none⟩), v, .int .u8 b] w (Fed db base v l w (first b).1 (first b).2) := by
  by_cases h1 : b < 128
  · have HN : Hid (first b = (zero, [b])) := first_one h1
    go_enter Tryz.func177, Tryz.ntmps177
    go_wp2_with (at_builtin; refine wpList_append_rune rfl (.tmp 12) (.tmp 15) rfl base v l b 1 rfl hown rfl (by omega) hn ?_; intro v' w2 hown2 hk2 hat2)
    go_ret
    exact ⟨v', rfl, by rw [HN.out]; exact hk2.blk hd hne, by rw [HN.out]; exact hown2, hk2.more fun _ h => .inr h, hat2⟩
  · have e1 : bits BinOp.and IntKind.i32 b 31 = b % 32 := bits_mask .i32 31 (by decide) wraps_i32 5 (by decide) b hb0 (by omega)
    have e2 : bits BinOp.and IntKind.i32 b 15 = b % 16 := bits_mask .i32 31 (by decide) wraps_i32 4 (by decide) b hb0 (by omega)
    have e3 : bits BinOp.and IntKind.i32 b 7 = b % 8 := bits_mask .i32 31 (by decide) wraps_i32 3 (by decide) b hb0 (by omega)
    obtain ⟨t, fr, hg⟩ := ht.rows
    obtain ⟨cs, hcs⟩ : ∃ cs, cs = rowCells := ⟨_, rfl⟩
    rw [← hcs] at hg
    have HS : Hid ((Tryz.prog.info? 259).map (·.size) = some cs.size) := by rw [hcs]; show _ = _; kernel_rfl
    have HA : Hid (∀ k : Nat, k < 8 → _) := row_at cs hcs
    clear hcs
    go_enter Tryz.func177, Tryz.ntmps177
    go_wp2_with (refine wpList_load_row rfl 259 _ rfl 9 rfl t cs fr _ hg Tryz.underlying259 rfl HS.out ?_)
    go_loopw [18] (fun i wr => ∃ k : Nat, k ≤ 8 ∧ i = .int .i64 k ∧ Hid (findRow (rows.drop k) b = findRow rows b) ∧ Below w.heap.size w wr) (fun i _ => 8 - (intOf i).toNat)
    case atStart => exact ⟨0, by omega, rfl, rfl, Below.refl _ _⟩
    case round =>
      obtain ⟨k, hk, rfl, HL, hb⟩ := hrel
      have hbs := hb.size
      have hdr : At wr db zero := hd.below hb hd.lt
      have hor : Owns wr base v l := (below_kept hb fun _ => False).owns hown fun _ _ h => h
      by_cases hlt : k < 8
      · obtain ⟨s, hs, b1, b2, b3, b4, b5, b6, b7, b8, b9, b10, hidx⟩ := HA.out k hlt
        have HD := Lib.hid (findRow_drop b k s hs)
        clear hs
        obtain ⟨s1, s2, s3, s4, s5⟩ := s
        simp only at b1 b2 b3 b4 b5 b6 b7 b8 b9 b10 hidx
        by_cases c1 : s1 ≤ b
        · by_cases c2 : b ≤ s2
          · have hf := findRow_some (HL.out.symm.trans (HD.out.trans (if_pos ⟨c1, c2⟩)))
            simp only at hf
            obtain ⟨f1, f2, f3, f4⟩ := hf
            rcases f4 with ⟨rfl, f4⟩ | ⟨rfl, f4⟩ | ⟨rfl, f4⟩
            · have HN : Hid (first b = (⟨1, 1, b % 32, s3, s4⟩, [])) := by
                show _ = _
                rw [first_open (b := b) (by omega) (by omega), opened_eq f1 f4 f2 f3]
                rfl
              clear f1 f2 f3 f4
              go_wp2_with (refine wpList_store_dec rfl (.tmp 47) (.tmp 46) rfl db zero ⟨1, 1, b % 32, s3, s4⟩ rfl rfl (hdr.alloc _) ?_; intro w1 hd1 hk1)
              go_ret
              refine ⟨v, rfl, by rw [HN.out]; exact hd1, ?_, ?_, .inl rfl⟩
              · rw [HN.out, List.append_nil]
                exact hk1.owns (hor.alloc _) fun k hk e => hne (by rw [hk, e])
              · exact ((below_kept hb _).alloc _).trans hk1 fun _ _ h => .inl h
            · have HN : Hid (first b = (⟨1, 2, b % 16, s3, s4⟩, [])) := by
                show _ = _
                rw [first_open (b := b) (by omega) (by omega), opened_eq f1 f4 f2 f3]
                rfl
              clear f1 f2 f3 f4
              go_wp2_with (refine wpList_store_dec rfl (.tmp 47) (.tmp 46) rfl db zero ⟨1, 2, b % 16, s3, s4⟩ rfl rfl (hdr.alloc _) ?_; intro w1 hd1 hk1)
              go_ret
              refine ⟨v, rfl, by rw [HN.out]; exact hd1, ?_, ?_, .inl rfl⟩
              · rw [HN.out, List.append_nil]
                exact hk1.owns (hor.alloc _) fun k hk e => hne (by rw [hk, e])
              · exact ((below_kept hb _).alloc _).trans hk1 fun _ _ h => .inl h
            · have HN : Hid (first b = (⟨1, 3, b % 8, s3, s4⟩, [])) := by
                show _ = _
                rw [first_open (b := b) (by omega) (by omega), opened_eq f1 f4 f2 f3]
                rfl
              clear f1 f2 f3 f4
              go_wp2_with (refine wpList_store_dec rfl (.tmp 47) (.tmp 46) rfl db zero ⟨1, 3, b % 8, s3, s4⟩ rfl rfl (hdr.alloc _) ?_; intro w1 hd1 hk1)
              go_ret
              refine ⟨v, rfl, by rw [HN.out]; exact hd1, ?_, ?_, .inl rfl⟩
              · rw [HN.out, List.append_nil]
                exact hk1.owns (hor.alloc _) fun k hk e => hne (by rw [hk, e])
              · exact ((below_kept hb _).alloc _).trans hk1 fun _ _ h => .inl h
          · have HV : Hid (findRow (rows.drop (k + 1)) b = findRow rows b) := by show _ = _; rw [← HL.out, HD.out, if_neg (by simp only; omega)]
            go_wp2
            go_roundw
            case rel => exact ⟨k + 1, by omega, by go_num, HV, hb.alloc hbs _⟩
            case measure => simp [intOf]; omega
        · have HV : Hid (findRow (rows.drop (k + 1)) b = findRow rows b) := by show _ = _; rw [← HL.out, HD.out, if_neg (by simp only; omega)]
          go_wp2
          go_roundw
          case rel => exact ⟨k + 1, by omega, by go_num, HV, hb.alloc hbs _⟩
          case measure => simp [intOf]; omega
      · have HN : Hid (first b = (zero, [65533])) := by
          have e : k = 8 := by omega
          show _ = _
          refine first_bad (by omega) (findRow_none ?_)
          rw [← HL.out, e]
          rfl
        go_wp2_with (at_builtin; refine wpList_append_rune rfl (.tmp 50) (.tmp 51) rfl base v l 65533 1 rfl hor rfl (by omega) hn ?_; intro v' w2 hown2 hk2 hat2)
        go_ret
        refine ⟨v', rfl, by rw [HN.out]; exact hk2.blk hdr hne, by rw [HN.out]; exact hown2, (below_kept hb _).trans hk2 fun _ _ h => .inr h, ?_⟩
        rcases hat2 with h | ⟨k, h, hk⟩
        · exact .inl h
        · exact .inr ⟨k, h, by omega⟩
end Go.Proofs.YtbiinghmopgjnaaGreatDoor.Cel
