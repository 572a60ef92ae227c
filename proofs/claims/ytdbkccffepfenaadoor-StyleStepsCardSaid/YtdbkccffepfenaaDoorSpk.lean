/- The law's own 'speaks' walked. -/
import Derived.Test.YtdbkccffepfenaaDoorStp
namespace Go.Proofs.YtdbkccffepfenaaDoor.Sty
open Go.RowKit

def mt (l : Tx) (n m : Nat) : Bool := decide (((low l).drop n).take m = tDefault.take m)
theorem mt_zero (l : Tx) (n : Nat) : mt l n 0 = true := by simp [mt]
theorem mt_succ (l : Tx) (n m : Nat) (h : n + m < l.length) (hm : m < 7) : mt l n (m + 1) = (mt l n m && (((lw l[n + m]).toNat : Int) == ((tDefault.getD m 0).toNat : Int))) := by
  have hl : n + m < (low l).length := by rw [low_length]; exact h
  have e1 : ((low l).drop n).take (m + 1) = ((low l).drop n).take m ++ [lw l[n + m]] := by
    rw [List.take_succ_eq_append_getElem (by rw [List.length_drop]; omega), List.getElem_drop]
    congr 2
    unfold low
    rw [List.getElem_map]
  have e2 : tDefault.take (m + 1) = tDefault.take m ++ [tDefault.getD m 0] := by
    have h7 : tDefault.length = 7 := rfl
    rw [List.take_succ_eq_append_getElem (by omega), List.getD_eq_getElem?_getD, List.getElem?_eq_getElem (by omega)]
    rfl
  unfold mt
  rw [e1, e2, Bool.eq_iff_iff]
  simp only [decide_eq_true_eq, Bool.and_eq_true, beq_iff_eq]
  constructor
  · intro he
    obtain ⟨h1, h2⟩ := List.append_inj' he rfl
    refine ⟨h1, ?_⟩
    injection h2 with h2
    rw [h2]
  · rintro ⟨h1, h2⟩
    have h3 : lw l[n + m] = tDefault.getD m 0 := UInt8.toNat_inj.1 (by exact_mod_cast h2)
    rw [h1, h3]
def NoAt (l : Tx) (n : Nat) : Prop := ∀ j, j < n → mt l j 7 = false
theorem noAt_end {l : Tx} {n : Nat} (h : NoAt l n) (hn : l.length < n + 7) : ¬ speaksS l := by
  rintro ⟨p, r, e⟩
  have hl := congrArg List.length e
  rw [low_length, List.length_append, List.length_append] at hl
  have h7 : tDefault.length = 7 := rfl
  have := h p.length (by omega)
  unfold mt at this
  rw [decide_eq_false_iff_not] at this
  refine this ?_
  rw [e, List.append_assoc, List.drop_left, ← h7, List.take_left, List.take_length]
/-- How 'speaks' ends. -/
def SpeaksOk (l : Tx) (e : Ending) : Prop := ∃ r, e = .returned (.bool r) ∧ (speaksS l → r = true)
abbrev litD : ByteArray := { data := #[100, 101, 102, 97, 117, 108, 116] }
theorem litD_at (k : Nat) (h : k < 7) (h2 : k < litD.size) : ((litD[k]'h2).toNat : Int) = ((tDefault.getD k 0).toNat : Int) := by
  match k, h with
  | 0, _ => rfl
  | 1, _ => rfl
  | 2, _ => rfl
  | 3, _ => rfl
  | 4, _ => rfl
  | 5, _ => rfl
  | 6, _ => rfl
  | n + 7, h => exact absurd h (by omega)
set_option maxRecDepth 100000 in
set_option maxHeartbeats 1000000 in
theorem speaks_any (l : Tx) (w : World) (hs : l.length ≤ 140737488351232) :
    Calls Tryd.prog 26 #[.string (bs l)] w fun e w' => SpeaksOk l e ∧ w = w' := by
  obtain ⟨S, hS⟩ : ∃ S, S = bs l := ⟨_, rfl⟩
  rw [← hS]
  have hsz : S.size = l.length := by rw [hS, bs_size]
  have HL : Hid (∀ k (h : k < l.length) (h2 : k < S.size), S[k]'h2 = l[k]) := by
    show ∀ k (h : k < l.length) (h2 : k < S.size), S[k]'h2 = l[k]
    intro k h h2
    subst hS
    rfl
  clear hS
  have HE : Hid (∀ n, NoAt l n → l.length < n + 7 → ¬ speaksS l) := fun n h h2 => noAt_end h h2
  have HD : Hid (∀ (k : Nat) (h : k < 7) (h2 : k < litD.size), ((litD[k]'h2).toNat : Int) = ((tDefault.getD k 0).toNat : Int)) := litD_at
  have hD7 : litD.size = 7 := rfl
  go_enter Tryd.func26, Tryd.ntmps26
  go_wp2
  go_loop [3] (fun i => ∃ n : Nat, n ≤ l.length ∧ i = .int .i64 (n : Int) ∧ Hid (NoAt l n)) (fun i => l.length - (intOf i).toNat)
  case atStart => exact ⟨0, Nat.zero_le _, rfl, fun j hj => absurd hj (by omega)⟩
  case round =>
    obtain ⟨n, hn, rfl, hno⟩ := hrel
    by_cases h7 : n + 7 ≤ l.length
    · go_wp2
      go_loop [4, 5] (fun s k => ∃ m : Nat, m ≤ 7 ∧ k = .int .i64 (m : Int) ∧ s = .bool (mt l n m)) (fun _ k => 7 - (intOf k).toNat)
      case atStart => exact ⟨0, by omega, rfl, by rw [mt_zero]⟩
      case round =>
        obtain ⟨m, hm, rfl, rfl⟩ := hrel
        by_cases hm7 : m < 7
        · have hlt : n + m < l.length := by omega
          have hlS : n + m < S.size := by omega
          have hch := HL.out (n + m) hlt hlS
          have HM := Lib.hid (mt_succ l n m hlt hm7)
          have hdm := HD.out m hm7 (by omega)
          have h3 : l[n + m].toNat < 256 := UInt8.toNat_lt _
          by_cases h1 : 65 ≤ l[n + m].toNat ∧ l[n + m].toNat ≤ 90
          · have hlw := lw_yes2 h1.1 h1.2
            have h2 : ((l[n + m].toNat : Int)) ≤ 90 := by omega
            have h4 : 65 ≤ ((l[n + m].toNat : Int)) := by omega
            clear h1
            obtain ⟨y, hy⟩ : ∃ y : Int, ((tDefault.getD m 0).toNat : Int) = y := ⟨_, rfl⟩
            rw [hy] at HM hdm
            clear hy
            cases hb : mt l n m
            · have HM2 : Hid (mt l n (m + 1) = false) := by show _ = _; rw [HM.out, hb]; rfl
              clear HM
              go_wp2
              go_round
              case rel => exact ⟨m + 1, by omega, by go_num, by rw [HM2.out]⟩
              case measure => simp [intOf]; omega
            · cases hzy : ((l[n + m].toNat : Int) + 32) == y
              · have HM2 : Hid (mt l n (m + 1) = false) := by show _ = _; rw [HM.out, hb, hlw, hzy]; rfl
                clear HM hlw
                go_wp2
                go_round
                case rel => exact ⟨m + 1, by omega, by go_num, by rw [HM2.out]⟩
                case measure => simp [intOf]; omega
              · have HM2 : Hid (mt l n (m + 1) = true) := by show _ = _; rw [HM.out, hb, hlw, hzy]; rfl
                clear HM hlw
                go_wp2
                go_round
                case rel => exact ⟨m + 1, by omega, by go_num, by rw [HM2.out]⟩
                case measure => simp [intOf]; omega
          · have hlw := lw_no h1
            by_cases h4 : 65 ≤ l[n + m].toNat
            · have h5 : 90 < l[n + m].toNat := by omega
              clear h1
              obtain ⟨y, hy⟩ : ∃ y : Int, ((tDefault.getD m 0).toNat : Int) = y := ⟨_, rfl⟩
              rw [hy] at HM hdm
              clear hy
              cases hb : mt l n m
              · have HM2 : Hid (mt l n (m + 1) = false) := by show _ = _; rw [HM.out, hb]; rfl
                clear HM
                go_wp2
                go_round
                case rel => exact ⟨m + 1, by omega, by go_num, by rw [HM2.out]⟩
                case measure => simp [intOf]; omega
              · cases hzy : (l[n + m].toNat : Int) == y
                · have HM2 : Hid (mt l n (m + 1) = false) := by show _ = _; rw [HM.out, hb, hlw, hzy]; rfl
                  clear HM hlw
                  go_wp2
                  go_round
                  case rel => exact ⟨m + 1, by omega, by go_num, by rw [HM2.out]⟩
                  case measure => simp [intOf]; omega
                · have HM2 : Hid (mt l n (m + 1) = true) := by show _ = _; rw [HM.out, hb, hlw, hzy]; rfl
                  clear HM hlw
                  go_wp2
                  go_round
                  case rel => exact ⟨m + 1, by omega, by go_num, by rw [HM2.out]⟩
                  case measure => simp [intOf]; omega
            · clear h1
              obtain ⟨y, hy⟩ : ∃ y : Int, ((tDefault.getD m 0).toNat : Int) = y := ⟨_, rfl⟩
              rw [hy] at HM hdm
              clear hy
              cases hb : mt l n m
              · have HM2 : Hid (mt l n (m + 1) = false) := by show _ = _; rw [HM.out, hb]; rfl
                clear HM
                go_wp2
                go_round
                case rel => exact ⟨m + 1, by omega, by go_num, by rw [HM2.out]⟩
                case measure => simp [intOf]; omega
              · cases hzy : (l[n + m].toNat : Int) == y
                · have HM2 : Hid (mt l n (m + 1) = false) := by show _ = _; rw [HM.out, hb, hlw, hzy]; rfl
                  clear HM hlw
                  go_wp2
                  go_round
                  case rel => exact ⟨m + 1, by omega, by go_num, by rw [HM2.out]⟩
                  case measure => simp [intOf]; omega
                · have HM2 : Hid (mt l n (m + 1) = true) := by show _ = _; rw [HM.out, hb, hlw, hzy]; rfl
                  clear HM hlw
                  go_wp2
                  go_round
                  case rel => exact ⟨m + 1, by omega, by go_num, by rw [HM2.out]⟩
                  case measure => simp [intOf]; omega
        · obtain rfl : m = 7 := by omega
          cases hb : mt l n 7
          · have hno2 : Hid (NoAt l (n + 1)) := fun j hj => by
              by_cases hjn : j < n
              · exact hno.out j hjn
              · obtain rfl : j = n := by omega
                exact hb
            clear hb
            go_wp2
            go_round
            case rel => exact ⟨n + 1, by omega, by go_num, hno2⟩
            case measure => simp [intOf]; omega
          · clear hb
            go_wp2
            go_ret
            exact ⟨⟨true, rfl, fun _ => rfl⟩, rfl⟩
    · have hns := HE.out n hno.out (by omega)
      go_wp2
      go_ret
      exact ⟨⟨false, rfl, fun h => absurd h hns⟩, rfl⟩
end Go.Proofs.YtdbkccffepfenaaDoor.Sty
