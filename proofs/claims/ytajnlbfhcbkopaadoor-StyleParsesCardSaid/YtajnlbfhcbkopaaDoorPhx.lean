/- A text read as a number to the base 16: the library's ParseUint at base 16 and 32 bits, for every text without great letters. -/
import Derived.Test.YtajnlbfhcbkopaaDoorRlw
import Derived.Test.YtajnlbfhcbkopaaDoorSpb
namespace Go.Proofs.YtajnlbfhcbkopaaDoor.Sty
open Go.RowKit

def orRow : Bool := (List.range 256).all fun c => (!(decide (97 ≤ c) && decide (c ≤ 122)) || decide (bits .or .u8 (c : Int) 32 = c)) && ((decide (65 ≤ c) && decide (c ≤ 90)) || (decide (97 ≤ c) && decide (c ≤ 122)) || decide (bits .or .u8 (c : Int) 32 < 97) || decide (122 < bits .or .u8 (c : Int) 32)) && decide (0 ≤ bits .or .u8 (c : Int) 32) && decide (bits .or .u8 (c : Int) 32 ≤ 255)
theorem orRow_true : orRow = true := by kernel_rfl
theorem or_facts (c : Nat) (hc : c < 256) : (97 ≤ c → c ≤ 122 → bits .or .u8 (c : Int) 32 = c) ∧ (¬ (65 ≤ c ∧ c ≤ 90) → ¬ (97 ≤ c ∧ c ≤ 122) → bits .or .u8 (c : Int) 32 < 97 ∨ 122 < bits .or .u8 (c : Int) 32) ∧ 0 ≤ bits .or .u8 (c : Int) 32 ∧ bits .or .u8 (c : Int) 32 ≤ 255 := by
  have h := List.all_eq_true.1 orRow_true c (List.mem_range.2 hc)
  simp only [Bool.and_eq_true, Bool.or_eq_true, Bool.not_eq_true', decide_eq_true_eq, Bool.and_eq_false_iff, decide_eq_false_iff_not] at h
  omega
theorem hx_dig {b : UInt8} (h1 : 48 ≤ b.toNat) (h2 : b.toNat ≤ 57) : b = hx (b.toNat - 48) := by
  unfold hx
  rw [if_pos (by omega), show 48 + (b.toNat - 48) = b.toNat by omega]
  simp
theorem hx_let {b : UInt8} (h1 : 97 ≤ b.toNat) (h2 : b.toNat ≤ 102) : b = hx (b.toNat - 87) := by
  unfold hx
  rw [if_neg (by omega), show 87 + (b.toNat - 87) = b.toNat by omega]
  simp
theorem hx_none {b : UInt8} (h1 : ¬ (48 ≤ b.toNat ∧ b.toNat ≤ 57)) (h2 : ¬ (97 ≤ b.toNat ∧ b.toNat ≤ 102)) (t : Nat) (ht : t < 16) : b ≠ hx t := by
  intro h
  have : ∀ t, t < 16 → (48 ≤ (hx t).toNat ∧ (hx t).toNat ≤ 57) ∨ (97 ≤ (hx t).toNat ∧ (hx t).toNat ≤ 102) := by decide
  have := this t ht
  rw [← h] at this
  omega
/-- No number of six digits is spelled so. -/
def NoHex (l : Tx) : Prop := ∀ v, v < 16777216 → l ≠ hexk 6 v
theorem noHex_len {l : Tx} (h : l.length ≠ 6) : NoHex l := fun v _ e => h (by rw [e, hexk_length])
theorem noHex_byte {l : Tx} (k : Nat) (h : k < l.length) (hb : ∀ t, t < 16 → l[k] ≠ hx t) : NoHex l := fun v _ e => by
  have hm : l[k] ∈ hexk 6 v := by rw [← e]; exact List.getElem_mem h
  obtain ⟨t, ht, ht2⟩ := hexk_mem _ _ _ hm
  exact hb t ht ht2
/-- What has been read of the first k bytes. -/
def Sofar (l : Tx) (k acc : Nat) : Prop := k ≤ 6 → l.take k = hexk k acc ∧ acc < 16 ^ k
theorem sofar_step {l : Tx} {k acc t : Nat} (h : Sofar l k acc) (hk : k < l.length) (ht : t < 16) (hb : l[k] = hx t) : Sofar l (k + 1) (acc * 16 + t) := fun hk6 => by
  obtain ⟨h1, h2⟩ := h (by omega)
  refine ⟨?_, ?_⟩
  · rw [List.take_succ_eq_append_getElem hk, h1, hb, Nat.mul_comm, hexk_snoc _ _ _ ht]
  · rw [Nat.pow_succ]; omega
/-- How the reading ends. -/
def Ends (l : Tx) (e : Ending) : Prop :=
  (∃ v : Nat, v < 16777216 ∧ l = hexk 6 v ∧ e = .returned (.tuple #[.int .u64 (v : Int), .nilIface])) ∨
  (l.length ≠ 6 ∧ ∃ v : Nat, v < 4294967296 ∧ e = .returned (.tuple #[.int .u64 (v : Int), .nilIface])) ∨
  (NoHex l ∧ ∃ v k : Nat, v < 4294967296 ∧ (k = 1 ∨ k = 2) ∧ e = .returned (.tuple #[.int .u64 (v : Int), .iface 102 (.int .i64 (k : Int))]))

set_option maxRecDepth 100000 in
set_option maxHeartbeats 4000000 in
theorem parseIn_any (l : Tx) (hlow : ∀ b ∈ l, ¬ (65 ≤ b.toNat ∧ b.toNat ≤ 90)) (w : World) (hs : l.length ≤ 140737488351232) :
    Calls Tryd.prog 66 #[.string (bs l), .int .i64 16, .int .i64 32] w fun e w' => Ends l e ∧ Below w.heap.size w w' := by
  have hT := bs_tl l
  obtain ⟨W, g, cap, hcv, hg, hrow, hb⟩ := rowB_of w (bs l)
  rw [bs_list] at hrow
  rw [bs_size] at hcv
  cases l with
  | nil =>
    have HE : Hid (Ends [] (.returned (.tuple #[.int .u64 0, .iface 102 (.int .i64 2)]))) := .inr (.inr ⟨noHex_len (by decide), 0, 2, by decide, .inr rfl, rfl⟩)
    clear hcv
    go_enter Tryd.func66, Tryd.ntmps66
    go_wp2
    go_ret2
    exact ⟨HE.out, Below.refl _ _⟩
  | cons c0 l0 =>
    generalize hl : c0 :: l0 = l at *
    have hne : l.isEmpty = false := by rw [← hl]; rfl
    have hne2 : ¬ l = [] := by rw [← hl]; simp
    clear hl
    generalize hS : bs l = S at *
    clear hS
    go_enter Tryd.func66, Tryd.ntmps66
    go_wp2
    have hsr := hrow.lt
    go_loop [12, 13, 101] (fun us n i => ∃ (k : Nat) (a : Int), us = .bool false ∧ k ≤ l.length ∧ n = .int .u64 a ∧ i = .int .i64 (k : Int) ∧ 0 ≤ a ∧ a ≤ 4294967295 ∧ Hid (Sofar l k a.toNat)) (fun _ _ i => l.length - (intOf i).toNat)
    case atStart => exact ⟨0, 0, rfl, Nat.zero_le _, rfl, rfl, by omega, by omega, fun _ => ⟨rfl, by decide⟩⟩
    case round =>
      obtain ⟨k, a, rfl, hk, rfl, rfl, ha0, ha1, HS⟩ := hrel
      by_cases hlt : ¬ k < l.length
      · obtain rfl : k = l.length := by omega
        have HE : Hid (Ends l (.returned (.tuple #[.int .u64 a, .nilIface]))) := by
          by_cases h6 : l.length = 6
          · obtain ⟨h1, h2⟩ := HS.out (by omega)
            rw [List.take_length, h6] at h1
            rw [h6] at h2
            exact .inl ⟨a.toNat, by omega, h1, by rw [Int.toNat_of_nonneg ha0]⟩
          · exact .inr (.inl ⟨h6, a.toNat, by omega, by rw [Int.toNat_of_nonneg ha0]⟩)
        go_wp2
        go_ret2
        exact ⟨HE.out, hb⟩
      · have hlt : k < l.length := by omega
        have hcell := hrow.cell k _ (List.getElem?_eq_getElem hlt)
        have hup := hlow l[k] (List.getElem_mem hlt)
        have h256 : l[k].toNat < 256 := UInt8.toNat_lt _
        have hor := or_facts l[k].toNat h256
        have HNO : (∀ t, t < 16 → l[k] ≠ hx t) → Hid (∀ v : Int, 0 ≤ v → v < 4294967296 → Ends l (.returned (.tuple #[.int .u64 v, .iface 102 (.int .i64 2)]))) := fun h v hv0 hv => .inr (.inr ⟨noHex_byte k hlt h, v.toNat, 2, by omega, .inr rfl, by rw [Int.toNat_of_nonneg hv0]; rfl⟩)
        have HST : ∀ t : Int, 0 ≤ t → t < 16 → l[k] = hx t.toNat → Hid (Sofar l (k + 1) (a * 16 + t).toNat) := fun t ht0 ht hb => by
          have h := sofar_step HS.out hlt (t := t.toNat) (by omega) hb
          rwa [show a.toNat * 16 + t.toNat = (a * 16 + t).toNat by omega] at h
        have HRA : ∀ t : Int, 0 ≤ t → t < 16 → 4294967295 < a * 16 + t → Hid (Ends l (.returned (.tuple #[.int .u64 4294967295, .iface 102 (.int .i64 1)]))) := fun t ht0 ht hb => by
          refine .inr (.inr ⟨noHex_len ?_, 4294967295, 1, by omega, .inl rfl, rfl⟩)
          intro h6
          have h7 := (HS.out (by omega)).2
          have h8 : (16 : Nat) ^ k ≤ 16 ^ 5 := Nat.pow_le_pow_right (by omega) (by omega)
          omega
        by_cases hd : 48 ≤ l[k].toNat ∧ l[k].toNat ≤ 57
        · have HST2 := HST ((l[k].toNat : Int) - 48) (by omega) (by omega) (by rw [show ((l[k].toNat : Int) - 48).toNat = l[k].toNat - 48 by omega]; exact hx_dig hd.1 hd.2)
          have HRA2 := HRA ((l[k].toNat : Int) - 48) (by omega) (by omega)
          have hc1 : (48 : Int) ≤ (l[k].toNat : Int) := by omega
          have hc2 : ((l[k].toNat : Int)) ≤ 57 := by omega
          have h95 : ((l[k].toNat : Int) == 95) = false := by simp; omega
          clear HST HRA HNO hor hup hlow hrow hd h256
          generalize (l[k].toNat : Int) = c at *
          by_cases hov : a * 16 + (c - 48) ≤ 4294967295
          · clear HRA2
            go_wp2
            go_round
            case rel => exact ⟨k + 1, _, rfl, by omega, rfl, by go_num, by omega, by omega, HST2⟩
            case measure => simp [intOf]; omega
          · have HR := HRA2 (by omega)
            clear HRA2 HST2
            go_wp2
            go_ret2
            exact ⟨HR.out, hb⟩
        · by_cases hl1 : 97 ≤ l[k].toNat ∧ l[k].toNat ≤ 122
          · have hL := hor.1 hl1.1 hl1.2
            by_cases hl2 : l[k].toNat ≤ 102
            · have HST2 := HST ((l[k].toNat : Int) - 97 + 10) (by omega) (by omega) (by rw [show ((l[k].toNat : Int) - 97 + 10).toNat = l[k].toNat - 87 by omega]; exact hx_let hl1.1 hl2)
              have HRA2 := HRA ((l[k].toNat : Int) - 97 + 10) (by omega) (by omega)
              have hc1 : (97 : Int) ≤ (l[k].toNat : Int) := by omega
              have hc2 : ((l[k].toNat : Int)) ≤ 102 := by omega
              have h95 : ((l[k].toNat : Int) == 95) = false := by simp; omega
              clear HST HRA HNO hor hup hlow hrow hd h256 hl1 hl2
              generalize (l[k].toNat : Int) = c at *
              by_cases hov : a * 16 + (c - 97 + 10) ≤ 4294967295
              · clear HRA2
                go_wp2
                go_round
                case rel => exact ⟨k + 1, _, rfl, by omega, rfl, by go_num, by omega, by omega, HST2⟩
                case measure => simp [intOf]; omega
              · have HR := HRA2 (by omega)
                clear HRA2 HST2
                go_wp2
                go_ret2
                exact ⟨HR.out, hb⟩
            · have HR := HNO (fun t ht => hx_none hd (by omega) t ht)
              have hc1 : (103 : Int) ≤ (l[k].toNat : Int) := by omega
              have hc2 : ((l[k].toNat : Int)) ≤ 122 := by omega
              have h95 : ((l[k].toNat : Int) == 95) = false := by simp; omega
              clear HST HRA HNO hor hup hlow hrow hd h256 hl1 hl2
              generalize (l[k].toNat : Int) = c at *
              go_wp2
              go_ret2
              exact ⟨HR.out 0 (by omega) (by omega), hb⟩
          · have HR := HNO (fun t ht => hx_none hd (by omega) t ht)
            have hor2 := hor.2.1 hup hl1
            have hor3 := hor.2.2
            have hc0 : 0 ≤ (l[k].toNat : Int) := by omega
            have hc3 : (l[k].toNat : Int) ≤ 255 := by omega
            have hd2 : (l[k].toNat : Int) < 48 ∨ 57 < (l[k].toNat : Int) := by omega
            clear HST HRA HNO hor hup hlow hrow hd h256 hl1
            generalize (l[k].toNat : Int) = c at *
            generalize hLv : bits .or .u8 c 32 = L at *
            obtain ⟨hL0, hL1⟩ := hor3
            by_cases h95 : (c == 95) = true
            · have hc95 : c = 95 := by simpa using h95
              have hL2 := hor2
              subst hc95
              rcases hor2 with hor2 | hor2
              · clear hL2 hd2
                go_wp2
                go_ret2
                exact ⟨HR.out 0 (by omega) (by omega), hb⟩
              · clear hL2 hd2
                go_wp2
                go_ret2
                exact ⟨HR.out 0 (by omega) (by omega), hb⟩
            · have h95b : (c == 95) = false := by simpa using h95
              clear h95
              rcases hor2 with hor2 | hor2 <;> rcases hd2 with hd2 | hd2
              all_goals
                go_wp2
                go_ret2
                exact ⟨HR.out 0 (by omega) (by omega), hb⟩
end Go.Proofs.YtajnlbfhcbkopaaDoor.Sty
