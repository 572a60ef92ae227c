/- The document's answer to layer 3: digits, names. -/
import Derived.Test.YtajnlbfhcbkopaaDoorNam
namespace Go.Proofs.YtajnlbfhcbkopaaDoor.Sty
open Go.RowKit

/-- What the digits come to. -/
def fin (m : Nat) (acc : Tx) : Tx := if acc = [] then Lib.decDigits m else if m = 0 then acc else Lib.decDigits m ++ acc
theorem fin_step (m : Nat) (acc : Tx) (h : acc = [] ∨ 0 < m) : fin (m / 10) (UInt8.ofNat (48 + m % 10) :: acc) = fin m acc := by
  have hd : m / 10 = 0 ↔ m < 10 := by omega
  unfold fin
  rw [if_neg (by simp)]
  by_cases ha : acc = []
  · rw [if_pos ha, ha]
    by_cases hm : m < 10
    · rw [if_pos (hd.2 hm), Lib.decDigits, dif_pos hm, Nat.mod_eq_of_lt hm]
    · rw [if_neg (fun e => hm (hd.1 e))]
      conv => rhs; rw [Lib.decDigits, dif_neg hm]
  · have h0 : 0 < m := h.resolve_left ha
    rw [if_neg ha, if_neg (by omega : ¬ m = 0)]
    by_cases hm : m < 10
    · rw [if_pos (hd.2 hm), Lib.decDigits, dif_pos hm, Nat.mod_eq_of_lt hm]; rfl
    · rw [if_neg (fun e => hm (hd.1 e))]
      conv => rhs; rw [Lib.decDigits, dif_neg hm]
      simp
theorem fin_len (m : Nat) (acc D : Tx) (h : fin m acc = D) (hD : D.length ≤ 3) : acc.length ≤ 3 := by
  unfold fin at h
  by_cases ha : acc = []
  · rw [ha]; simp
  · rw [if_neg ha] at h
    by_cases h0 : m = 0
    · rw [if_pos h0] at h; rw [h]; exact hD
    · rw [if_neg h0] at h; rw [← h, List.length_append] at hD; omega
/-- A text of one byte, out of a list of one byte. -/
theorem one_byte (b : Nat) (hb : b < 256) (w : World) :
    (convert 67 9 (.slice (some ⟨w.heap.size, 0, none⟩) 1 1)).run Tryd.prog (w.alloc (.cells #[.int .u8 b] 5)) = .ok (.string (bs [UInt8.ofNat b])) (w.alloc (.cells #[.int .u8 b] 5)) := by
  refine run_convert_bytes_back (P := Tryd.prog) _ 67 9 5 ⟨w.heap.size, 0, none⟩ 1 [UInt8.ofNat b] Tryd.underlying67 Tryd.underlying5 Tryd.underlying9 fun j hj => ?_
  have hj0 : j = 0 := by simpa using hj
  subst hj0
  rw [Addr.add_zero', (Blk.new w 5 #[.int .u8 b]).cell]
  have e : (UInt8.ofNat b).toNat = b := by rw [UInt8.toNat_ofNat']; omega
  simp [e]
set_option maxRecDepth 100000 in
set_option maxHeartbeats 400000 in
theorem digitsRef_any (n : Nat) (hn : n < 1000) (w : World) :
    Calls Tryd.prog 32 #[.int .i64 n] w fun e w' => e = .returned (.string (bs (dec n))) ∧ Below w.heap.size w w' := by
  have hd : fin n [] = dec n := dec_digits n hn
  have hl := dec_len n
  generalize dec n = D at *
  have HD := Lib.hid hd
  clear hd
  go_enter Tryd.func32, Tryd.ntmps32
  go_wp2
  go_loopw [0, 3] (fun i s wr => ∃ (m : Nat) (acc : Tx), m < 1000 ∧ i = .int .i64 (m : Int) ∧ s = .string (bs acc) ∧ Hid (fin m acc = D) ∧ Below w.heap.size w wr) (fun i s _ => (match s with | .string b => if b.size = 0 then 1 else 0 | _ => 0) + (intOf i).toNat)
  case atStart => exact ⟨n, [], hn, rfl, rfl, HD, Below.refl _ _⟩
  case round =>
    obtain ⟨m, acc, hm, rfl, rfl, HF, hb⟩ := hrel
    have hal := fin_len m acc D HF.out hl
    have hbs := hb.size
    have hsz : (bs acc).size ≤ 3 := by rw [bs_size]; exact hal
    have hone := one_byte (48 + m % 10) (by omega)
    have eone : ((48 + m % 10 : Nat) : Int) = 48 + (m : Int) % 10 := by omega
    rw [eone] at hone
    have hsz1 : (bs [UInt8.ofNat (48 + m % 10)]).size ≤ 1 := by rw [bs_size]; simp
    have hap := bs_app [UInt8.ofNat (48 + m % 10)] acc
    have HST : (acc = [] ∨ 0 < m) → Hid (fin (m / 10) ([UInt8.ofNat (48 + m % 10)] ++ acc) = D) := fun h => (fin_step m acc h).trans HF.out
    have HSZ : Hid ((bs ([UInt8.ofNat (48 + m % 10)] ++ acc)).size = 1 + acc.length) := by show _ = _; rw [bs_size]; simp; omega
    have hbb := hb.alloc hbs (.cells #[.int .u8 (48 + (m : Int) % 10)] 5)
    clear eone
    generalize [UInt8.ofNat (48 + m % 10)] = one at *
    cases acc with
    | nil =>
      have hT := bs_tl []
      have hfs : Hid (fin (m / 10) one = D) := by have := (HST (.inl rfl)).out; rwa [List.append_nil] at this
      clear HST
      go_wp2
      go_roundw
      case rel => exact ⟨m / 10, _, by omega, by go_num, rfl, hfs, hbb⟩
      case measure =>
        have h1 := HSZ.out
        rw [List.append_nil] at h1
        have e0 : (bs []).size = 0 := by rw [bs_size]; rfl
        simp [intOf, h1, e0]
        omega
    | cons c acc =>
      have hT := bs_tl (c :: acc)
      by_cases hm0 : 0 < m
      · have hfs := HST (.inr hm0)
        clear HST
        go_wp2
        go_roundw
        case rel => exact ⟨m / 10, _, by omega, by go_num, rfl, hfs, hbb⟩
        case measure =>
          have h1 := HSZ.out
          have e0 : (bs (c :: acc)).size ≠ 0 := by rw [bs_size]; simp
          simp [intOf, h1, e0]
          omega
      · have HE : Hid (c :: acc = D) := by
          have := HF.out
          unfold fin at this
          rwa [if_neg (by simp), if_pos (by omega)] at this
        clear HST
        go_wp2
        go_ret
        exact ⟨by rw [HE.out]; rfl, hb⟩
end Go.Proofs.YtajnlbfhcbkopaaDoor.Sty
