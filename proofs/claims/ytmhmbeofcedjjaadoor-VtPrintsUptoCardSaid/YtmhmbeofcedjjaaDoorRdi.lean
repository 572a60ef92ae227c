/- The walks of the document's own writing: digits, bytes of a span. -/
import Derived.Test.YtmhmbeofcedjjaaDoorVla
namespace Go.Proofs.YtmhmbeofcedjjaaDoor.Vt
open Go.RowKit
open Cel (Blk Kept Tabs low Owns At good enc)

/-- A byte as a text. -/
theorem byte_str (w : World) {x : Int} (h0 : 0 ≤ x) (h1 : x ≤ 255) : (convert 24 9 (.slice (some ⟨w.heap.size, 0, none⟩) 1 1)).run Tryd.prog (w.alloc (.cells #[.int .u8 x] 5)) = .ok (.string (bs [byt x])) (w.alloc (.cells #[.int .u8 x] 5)) := by
  have h : Byts (w.alloc (.cells #[.int .u8 x] 5)) 0 (.slice (some ⟨w.heap.size, 0, none⟩) 1 1) [byt x] := own_blk (byte_new w h0 h1) (Nat.zero_le _) (by simp) (byts_len _) (by decide)
  exact convert_byts h
def emp : Value → Nat
  | .string x => if x.size = 0 then 1 else 0
  | _ => 0
theorem emp_bs (t : Tx) : emp (.string (bs t)) = if t = [] then 1 else 0 := by
  show (if (bs t).size = 0 then 1 else 0) = _
  rw [bs_size]
  cases t <;> simp
/-- Where the digits stand: m is left, t is written. -/
def Dgs (n m : Nat) (t : Tx) : Prop := m ≤ n ∧ (t = [] ∧ m = n ∨ t ≠ [] ∧ (m = 0 ∧ t = Lib.decDigits n ∨ 0 < m ∧ Lib.decDigits m ++ t = Lib.decDigits n))
theorem Dgs.next {n m : Nat} {t : Tx} (h : Dgs n m t) (hg : t = [] ∨ 0 < m) : Dgs n (m / 10) (UInt8.ofNat (48 + m % 10) :: t) := by
  obtain ⟨h1, h2⟩ := h
  refine ⟨by omega, .inr ⟨by simp, ?_⟩⟩
  by_cases h10 : m < 10
  · refine .inl ⟨by omega, ?_⟩
    have e : Lib.decDigits m = [UInt8.ofNat (48 + m % 10)] := by rw [Lib.decDigits, dif_pos h10, Nat.mod_eq_of_lt h10]
    rcases h2 with ⟨rfl, rfl⟩ | ⟨_, ⟨rfl, _⟩ | ⟨_, h2⟩⟩
    · exact e.symm
    · rcases hg with rfl | hg
      · contradiction
      · omega
    · rw [← h2, e]; rfl
  · have e : Lib.decDigits m = Lib.decDigits (m / 10) ++ [UInt8.ofNat (48 + m % 10)] := by rw [Lib.decDigits, dif_neg h10]
    refine .inr ⟨by omega, ?_⟩
    rcases h2 with ⟨rfl, rfl⟩ | ⟨_, ⟨rfl, _⟩ | ⟨_, h2⟩⟩
    · exact e.symm
    · omega
    · rw [← h2, e]; simp
theorem Dgs.len {n m : Nat} {t : Tx} (h : Dgs n m t) (hn : n ≤ 9999) : t.length ≤ 4 := by
  have h4 := digits_len 3 n (by omega)
  rcases h.2 with ⟨rfl, _⟩ | ⟨_, ⟨_, rfl⟩ | ⟨_, q⟩⟩
  · simp
  · exact h4
  · have := congrArg List.length q
    rw [List.length_append] at this
    omega
theorem Dgs.done {n m : Nat} {t : Tx} (h : Dgs n m t) (h0 : t ≠ []) (hm : m = 0) : t = Lib.decDigits n := by
  rcases h.2 with ⟨q, _⟩ | ⟨_, ⟨_, q⟩ | ⟨q, _⟩⟩
  · exact absurd q h0
  · exact q
  · omega
set_option maxRecDepth 100000 in
set_option maxHeartbeats 1000000 in
theorem digits_ref (n : Nat) (hn : n ≤ 9999) (w : World) : Calls Tryd.prog 53 #[.int .i64 (n : Int)] w fun e w' => e = .returned (.string (bs (Lib.decDigits n))) ∧ Below w.heap.size w w' := by
  go_enter Tryd.func53, Tryd.ntmps53
  go_wp2
  go_loopw [0, 3] (fun x s wr => ∃ (m : Nat) (t : Tx), x = .int .i64 m ∧ s = .string (bs t) ∧ Dgs n m t ∧ Below w.heap.size w wr) (fun x s _ => 2 * (intOf x).toNat + emp s)
  case atStart => exact ⟨n, [], rfl, rfl, ⟨Nat.le_refl _, .inl ⟨rfl, rfl⟩⟩, Below.refl _ _⟩
  case round =>
    obtain ⟨m, t, rfl, rfl, hd, hb⟩ := hrel
    have hmn := hd.1
    have hbs := hb.size
    by_cases hg : t = [] ∨ 0 < m
    · have HD := Lib.hid (hd.next hg)
      have hcv := byte_str wr (x := 48 + (m % 10 : Int)) (by omega) (by omega)
      have hx : byt (48 + (m % 10 : Int)) = UInt8.ofNat (48 + m % 10) := by
        show UInt8.ofNat (48 + (m % 10 : Int)).toNat = _
        rw [show (48 + (m % 10 : Int)).toNat = 48 + m % 10 by omega]
      rw [hx] at hcv
      have hadd : bs [UInt8.ofNat (48 + m % 10)] ++ bs t = bs (UInt8.ofNat (48 + m % 10) :: t) := bs_app _ _
      have HM : Hid (2 * (m / 10) + emp (.string (bs (UInt8.ofNat (48 + m % 10) :: t))) < 2 * m + emp (.string (bs t))) := by
        show _ < _
        rw [emp_bs, emp_bs, if_neg (by simp)]
        rcases hg with rfl | hg
        · rw [if_pos rfl]; omega
        · split <;> omega
      have hq : IntKind.u8.wrap (48 + (m % 10 : Int)) = 48 + (m % 10 : Int) := IntWalk.u8_in _ (by omega)
      have hb2 : Below w.heap.size w (wr.alloc (.cells #[.int .u8 (48 + (m % 10 : Int))] 5)) := hb.alloc hbs _
      have hcase : (t = [] ∧ (bs t).toList.isEmpty = true) ∨ (t ≠ [] ∧ (bs t).toList.isEmpty = false ∧ 0 < m) := by
        by_cases ht : t = []
        · exact .inl ⟨ht, by rw [bs_tl, ht]; rfl⟩
        · refine .inr ⟨ht, by rw [bs_tl]; cases t; exact absurd rfl ht; rfl, ?_⟩
          rcases hg with q | q
          · exact absurd q ht
          · exact q
      have hsz : ¬ 9223372036854775807 < (bs [UInt8.ofNat (48 + m % 10)]).size + (bs t).size := by rw [bs_size, bs_size]; have := hd.len hn; simp; omega
      clear hx hd
      generalize bs [UInt8.ofNat (48 + m % 10)] = Y at *
      have m0 : (0 : Int) ≤ (m : Int) := by omega
      have m1 : (m : Int) ≤ 9999 := by omega
      generalize bs t = X at *
      generalize hX' : bs (UInt8.ofNat (48 + m % 10) :: t) = X' at *
      have HX' := Lib.hid hX'
      clear hX'
      have HMX : Hid (2 * (intOf (.int .i64 ((m : Int) / 10))).toNat + emp (.string X') < 2 * (intOf (.int .i64 (m : Int))).toNat + emp (.string X)) := by
        have := HM.out
        show _ < _
        simp only [intOf]
        omega
      rcases hcase with ⟨_, hem⟩ | ⟨_, hem, hgm⟩
      all_goals
        go_wp2_with fail
        go_roundw
        case rel => exact ⟨m / 10, UInt8.ofNat (48 + m % 10) :: t, by go_num, by rw [HX'.out], HD.out, hb2⟩
        case measure => exact HMX.out
    · have ht : t ≠ [] := fun q => hg (.inl q)
      have hm0 : m = 0 := by
        rcases Nat.eq_zero_or_pos m with q | q
        · exact q
        · exact absurd (.inr q) hg
      have HE := Lib.hid (hd.done ht hm0)
      subst hm0
      have hem : (bs t).toList.isEmpty = false := by rw [bs_tl]; cases t; exact absurd rfl ht; rfl
      clear hd hg
      go_wp2
      go_ret
      exact ⟨by rw [HE.out]; rfl, hb⟩
end Go.Proofs.YtmhmbeofcedjjaaDoor.Vt
