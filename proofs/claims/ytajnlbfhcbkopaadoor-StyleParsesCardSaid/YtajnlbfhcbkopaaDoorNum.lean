/- Package style's 'numbered': a number written as Print would. -/
import Derived.Test.YtajnlbfhcbkopaaDoorHxp
namespace Go.Proofs.YtajnlbfhcbkopaaDoor.Sty
open Go.RowKit

def okRow : Bool := (List.range 256).all fun n => match Lib.atoiAll (dec n) with | .ok v => decide (v = (n : Int)) | _ => false
theorem okRow_true : okRow = true := by kernel_rfl
theorem atoi_dec (n : Nat) (h : n < 256) : Lib.atoiAll (dec n) = .ok (n : Int) := by
  have := List.all_eq_true.1 okRow_true n (List.mem_range.2 h)
  split at this
  · rename_i v hv
    rw [hv, of_decide_eq_true this]
  · cases this
/-- What a text is as a number of the palette. -/
def NumIs (l : Tx) (r : Option Int) : Prop := (∃ n : Nat, n < 256 ∧ l = dec n ∧ r = some (n : Int)) ∨ ((∀ n, n < 256 → l ≠ dec n) ∧ r = none)
def SomeNum (l : Tx) (w : World) (e : Ending) (w' : World) : Prop := (∃ r, NumIs l r ∧ e = .returned (colVal r)) ∧ Below w.heap.size w w'

set_option maxRecDepth 100000 in
set_option maxHeartbeats 400000 in
theorem numbered_any {B : Nat} (l : Tx) (w : World) (ht : Tabs B w) (hB : B ≤ w.heap.size) (hs : l.length ≤ 140737488351232) :
    Calls Tryd.prog 29 #[.string (bs l)] w (SomeNum l w) := by
  have hz : (bs l).size ≤ 140737488351232 := by rw [bs_size]; omega
  have hT := bs_tl l
  have hok := fun v h w => Tryd.strconv_Atoi_ok (bs l) (by omega) v h w
  have hsy := fun h ev w => Tryd.strconv_Atoi_syntax (bs l) (by omega) h ev w
  have hra := fun h ev w => Tryd.strconv_Atoi_range (bs l) (by omega) h ev w
  rw [bs_list] at hok hsy hra
  generalize hS : bs l = S at *
  clear hS
  have HN : (∀ n, n < 256 → l ≠ dec n) → Hid (SomeNum l w (.returned (.tuple #[.int .i64 0, .int .i64 4])) w) := fun h => ⟨⟨none, .inr ⟨h, rfl⟩, rfl⟩, Below.refl _ _⟩
  cases hc : Lib.atoiAll l with
  | ok v =>
    have hcall := hok v hc w
    clear hok hsy hra
    have hno : ∀ n, n < 256 → l = dec n → v = n := fun n hn e => by
      rw [e, atoi_dec n hn] at hc
      injection hc with hc
      exact hc.symm
    have hvb : v < 0 ∨ 255 < v ∨ (0 ≤ v ∧ v ≤ 255) := by omega
    go_enter Tryd.func29, Tryd.ntmps29
    go_wp2_with fail
    refine hcall.mono ?_
    rintro e w1 ⟨rfl, hw1⟩
    have hb1 : Below w.heap.size w w1 := by
      rcases hw1 with rfl | ⟨t, rfl⟩
      · exact Below.refl _ _
      · exact Lib.bytesWorld_below _ _ _
    clear hw1 hcall
    have ht1 := ht.on hB hb1
    rcases hvb with h | h | ⟨h0, h1⟩
    · have HF := HN (fun n hn e => by have := hno n hn e; omega)
      clear HN hno hc
      go_wp2
      go_ret2
      exact ⟨HF.out.1, hb1⟩
    · have HF := HN (fun n hn e => by have := hno n hn e; omega)
      clear HN hno hc
      go_wp2
      go_ret2
      exact ⟨HF.out.1, hb1⟩
    · obtain ⟨k, rfl⟩ : ∃ k : Nat, v = k := ⟨v.toNat, by omega⟩
      have hit := itoa_any k (by omega) w1 ht1
      have hTd := bs_tl (dec k)
      by_cases he : l = dec k
      · have HY : Hid (NumIs l (some (k : Int))) := .inl ⟨k, by omega, he, rfl⟩
        clear HN hno hc
        rw [← he] at hTd hit
        clear he
        go_wp2_with (go_at_call 34; refine hit.mono ?_; rintro e w2 ⟨rfl, hb2⟩)
        go_ret2
        exact ⟨⟨_, HY.out, rfl⟩, hb1.trans (hb2.mono hb1.size)⟩
      · have HF := HN (fun n hn e => by have := hno n hn e; exact he (by rw [e]; congr 1; omega))
        clear HN hno hc
        generalize dec k = D at *
        have hDl : (D == l) = false := by simpa using fun e => he e.symm
        go_wp2_with (go_at_call 34; refine hit.mono ?_; rintro e w2 ⟨rfl, hb2⟩)
        go_ret2
        exact ⟨HF.out.1, hb1.trans (hb2.mono hb1.size)⟩
  | «syntax» =>
    obtain ⟨te, pe, hcell⟩ := ht.syn
    have hcall := hsy hc _ w hcell (.inr ⟨te, pe, rfl⟩)
    have HF := HN (fun n hn e => by rw [e, atoi_dec n hn] at hc; cases hc)
    clear hok hsy hra hcell HN hc
    go_enter Tryd.func29, Tryd.ntmps29
    go_wp2_with fail
    refine hcall.mono ?_
    rintro e w1 ⟨M, rfl, hM, hN, hb1⟩
    go_wp2
    go_ret2
    exact ⟨HF.out.1, hb1⟩
  | range =>
    obtain ⟨te, pe, hcell⟩ := ht.rng
    have hcall := hra hc _ w hcell (.inr ⟨te, pe, rfl⟩)
    have HF := HN (fun n hn e => by rw [e, atoi_dec n hn] at hc; cases hc)
    generalize Lib.atoiSat l = sat at *
    clear hok hsy hra hcell HN hc
    go_enter Tryd.func29, Tryd.ntmps29
    go_wp2_with fail
    refine hcall.mono ?_
    rintro e w1 ⟨M, rfl, hM, hN, hb1⟩
    go_wp2
    go_ret2
    exact ⟨HF.out.1, hb1⟩
end Go.Proofs.YtajnlbfhcbkopaaDoor.Sty
