/- A number below 2^24 as digits to the base 16: the library's formatBits. -/
import Derived.Test.YtajnlbfhcbkopaaDoorTab
import Derived.Laws.BitsLemmas
import Derived.Laws.Bits64
namespace Go.Proofs.YtajnlbfhcbkopaaDoor.Sty
open Go.RowKit

abbrev lits : ByteArray := { data := #[48, 49, 50, 51, 52, 53, 54, 55, 56, 57, 97, 98, 99, 100, 101, 102, 103, 104, 105, 106, 107, 108, 109, 110, 111, 112, 113, 114, 115, 116, 117, 118, 119, 120, 121, 122] }
theorem lits_at (d : Nat) (hd : d < 16) (h : d < lits.size) : (lits[d]'h).toNat = (hx d).toNat := by
  have : ∀ d, d < 16 → ∀ h : d < lits.size, (lits[d]'h).toNat = (hx d).toNat := by decide
  exact this d hd h
theorem u64_small (n : Int) (h₀ : 0 ≤ n) (h₁ : n < 2 ^ 63) : IntKind.u64.wrap n = n := by rw [IntKind.wrap_u64]; omega
theorem low4 (x : Nat) (h : x < 16777216) : bits .and .u64 (x : Int) 15 = ((x % 16 : Nat) : Int) := by
  have h := bits_mask .u64 63 (by decide) u64_small 4 (by decide) (x : Int) (by omega) (by omega)
  have e : ((2 : Int) ^ 4 - 1) = 15 := by decide
  have e2 : ((2 : Int) ^ 4) = 16 := by decide
  rw [e, e2] at h
  rw [h]
  omega

/-- The array behind j digits. -/
def hexCells (j n : Nat) : Array Value := (List.replicate (65 - j) (Value.int .u8 0) ++ (hexk j n).map fun b => Value.int .u8 (b.toNat : Int)).toArray
theorem hexCells_size (j n : Nat) (hj : j ≤ 65) : (hexCells j n).size = 65 := by
  simp [hexCells, hexk_length]; omega
theorem hexCells_step (j n : Nat) (hj : j < 65) : (hexCells j n).setIfInBounds (64 - j) (.int .u8 ((hx (n / 16 ^ j % 16)).toNat : Int)) = hexCells (j + 1) n := by
  unfold hexCells
  obtain ⟨m, hm⟩ : ∃ m, 65 - j = m + 1 := ⟨64 - j, by omega⟩
  have e1 : 64 - j = m := by omega
  have e2 : 65 - (j + 1) = m := by omega
  rw [hm, e1, e2, hexk, List.replicate_succ']
  rw [List.setIfInBounds_toArray]
  congr 1
  rw [List.append_assoc, List.set_append_right _ _ (by simp)]
  simp
theorem hexCells_get (j n i : Nat) (x : UInt8) (hx : (hexk j n)[i]? = some x) : (hexCells j n)[65 - j + i]? = some (.int .u8 (x.toNat : Int)) := by
  unfold hexCells
  rw [List.getElem?_toArray, List.getElem?_append_right (by simp)]
  simp [hx]
theorem pow_div (n j : Nat) : n / 16 ^ j / 16 = n / 16 ^ (j + 1) := by rw [Nat.div_div_eq_div_mul, Nat.pow_succ]
theorem pos16 (w : World) : Calls Tryd.prog 87 #[.int .i64 16] w fun e w' => e = .returned (.bool true) ∧ w = w' := by
  have b1 : bits .and .i64 16 15 = 0 := by kernel_rfl
  go_enter Tryd.func87, Tryd.ntmps87
  go_wp2
  go_ret
  exact ⟨rfl, rfl⟩

set_option maxRecDepth 100000 in
set_option maxHeartbeats 800000 in
theorem formatBits_16 {B : Nat} (n : Nat) (hn : n < 16777216) (w : World) (ht : Tabs B w) (hB : B ≤ w.heap.size) :
    Calls Tryd.prog 70 #[.slice none 0 0, .int .u64 n, .int .i64 16, .bool false, .bool false] w fun e w' =>
      (∃ j, j < 6 ∧ n / 16 ^ j < 16 ∧ e = .returned (.tuple #[.slice none 0 0, .string (bs (hexk (j + 1) n))])) ∧ Below w.heap.size w w' := by
  go_enter Tryd.func70, Tryd.ntmps70
  go_wp2_with (first
    | (go_at_call 87; refine (pos16 _).mono ?_; rintro e w' ⟨rfl, rfl⟩)
    | (go_at_call 62; refine (zeros_4 _ (ht.on hB ((Below.refl _ _).alloc (Nat.le_refl _) _))).mono ?_; rintro e w' ⟨rfl, rfl⟩))
  go_loopw [1, 13] (fun u i wr => ∃ j m : Nat, j < 6 ∧ m + 1 + j = 65 ∧ u = .int .u64 ((n / 16 ^ j : Nat) : Int) ∧ i = .int .i64 ((m : Int) + 1) ∧ n / 16 ^ j < 16 ^ (6 - j) ∧ Blk wr w.heap.size 111 (hexCells j n) ∧ Below w.heap.size w wr) (fun u _ _ => (intOf u).toNat)
  case atStart => exact ⟨0, 64, by omega, by omega, by simp, rfl, by simpa using hn, Blk.new w _ _, (Below.refl _ _).alloc (Nat.le_refl _) _⟩
  case round =>
    obtain ⟨j, m, hj, hm, rfl, rfl, hlt, hblk, hb⟩ := hrel
    have hbs := hb.size
    have hlt2 := hblk.lt
    have hstep := hexCells_step j n (by omega)
    have e64 : 64 - j = m := by omega
    rw [e64] at hstep
    have hle : n / 16 ^ j < 16777216 := Nat.lt_of_le_of_lt (Nat.div_le_self _ _) hn
    have hpd := pow_div n j
    have hc0 : wr.cell? ⟨w.heap.size, m, none⟩ = some ((hexCells j n)[m]'(by rw [hexCells_size _ _ (by omega)]; omega)) := by rw [hblk.cell m]; exact Array.getElem?_eq_getElem _
    have hf0 := hblk.frozen m
    have hset := hblk.set_ m (.int .u8 ((hx (n / 16 ^ j % 16)).toNat : Int))
    rw [hstep] at hset
    generalize hq : n / 16 ^ j = q at *
    generalize hq2 : n / 16 ^ (j + 1) = q2 at *
    have HQ := Lib.hid hq
    have HQ2 := Lib.hid hq2
    have HPD := Lib.hid hpd
    clear hq hq2 hpd hstep
    by_cases h16 : 16 ≤ q
    · have hl4 := low4 q hle
      have hix := lits_at (q % 16) (by omega) (Nat.lt_of_lt_of_le (Nat.mod_lt _ (by omega)) (by decide : 16 ≤ lits.size))
      go_wp2
      go_roundw
      case rel =>
        have hj5 : j = 0 ∨ j = 1 ∨ j = 2 ∨ j = 3 ∨ j = 4 ∨ j = 5 := by omega
        have hj1 : j + 1 < 6 ∧ q / 16 < 16 ^ (6 - (j + 1)) := by
          rcases hj5 with rfl | rfl | rfl | rfl | rfl | rfl <;> simp at hlt ⊢ <;> omega
        refine ⟨j + 1, m - 1, hj1.1, by omega, ?_, ?_, ?_, hset, hb.setCell (by simp) _⟩
        · rw [HQ2.out, ← HPD.out]; go_num
        · go_num
        · rw [HQ2.out, ← HPD.out]; exact hj1.2
      case measure => simp [intOf]; omega
    · have hm16 : q % 16 = q := by omega
      have hix := lits_at q (by omega) (Nat.lt_of_lt_of_le (by omega : q < 16) (by decide : 16 ≤ lits.size))
      rw [hm16] at hset
      have hv : ∀ i (hi : i < (hexk (j + 1) n).length), (wr.setCell { block := w.heap.size, off := m } (Value.int IntKind.u8 ↑(hx q).toNat)).cell? (Addr.add ⟨w.heap.size, m, none⟩ i) = some (.int .u8 (((hexk (j + 1) n)[i]).toNat : Int)) := fun i hi => by
        have e2 : (⟨w.heap.size, m, none⟩ : Addr).add i = ⟨w.heap.size, m + i, none⟩ := by unfold Addr.add; split <;> simp_all
        rw [e2, hset.cell]
        have := hexCells_get (j + 1) n i _ (List.getElem?_eq_getElem hi)
        rwa [show 65 - (j + 1) + i = m + i by omega] at this
      have hcv := run_convert_bytes_back (P := Tryd.prog) _ 67 9 5 ⟨w.heap.size, m, none⟩ (65 - m) (hexk (j + 1) n) Tryd.underlying67 Tryd.underlying5 Tryd.underlying9 hv
      rw [hexk_length] at hcv
      clear hv hset
      have hq2 : n / 16 ^ j < 16 := by rw [HQ.out]; omega
      have hbb := hb.setCell (p := ⟨w.heap.size, m, none⟩) (by simp) (Value.int IntKind.u8 ↑(hx q).toNat)
      have HQ3 := Lib.hid hq2
      clear hq2
      have hj6 : j = 0 ∨ j = 1 ∨ j = 2 ∨ j = 3 ∨ j = 4 ∨ j = 5 := by omega
      rcases hj6 with rfl | rfl | rfl | rfl | rfl | rfl
      · obtain rfl : m = 64 := by omega
        go_wp2
        go_ret2
        exact ⟨⟨0, by omega, HQ3.out, rfl⟩, hbb⟩
      · obtain rfl : m = 63 := by omega
        go_wp2
        go_ret2
        exact ⟨⟨1, by omega, HQ3.out, rfl⟩, hbb⟩
      · obtain rfl : m = 62 := by omega
        go_wp2
        go_ret2
        exact ⟨⟨2, by omega, HQ3.out, rfl⟩, hbb⟩
      · obtain rfl : m = 61 := by omega
        go_wp2
        go_ret2
        exact ⟨⟨3, by omega, HQ3.out, rfl⟩, hbb⟩
      · obtain rfl : m = 60 := by omega
        go_wp2
        go_ret2
        exact ⟨⟨4, by omega, HQ3.out, rfl⟩, hbb⟩
      · obtain rfl : m = 59 := by omega
        go_wp2
        go_ret2
        exact ⟨⟨5, by omega, HQ3.out, rfl⟩, hbb⟩
end Go.Proofs.YtajnlbfhcbkopaaDoor.Sty
