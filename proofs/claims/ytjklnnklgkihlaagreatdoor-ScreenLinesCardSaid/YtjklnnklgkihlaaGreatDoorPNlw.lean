/- The letters that the law on lines writes. -/
import Derived.Test.YtjklnnklgkihlaaGreatDoorPNmk
namespace Go.Proofs.YtjklnnklgkihlaaGreatDoor.Scr
open Go.RowKit Cel Sty Grd

def abcL (n : Nat) : List UInt8 := (List.range n).map fun i => UInt8.ofNat (97 + i % 26)
theorem abcL_len (n : Nat) : (abcL n).length = n := by simp [abcL]
theorem abcL_wide (n : Nat) : ∀ u ∈ abcL n, 32 ≤ u.toNat ∧ u.toNat ≤ 126 ∧ width (u.toNat : Int) = 1 := by
  intro u hu
  obtain ⟨i, _, rfl⟩ := List.mem_map.1 hu
  have h : ∀ k, k < 26 → 32 ≤ (UInt8.ofNat (97 + k)).toNat ∧ (UInt8.ofNat (97 + k)).toNat ≤ 126 ∧ width ((UInt8.ofNat (97 + k)).toNat : Int) = 1 := by decide
  exact h _ (Nat.mod_lt _ (by decide))
theorem abcL_ne (n : Nat) : ∀ u ∈ abcL n, u ≠ 32 := by
  intro u hu
  obtain ⟨i, _, rfl⟩ := List.mem_map.1 hu
  have h : ∀ k, k < 26 → UInt8.ofNat (97 + k) ≠ 32 := by decide
  exact h _ (Nat.mod_lt _ (by decide))
/-- The first k of n letters, the others not yet. -/
def abcK (n k : Nat) : List UInt8 := (abcL n).take k ++ List.replicate (n - k) 0
theorem abcK_len (n k : Nat) (h : k ≤ n) : (abcK n k).length = n := by unfold abcK; simp [abcL_len]; omega
theorem abcK_set {n k : Nat} (h : k < n) : (bytV (abcK n k)).set k (.int .u8 (97 + (k : Int) % 26)) = bytV (abcK n (k + 1)) := by
  have hv : Value.int .u8 (97 + (k : Int) % 26) = (fun u : UInt8 => Value.int .u8 (u.toNat : Int)) (UInt8.ofNat (97 + k % 26)) := by
    have : (UInt8.ofNat (97 + k % 26)).toNat = 97 + k % 26 := by
      rw [UInt8.toNat_ofNat']
      omega
    simp only [this]
    congr 1
  rw [hv]
  unfold bytV
  rw [← List.map_set]
  congr 1
  unfold abcK
  have hl : ((abcL n).take k).length = k := by rw [List.length_take, abcL_len]; omega
  obtain ⟨d, hd⟩ : ∃ d, n - k = d + 1 := ⟨n - k - 1, by omega⟩
  rw [List.set_append_right _ _ (by omega), hl, Nat.sub_self, hd, List.replicate_succ, List.set_cons_zero, List.take_succ_eq_append_getElem (by rw [abcL_len]; exact h), show n - (k + 1) = d by omega]
  simp [abcL]
theorem abcK_0 (n : Nat) : abcK n 0 = List.replicate n 0 := by unfold abcK; simp
theorem abcK_n (n : Nat) : abcK n n = abcL n := by unfold abcK; rw [Nat.sub_self, List.take_of_length_le (by rw [abcL_len]; exact Nat.le_refl _)]; simp
section
variable {ops : Array Oper} {rest : List Oper} {op : Oper} {a : Act} {w : World} {Q : Exit → Act → World → Prop}
theorem wpList_make_u8 (hgd : op.guard = none) (x y : Operand) (ho : op.op = .makeSlice 28 x y) (n : Nat) (hx : a.eval x = .int .i64 (n : Int)) (hy : a.eval y = .int .i64 (n : Int)) (hn : n ≤ 1000000)
    (h : ∀ w1, BL w1 w.heap.size 5 (bytV (List.replicate n 0)) → Below w.heap.size w w1 → wpList Tryz.prog ops Q rest (a.put op.dst (.slice (some ⟨w.heap.size, 0, none⟩) n n)) w1) : wpList Tryz.prog ops Q (op :: rest) a w := by
  obtain ⟨i, hq, hz, hs, hby⟩ := info_u8'
  refine wpList_plain hgd fun K hK => ?_
  have hrun := run_make (P := Tryz.prog) w 28 5 i _ Tryz.underlying28 hq hz .i64 .i64 (n : Int) (n : Int) (Int.natCast_nonneg _) (Int.le_refl _) (by rw [hby]; omega) (by omega)
  have hf : (List.replicate n [Value.int .u8 0]).flatten = bytV (List.replicate n 0) := by
    unfold bytV
    rw [List.map_replicate]
    induction n with
    | zero => rfl
    | succ n ih => simp_all [List.replicate_succ]
  have hl : (madeCells (Value.cells (.int .u8 0)) ((n : Int).toNat * i.size)) = (bytV (List.replicate n 0)).toArray := by
    rw [hs, Int.toNat_natCast, ← hf]
    have hmc := madeCells_rep [.int .u8 0] n
    rw [← hmc]
    rfl
  rw [hl, Int.toNat_natCast] at hrun
  have hk := hK _ _ (h _ (BL.new w 5 _) ((Below.refl _ _).alloc (Nat.le_refl _) _))
  generalize w.alloc (.cells (bytV (List.replicate n 0)).toArray 5) = w2 at hk hrun
  unfold Oper.wp
  simp [execOp, ho, hx, hy, hrun, Result.andThen]
  exact hk
end
/-- Where the lines lie. -/
theorem begun_div {c n : Nat} (hc : 1 ≤ c) : max 1 ((n + c - 1) / c) = begun c n := by
  unfold begun
  rcases Nat.eq_zero_or_pos n with rfl | h
  · rw [Nat.zero_add, Nat.div_eq_of_lt (by omega), Nat.zero_sub, Nat.zero_div]
    rfl
  · have : n + c - 1 = (n - 1) + c := by omega
    rw [this, Nat.add_div_right _ (by omega)]
    generalize (n - 1) / c = q
    omega
/-- Line j of a grid that shows k letters. -/
theorem line_row {w : World} {g c r k a : Nat} {F : List Nat} {l : List Int} (h : GA w g F c 39 (pastK c r 39 l k a) (rowsK c r l k a)) (j : Nat) (h0 : a - r - min (a - r) 39 ≤ j) (h1 : j < a) : RowOf w g ((j : Int) - ((a - r : Nat) : Int)) (lineK c l k a j) := by
  by_cases hj : j < a - r
  · have hk : j - (a - r - min (a - r) 39) < (pastK c r 39 l k a).length := by rw [pastK_len]; omega
    have h2 := h.past_row _ hk
    have e1 : (pastK c r 39 l k a)[j - (a - r - min (a - r) 39)] = lineK c l k a j := by
      simp only [pastK, List.getElem_map, List.getElem_range]
      congr 1
      omega
    rw [e1] at h2
    have e2 : ((j - (a - r - min (a - r) 39) : Nat) : Int) - ((pastK c r 39 l k a).length : Int) = (j : Int) - ((a - r : Nat) : Int) := by
      rw [pastK_len]
      omega
    rw [e2] at h2
    exact h2
  · have hk : j - (a - r) < (rowsK c r l k a).length := by rw [rowsK_len]; omega
    have h2 := h.scr_row _ hk
    have e1 : (rowsK c r l k a)[j - (a - r)] = lineK c l k a j := by
      simp only [rowsK, List.getElem_map, List.getElem_range]
      congr 1
      omega
    rw [e1] at h2
    have e2 : ((j - (a - r) : Nat) : Int) = (j : Int) - ((a - r : Nat) : Int) := by omega
    rw [e2] at h2
    exact h2
/-- A line ends where the letters end, or where it is full. -/
theorem line_to {c k j : Nat} (B : List UInt8) (hB : B.length = k) (hj : j * c ≤ k) : (B.drop (j * c)).take c = (B.drop (j * c)).take (min k (j * c + c) - j * c) := by
  by_cases h : j * c + c ≤ k
  · rw [show min k (j * c + c) - j * c = c by omega]
  · have hl : (B.drop (j * c)).length ≤ c := by rw [List.length_drop]; omega
    rw [List.take_of_length_le hl, List.take_of_length_le (by rw [List.length_drop]; omega)]
theorem begun_le {c k j : Nat} (hc : 1 ≤ c) (hj : j < begun c k) : j * c ≤ k := by
  unfold begun at hj
  have h1 : j ≤ (k - 1) / c := by omega
  have h2 : j * c ≤ k - 1 := (Nat.le_div_iff_mul_le (by omega)).1 h1
  omega
end Go.Proofs.YtjklnnklgkihlaaGreatDoor.Scr
