/- Cuts and fills as wide as they may be: plain laws, no program is named here. -/
import Derived.Test.YtmnembhfbboljaaDoorFit
namespace Go.Proofs.YtmnembhfbboljaaDoor.Cel

theorem cut_all : ∀ (l : List Int) (n : Int), cols l ≤ n → cut l n = l
  | [], _, _ => rfl
  | r :: l, n, h => by
    have h1 := room_bd r
    have h2 := cols_bd l
    simp only [cols] at h
    unfold cut
    rw [if_pos (by omega), cut_all l (n - room r) (by omega)]
theorem cut_low : ∀ (l : List Int) (n : Int), n ≤ cols l → n - 1 ≤ cols (cut l n)
  | [], n, h => by simp only [cols, cut] at h ⊢; omega
  | r :: l, n, h => by
    have h1 := room_bd r
    simp only [cols] at h
    unfold cut
    split
    · have := cut_low l (n - room r) (by omega)
      simp only [cols]
      omega
    · simp only [cols]; omega
theorem cutLeft_all : ∀ (l : List Int) (n : Int), cols l ≤ n → cutLeft l n = l
  | [], _, _ => rfl
  | r :: l, n, h => by unfold cutLeft; rw [if_pos h]
theorem cutLeft_le : ∀ (l : List Int) (n : Int), 0 ≤ n → cols (cutLeft l n) ≤ n
  | [], n, h => by simpa [cutLeft, cols] using h
  | r :: l, n, h => by
    unfold cutLeft
    split
    · assumption
    · exact cutLeft_le l n h
theorem cutLeft_low : ∀ (l : List Int) (n : Int), n ≤ cols l → n - 1 ≤ cols (cutLeft l n)
  | [], n, h => by simp only [cols, cutLeft] at h ⊢; omega
  | r :: l, n, h => by
    have h1 := room_bd r
    unfold cutLeft
    split
    · omega
    · rename_i hc
      by_cases h2 : n ≤ cols l
      · exact cutLeft_low l n h2
      · rw [cutLeft_all l n (by omega)]
        simp only [cols] at hc
        omega

/-- The runes of a fill. -/
def fitR (ns : List Int) (n : Int) : List Int := cut ns n ++ List.replicate (n - cols (cut ns n)).toNat 32
theorem bytes_blanks (k : Nat) : bytes (List.replicate k 32) = List.replicate k 32 := by
  induction k with
  | zero => rfl
  | succ k ih =>
    rw [List.replicate_succ, bytes_cons, ih, List.replicate_succ]
    have e : enc 32 = [32] := by decide +kernel
    rw [e]
    rfl
theorem fit_bytes (ns : List Int) (n : Int) (h : n ≤ 10000) : fit ns n = bytes (fitR ns n) := by
  have e : min n 10000 = n := by omega
  unfold fit fitR blanks
  rw [e, bytes_append, bytes_blanks]
theorem cols_blanks (k : Nat) : cols (List.replicate k 32) = k := by
  induction k with
  | zero => rfl
  | succ k ih =>
    have e : room 32 = 1 := by decide +kernel
    rw [List.replicate_succ]
    simp only [cols, ih, e]
    omega
theorem fitR_cols (ns : List Int) (n : Int) (h : 0 ≤ n) : cols (fitR ns n) = n := by
  have := (cut_cols ns n).1 h
  unfold fitR
  rw [cols_append, cols_blanks]
  omega
theorem cut_good {ns : List Int} (h : ∀ r ∈ ns, good r) (n : Int) : (∀ r ∈ cut ns n, good r) ∧ (cut ns n).length ≤ ns.length := by
  obtain ⟨k, hk⟩ := cut_prefix ns n
  refine ⟨fun r hr => h r (by rw [hk]; exact List.mem_append_left _ hr), ?_⟩
  conv => rhs; rw [hk]
  simp
theorem cutLeft_good {ns : List Int} (h : ∀ r ∈ ns, good r) (n : Int) : (∀ r ∈ cutLeft ns n, good r) ∧ (cutLeft ns n).length ≤ ns.length := by
  obtain ⟨k, hk⟩ := cutLeft_suffix ns n
  refine ⟨fun r hr => h r (by rw [hk]; exact List.mem_append_right _ hr), ?_⟩
  conv => rhs; rw [hk]
  simp
theorem fitR_good {ns : List Int} (h : ∀ r ∈ ns, good r) (n : Int) : (∀ r ∈ fitR ns n, good r) ∧ (0 ≤ n → ((fitR ns n).length : Int) ≤ ns.length + n) := by
  have h1 := cut_good h n
  have h2 := cols_bd (cut ns n)
  unfold fitR
  refine ⟨fun r hr => ?_, fun h0 => ?_⟩
  · rcases List.mem_append.1 hr with hr | hr
    · exact h1.1 r hr
    · have := List.eq_of_mem_replicate hr
      subst this
      unfold good; omega
  · rw [List.length_append, List.length_replicate]
    omega

/-- What the program's functions say of a text of runes that were written. -/
theorem text_size (ns : List Int) : (runesBytes ns).size ≤ 4 * ns.length := runesBytes_size_le ns
theorem text_runes {ns : List Int} (h : ∀ r ∈ ns, good r) : runes (runesBytes ns).data.toList = ns := by rw [runesBytes_list, runes_bytes ns h]
end Go.Proofs.YtmnembhfbboljaaDoor.Cel
