/- A text cut at a bracket; a user option's name; an item's name. -/
import Derived.Test.YtgnlfikkmomghaaGreatDoorOtx
namespace Go.Proofs.YtgnlfikkmomghaaGreatDoor.Opt
open Go.RowKit

theorem cut_ext (l : Tx) (a b : Nat) : (bs l).extract a b = bs ((l.take b).drop a) := by
  unfold bs
  apply ByteArray.ext
  simp [ByteArray.data_extract, List.drop_take]
def cutP (l : Tx) : Tx × Tx × Bool := if 0 ≤ Lib.indexByte l 91 then (l.take (Lib.indexByte l 91).toNat, l.drop ((Lib.indexByte l 91).toNat + 1), true) else (l, [], false)

set_option maxRecDepth 100000 in
set_option maxHeartbeats 2000000 in
theorem cut1_at (l : Tx) (hl : l.length ≤ 281474976710656) (w : World) :
    Calls Tryz.prog 134 #[.string (bs l), .string ⟨#[91]⟩] w fun e w' => e = .returned (.tuple #[.string (bs (cutP l).1), .string (bs (cutP l).2.1), .bool (cutP l).2.2]) ∧ Below w.heap.size w w' := by
  have h1 := Tryz.stringslite_Index_one (bs l) 91 w
  rw [bs_list] at h1
  have H1 := Lib.hid h1
  clear h1
  obtain ⟨s, hs⟩ : ∃ s, s = bs l := ⟨_, rfl⟩
  have hsz : s.size = l.length := by rw [hs, bs_size]
  rw [← hs] at H1 ⊢
  by_cases hi : 0 ≤ Lib.indexByte l 91
  · obtain ⟨i, hi'⟩ : ∃ i : Nat, Lib.indexByte l 91 = (i : Int) := ⟨_, (Int.toNat_of_nonneg hi).symm⟩
    obtain ⟨hg, _⟩ := Lib.indexByte_some hi'
    have hlt : i < l.length := (List.getElem?_eq_some_iff.1 hg).1
    have ec : cutP l = (l.take i, l.drop (i + 1), true) := by unfold cutP; rw [if_pos hi, hi']; simp
    rw [ec]
    rw [hi'] at H1
    have i0 : (0 : Int) ≤ (i : Int) := Int.natCast_nonneg _
    have i1 : (i : Int) ≤ (s.size : Int) := by omega
    have i2 : (i : Int) + 1 ≤ (s.size : Int) := by omega
    have e1 : s.extract 0 i = bs (l.take i) := by rw [hs, cut_ext]; simp
    have e2 : s.extract (i + 1) s.size = bs (l.drop (i + 1)) := by rw [hsz, hs, cut_ext, List.take_of_length_le (Nat.le_refl _)]
    have E1 := Lib.hid e1
    have E2 := Lib.hid e2
    clear e1 e2 hs ec hi hi' hg
    go_enter Tryz.func134, Tryz.ntmps134
    go_wp2_with fail
    refine H1.out.mono ?_
    rintro e w' ⟨rfl, rfl⟩
    clear H1
    go_wp2_with fail
    go_region
    go_wp2_with fail
    go_ret3
    exact ⟨by rw [E1.out, show s.extract (i + 1) l.length = bs (l.drop (i + 1)) by rw [← hsz]; exact E2.out]; rfl, (Below.refl _ _).drew⟩
  · have hm : Lib.indexByte l 91 = -1 := by have := Lib.indexByte_ge l 91; omega
    have ec : cutP l = (l, [], false) := by unfold cutP; rw [if_neg hi]
    rw [ec]
    rw [hm] at H1
    have E1 := Lib.hid hs
    clear hs ec hi hm
    go_enter Tryz.func134, Tryz.ntmps134
    go_wp2_with fail
    refine H1.out.mono ?_
    rintro e w' ⟨rfl, rfl⟩
    clear H1
    go_wp2_with fail
    go_ret3
    exact ⟨by rw [E1.out]; rfl, Below.refl _ _⟩
set_option maxRecDepth 100000 in
set_option maxHeartbeats 2000000 in
theorem cut_at (l : Tx) (hl : l.length ≤ 281474976710656) (w : World) :
    Calls Tryz.prog 89 #[.string (bs l), .string ⟨#[91]⟩] w fun e w' => e = .returned (.tuple #[.string (bs (cutP l).1), .string (bs (cutP l).2.1), .bool (cutP l).2.2]) ∧ Below w.heap.size w w' := by
  have H1 := Lib.hid (cut1_at l hl w)
  go_enter Tryz.func89, Tryz.ntmps89
  go_wp2_with fail
  refine H1.out.mono ?_
  rintro e w' ⟨rfl, hb⟩
  have HB := Lib.hid hb
  clear hb H1
  go_wp2_with fail
  go_ret3
  exact ⟨rfl, HB.out⟩

/-! ### A user option's name -/
def nameCs : Tx := [97, 98, 99, 100, 101, 102, 103, 104, 105, 106, 107, 108, 109, 110, 111, 112, 113, 114, 115, 116, 117, 118, 119, 120, 121, 122, 65, 66, 67, 68, 69, 70, 71, 72, 73, 74, 75, 76, 77, 78, 79, 80, 81, 82, 83, 84, 85, 86, 87, 88, 89, 90, 48, 49, 50, 51, 52, 53, 54, 55, 56, 57, 45, 95]
theorem trim_any (cs l : Tx) (hcs : cs.length < 4294967281) (ha : cs.all (fun b => decide (b.toNat < 128)) = true) (hl : l.length ≤ 281474976710656) (w : World) :
    Calls Tryz.prog 82 #[.string (bs l), .string (bs cs)] w fun e w' => e = .returned (.string (bs (Lib.trimS l cs))) ∧ Below w.heap.size w w' := by
  have h := Any.strings_Trim_laid Tryz.lays160 (by kernel_rfl) (bs l) (bs cs) w (by rw [bs_size]; omega) (by rw [bs_size]; exact hcs) (by rw [bs_list]; exact ascii_of_all ha)
  rw [bs_list, bs_list] at h
  exact h
/-- It begins with the mark, and behind that stand letters, digits, dashes and underscores alone, not too many. -/
def userP (l : Tx) : Bool := Lib.hasPrefix l [64] && (!(Lib.trimPrefix l [64]).isEmpty && (decide (l.length ≤ 64) && (Lib.trimS (Lib.trimPrefix l [64]) nameCs).isEmpty))
theorem bs_tl (l : Tx) : (bs l).toList = l := by unfold bs; simp
theorem bs_nil (l : Tx) : bs l = ⟨#[]⟩ ↔ l = [] := ⟨fun h => bs_inj (b := []) h, fun h => by rw [h]; rfl⟩
set_option maxRecDepth 100000 in
set_option maxHeartbeats 2000000 in
theorem user_any (l : Tx) (hl : l.length ≤ 281474976710656) (w : World) :
    Calls Tryz.prog 87 #[.string (bs l)] w fun e w' => e = .returned (.bool (userP l)) ∧ Below w.heap.size w w' := by
  have h1 := Tryz.strings_CutPrefix (bs l) ⟨#[64]⟩ w
  rw [bs_list] at h1
  have hd : (Lib.trimPrefix l [64]).length ≤ l.length := by unfold Lib.trimPrefix; split <;> simp
  have h2 := fun w' => trim_any nameCs (Lib.trimPrefix l [64]) (by decide) (by decide) (by omega) w'
  have h1' : Calls Tryz.prog 129 #[.string (bs l), .string ⟨#[64]⟩] w fun e w' => e = .returned (.tuple #[.string (bs (Lib.trimPrefix l [64])), .bool (Lib.hasPrefix l [64])]) ∧ w' = w := h1
  have H1 := Lib.hid h1'
  have H2 := Lib.hid h2
  have hsz : (bs l).size = l.length := bs_size l
  have hu : userP l = (Lib.hasPrefix l [64] && (!(Lib.trimPrefix l [64]).isEmpty && (decide (l.length ≤ 64) && (Lib.trimS (Lib.trimPrefix l [64]) nameCs).isEmpty))) := rfl
  rw [hu]
  clear hu h1 h2 h1'
  generalize (Lib.trimS (Lib.trimPrefix l [64]) nameCs) = t at H2 ⊢
  generalize Lib.trimPrefix l [64] = p at H1 H2 ⊢
  generalize Lib.hasPrefix l [64] = q at H1 ⊢
  cases q with
  | false =>
    go_enter Tryz.func87, Tryz.ntmps87
    go_wp2_with fail
    refine H1.out.mono ?_
    rintro e w' ⟨rfl, rfl⟩
    clear H1
    go_wp2_with fail
    go_ret
    exact ⟨rfl, Below.refl _ _⟩
  | true =>
    cases hp : p.isEmpty with
    | true =>
      obtain rfl := List.isEmpty_iff.1 hp
      have hx : (bs []).toList.isEmpty = true := by rw [bs_tl]; rfl
      go_enter Tryz.func87, Tryz.ntmps87
      go_wp2_with fail
      refine H1.out.mono ?_
      rintro e w' ⟨rfl, rfl⟩
      clear H1
      go_wp2_with fail
      go_ret
      exact ⟨rfl, Below.refl _ _⟩
    | false =>
      have hx : (bs p).toList.isEmpty = false := by rw [bs_tl]; exact hp
      by_cases h64 : l.length ≤ 64
      · have h64' : (l.length : Int) ≤ 64 := by omega
        have hd1 : decide (l.length ≤ 64) = true := decide_eq_true h64
        rw [hd1]
        clear hp hd1
        have ht : (bs t).toList.isEmpty = t.isEmpty := by rw [bs_tl]
        obtain ⟨b, hb⟩ : ∃ b, b = t.isEmpty := ⟨_, rfl⟩
        rw [← hb] at ht ⊢
        clear hb
        go_enter Tryz.func87, Tryz.ntmps87
        go_wp2_with fail
        refine H1.out.mono ?_
        rintro e w' ⟨rfl, rfl⟩
        clear H1
        go_wp2_with fail
        refine (H2.out w').mono ?_
        rintro e w2 ⟨rfl, hb⟩
        have HB := Lib.hid hb
        clear hb H2
        go_wp2_with fail
        go_ret
        exact ⟨rfl, HB.out⟩
      · have h64' : ¬ (l.length : Int) ≤ 64 := by omega
        have hd1 : decide (l.length ≤ 64) = false := decide_eq_false h64
        rw [hd1]
        clear hp hd1 H2
        go_enter Tryz.func87, Tryz.ntmps87
        go_wp2_with fail
        refine H1.out.mono ?_
        rintro e w' ⟨rfl, rfl⟩
        clear H1
        go_wp2_with fail
        go_ret
        exact ⟨rfl, Below.refl _ _⟩
end Go.Proofs.YtgnlfikkmomghaaGreatDoor.Opt
