/- The walks of the document's answer to layer 1: the runes of bytes. -/
import Derived.Test.YtmnembhfbboljaaDoorReft
import Derived.Test.YtmnembhfbboljaaDoorDec
namespace Go.Proofs.YtmnembhfbboljaaDoor.Cel
open Go.RowKit

theorem empty_no {t : ByteArray} (h : 0 < t.size) : t.toList.isEmpty = false := by
  rw [ByteArray.toList_eq]
  cases h2 : t.data.toList with
  | nil => exfalso; have e : t.data.toList.length = t.size := by rw [Array.length_toList]; rfl
           rw [h2] at e; simp at e; omega
  | cons a l => rfl
theorem empty_yes {t : ByteArray} (h : ¬ 0 < t.size) : t.toList.isEmpty = true ∧ t.data.toList = [] := by
  have e : t.data.toList.length = t.size := by rw [Array.length_toList]; rfl
  have e2 : t.data.toList = [] := List.eq_nil_of_length_eq_zero (by omega)
  rw [ByteArray.toList_eq, e2]
  exact ⟨rfl, rfl⟩
theorem drop_text (t : ByteArray) (n : Nat) : (t.extract n t.size).data.toList = t.data.toList.drop n := by
  rw [ByteArray.data_extract, Array.toList_extract]
  rw [List.extract_eq_take_drop, List.take_of_length_le]
  rw [List.length_drop, Array.length_toList]
  exact Nat.le_refl _
theorem drop_text_size (t : ByteArray) (n : Nat) : (t.extract n t.size).size = t.size - n := by simp [ByteArray.size_extract]
def textSize : Value → Nat | .string t => t.size | _ => 0

set_option maxRecDepth 100000 in
set_option maxHeartbeats 1000000 in
theorem whole_any (s : ByteArray) (w : World) (hs : s.size ≤ 1099511626000) :
    Calls Tryd.prog 13 #[.string s] w fun e w' => ∃ v, e = .returned (.tuple #[v, .int .i64 (run zero s.data.toList).1.p]) ∧ Owns w' w.heap.size v (run zero s.data.toList).2 ∧ Below w.heap.size w w' := by
  go_enter Tryd.func13, Tryd.ntmps13
  go_wp2
  go_loopw [0, 4] (fun a v wr => ∃ (t : ByteArray) (l : List Int), a = .string t ∧ Hid (run zero s.data.toList = ((run zero t.data.toList).1, l ++ (run zero t.data.toList).2)) ∧ Owns wr w.heap.size v l ∧ l.length + t.size ≤ s.size ∧ Below w.heap.size w wr) (fun a _ _ => textSize a)
  case atStart => exact ⟨s, [], rfl, rfl, owns_nil _ _, by simp, Below.refl _ _⟩
  case round =>
    obtain ⟨t, l, rfl, HX, hown, hl, hb⟩ := hrel
    have hbs := hb.size
    by_cases h0 : 0 < t.size
    · have hne := empty_no h0
      have hr := takeRef_any t wr h0
      have htl : t.data.toList.length = t.size := by rw [Array.length_toList]; rfl
      have hru := take_run t.data.toList (by intro e; rw [e] at htl; simp at htl; omega)
      obtain ⟨q, hq⟩ : ∃ q, take t.data.toList = q := ⟨_, rfl⟩
      rw [hq] at hr hru
      clear hq
      obtain ⟨x, n⟩ := q
      simp only at hr hru
      by_cases hn : n = 0
      · have hr' : Calls Tryd.prog 30 #[.string t] wr fun e w' => e = .returned (.tuple #[.int .i32 x, .int .i64 0]) ∧ wr = w' := by simpa [hn] using hr
        have HR : Hid (run zero s.data.toList = ((run zero t.data.toList).1, l) ∧ (run zero t.data.toList).1.p = t.size) := by
          rcases hru with ⟨_, h2, h3⟩ | ⟨h1, _⟩
          · refine ⟨?_, by rw [h3, htl]⟩
            rw [HX.out, h2, List.append_nil]
          · omega
        clear hr hru htl hn
        go_wp2_with (go_at_call 30; refine hr'.mono ?_; rintro e w' ⟨rfl, rfl⟩)
        go_ret2
        refine ⟨_, ?_, by rw [HR.out.1]; exact hown, hb⟩
        rw [HR.out.1]
        simp only [HR.out.2]
        rfl
      · have HR : Hid (run zero s.data.toList = ((run zero (t.data.toList.drop n)).1, (l ++ [x]) ++ (run zero (t.data.toList.drop n)).2)) := by
          show _ = _
          rcases hru with ⟨h1, _⟩ | ⟨_, _, h3⟩
          · exact absurd h1 hn
          · rw [HX.out, h3, List.append_assoc]
            rfl
        have hn2 : n ≤ t.size := by
          rcases hru with ⟨h1, _⟩ | ⟨_, h2, _⟩
          · exact absurd h1 hn
          · omega
        have hn1 : 1 ≤ n := by omega
        clear hru htl hn
        go_wp2_with (first
          | (go_at_call 30; refine hr.mono ?_; rintro e w' ⟨rfl, rfl⟩)
          | (at_builtin; refine wpList_append_rune rfl (.tmp 19) (.tmp 21) rfl w.heap.size _ l x 1 rfl hown rfl hbs (by omega) ?_; intro v' w2 hown2 hk2 hat2))
        go_roundw
        case rel =>
          refine ⟨_, l ++ [x], rfl, ?_, hown2, by rw [drop_text_size, List.length_append]; simp only [List.length_cons, List.length_nil]; omega, hb.trans (hk2.below hbs ?_)⟩
          · show _ = _
            rw [drop_text]
            exact HR.out
          · intro i hi hp
            have := (hown.lt i hp).1
            omega
        case measure =>
          show (t.extract n t.size).size < t.size
          rw [drop_text_size]
          omega
    · obtain ⟨hne, hnil⟩ := empty_yes h0
      have HR : Hid (run zero s.data.toList = (zero, l)) := by show _ = _; rw [HX.out, hnil]; simp [run]
      clear hnil
      go_wp2
      go_ret2
      refine ⟨_, ?_, by rw [HR.out]; exact hown, hb⟩
      rw [HR.out]
      rfl

set_option maxRecDepth 100000 in
theorem runesRef_any (s : ByteArray) (w : World) (hs : s.size ≤ 1099511626000) :
    Calls Tryd.prog 17 #[.string s] w fun e w' => ∃ v, e = .returned v ∧ Owns w' w.heap.size v (runes s.data.toList) ∧ Below w.heap.size w w' := by
  have hwh := whole_any s w hs
  have hin := run_inv s.data.toList zero inv_zero
  have hbd := hin.1.bd.p0
  have hct := run_count s.data.toList zero inv_zero
  have hsz : s.data.toList.length = s.size := by rw [Array.length_toList]; rfl
  have hp0 : pend zero = 0 := by simp [pend, zero]
  have hl : (run zero s.data.toList).2.length ≤ 1099511627776 := by omega
  have HE : Hid (runes s.data.toList = (run zero s.data.toList).2 ++ lost (run zero s.data.toList).1) := rfl
  clear hin hct hsz hp0
  generalize run zero s.data.toList = q at *
  obtain ⟨d, l⟩ := q
  simp only at hwh hbd hl HE
  by_cases hp : d.p = 0
  · have HR : Hid (runes s.data.toList = l) := by show _ = _; rw [HE.out]; unfold lost; rw [if_pos hp, List.append_nil]
    have hp2 : ¬ 0 < d.p := by omega
    clear hp
    go_enter Tryd.func17, Tryd.ntmps17
    go_wp2_with (go_at_call 13; refine hwh.mono ?_; rintro e w1 ⟨v, rfl, hown, hb⟩)
    go_ret
    exact ⟨v, rfl, by rw [HR.out]; exact hown, hb⟩
  · have HR : Hid (runes s.data.toList = l ++ [65533]) := by show _ = _; rw [HE.out]; unfold lost; rw [if_neg hp]
    have hp2 : 0 < d.p := by omega
    clear hp
    go_enter Tryd.func17, Tryd.ntmps17
    go_wp2_with (first
      | (go_at_call 13; refine hwh.mono ?_; rintro e w1 ⟨v, rfl, hown, hb⟩; have hbs := hb.size)
      | (at_builtin; refine wpList_append_rune rfl (.tmp 12) (.tmp 13) rfl w.heap.size v l 65533 1 rfl hown rfl hbs hl ?_; intro v' w2 hown2 hk2 hat2))
    go_ret
    refine ⟨v', rfl, by rw [HR.out]; exact hown2, hb.trans (hk2.below hbs ?_)⟩
    intro i hi hp
    have := (hown.lt i hp).1
    omega
end Go.Proofs.YtmnembhfbboljaaDoor.Cel
