/- The walks of the document's answer to layer 1: columns, cuts, fills. -/
import Derived.Test.YtmnembhfbboljaaDoorRefw
import Derived.Test.YtmnembhfbboljaaDoorCut
import Derived.BigQuiet
import Derived.Deep.QuietTactic
namespace Go.Proofs.YtmnembhfbboljaaDoor.Cel
open Go.RowKit

/-- The slice v reads as these runes; its row lies below block B. -/
def Rd (w : World) (B : Nat) (A : Option Addr) (l : List Int) : Prop := ∀ j r, l[j]? = some r → ∃ g, A = some ⟨g, 0, none⟩ ∧ g < B ∧ w.cell? ⟨g, j, none⟩ = some (.int .i32 r)
theorem Rd.below {w w' : World} {B : Nat} {A : Option Addr} {l : List Int} (h : Rd w B A l) (hb : Below B w w') : Rd w' B A l := fun j r hr => by
  obtain ⟨g, h1, h2, h3⟩ := h j r hr
  exact ⟨g, h1, h2, (hb.cell (p := ⟨g, j, none⟩) h2).trans h3⟩
theorem Owns.rd {w : World} {base : Nat} {v : Value} {l : List Int} (h : Owns w base v l) : ∃ A c, v = .slice A l.length c ∧ Rd w w.heap.size A l ∧ l.length ≤ c := by
  rcases h.2 with ⟨rfl, h0⟩ | ⟨g, cap, cur, rfl, hg, hh, hc, _⟩
  · have e : l = [] := List.eq_nil_of_length_eq_zero h0
    subst e
    exact ⟨none, 0, rfl, fun j r hr => by simp at hr, by simp⟩
  · have hcell := h.cells (g := g) rfl
    refine ⟨_, cap, rfl, fun j r hr => ⟨g, rfl, (Array.getElem?_eq_some_iff.1 hh).1, ?_⟩, hc⟩
    have := hcell j (.int .i32 r) (by simp [zs, hr])
    have e : (⟨g, 0, none⟩ : Addr).add j = ⟨g, j, none⟩ := by unfold Addr.add; split <;> simp_all
    rw [e] at this
    exact this

theorem max_room (r : Int) : (if width r < 0 then 0 else width r) = room r := by unfold room; split <;> omega

set_option maxRecDepth 100000 in
set_option maxHeartbeats 400000 in
theorem sum_any (l : List Int) (A : Option Addr) (c : Nat) (w : World) (hrd : Rd w w.heap.size A l) (hl : l.length ≤ 1099511627776) :
    Calls Tryd.prog 35 #[.slice A l.length c] w fun e w' => e = .returned (.int .i64 (cols l)) ∧ Below w.heap.size w w' := by
  go_enter Tryd.func35, Tryd.ntmps35
  go_wp2
  go_loopw [3, 4] (fun n i wr => ∃ k : Nat, k ≤ l.length ∧ i = .int .i64 k ∧ n = .int .i64 (cols (l.take k)) ∧ Below w.heap.size w wr) (fun _ i _ => l.length - (intOf i).toNat)
  case atStart => exact ⟨0, Nat.zero_le _, rfl, rfl, Below.refl _ _⟩
  case round =>
    obtain ⟨k, hk, rfl, rfl, hb⟩ := hrel
    by_cases hlt : k < l.length
    · obtain ⟨r, hr⟩ : ∃ r, l[k]? = some r := ⟨_, List.getElem?_eq_getElem hlt⟩
      obtain ⟨g, rfl, hgB, hc⟩ := hrd.below hb k r hr
      have HC := Lib.hid (cols_take_succ hr)
      have hcb := cols_bd (l.take k)
      have hcl : (l.take k).length ≤ k := List.length_take_le _ _
      have hrb := room_bd r
      have hmx := max_room r
      clear hr hrd
      go_wp2_with (go_at_call 19; refine (widthRef_any r _).mono ?_; rintro e w' ⟨rfl, hb'⟩)
      go_roundw
      case rel => exact ⟨k + 1, by omega, by go_num, by rw [HC.out], hb.trans (hb'.mono hb.size)⟩
      case measure => simp [intOf]; omega
    · have HT : Hid (l.take k = l) := by show _ = _; exact List.take_of_length_le (by omega)
      go_wp2
      go_ret
      exact ⟨ret_int (by rw [HT.out]), hb⟩

theorem columnsRef_any (s : ByteArray) (w : World) (hs : s.size ≤ 1099511626000) :
    Calls Tryd.prog 21 #[.string s] w fun e w' => e = .returned (.int .i64 (cols (runes s.data.toList))) ∧ Below w.heap.size w w' := by
  have hr := runesRef_any s w hs
  have hsum : ∀ (v : Value) (w1 : World), Owns w1 w.heap.size v (runes s.data.toList) → Calls Tryd.prog 35 #[v] w1 fun e w' => e = .returned (.int .i64 (cols (runes s.data.toList))) ∧ Below w1.heap.size w1 w' := by
    intro v w1 h
    obtain ⟨A, c, rfl, hrd, _⟩ := Owns.rd h
    exact sum_any _ A c w1 hrd (by have h1 := runes_length s.data.toList; have h2 : s.data.toList.length = s.size := by (rw [Array.length_toList]; rfl)
                                   omega)
  have HS := Lib.hid hsum
  clear hsum
  go_enter Tryd.func21, Tryd.ntmps21
  go_wp2_with (first
    | (go_at_call 17; refine hr.mono ?_; rintro e w1 ⟨v, rfl, hown, hb⟩)
    | (go_at_call 35; refine (HS.out v w1 hown).mono ?_; rintro e w2 ⟨rfl, hb2⟩))
  go_ret
  exact ⟨rfl, hb.trans (hb2.mono hb.size)⟩

set_option maxRecDepth 100000 in
set_option maxHeartbeats 400000 in
/-- Two lists of runes: are they the same? -/
theorem same_any (l k : List Int) (A B : Option Addr) (c d : Nat) (w : World) (ha : Rd w w.heap.size A l) (hb : Rd w w.heap.size B k) (hl : l.length ≤ 1099511627776) :
    Calls Tryd.prog 14 #[.slice A l.length c, .slice B k.length d] w fun e w' => e = .returned (.bool (decide (l = k))) ∧ Below w.heap.size w w' := by
  by_cases hlen : l.length = k.length
  · have hle : ((l.length : Int) == (k.length : Int)) = true := by simp [hlen]
    have HL := Lib.hid hlen
    clear hlen
    go_enter Tryd.func14, Tryd.ntmps14
    go_wp2
    go_loopw [5] (fun i wr => ∃ j : Nat, j ≤ l.length ∧ i = .int .i64 j ∧ Hid (l.take j = k.take j) ∧ Below w.heap.size w wr) (fun i _ => l.length - (intOf i).toNat)
    case atStart => exact ⟨0, Nat.zero_le _, rfl, rfl, Below.refl _ _⟩
    case round =>
      obtain ⟨j, hj, rfl, HT, hbl⟩ := hrel
      by_cases hlt : j < l.length
      · have hlt2 : j < k.length := by have := HL.out; omega
        obtain ⟨x, hx⟩ : ∃ x, l[j]? = some x := ⟨_, List.getElem?_eq_getElem hlt⟩
        obtain ⟨y, hy⟩ : ∃ y, k[j]? = some y := ⟨_, List.getElem?_eq_getElem hlt2⟩
        obtain ⟨g, rfl, _, hc1⟩ := ha.below hbl j x hx
        obtain ⟨g', rfl, _, hc2⟩ := hb.below hbl j y hy
        have i1 : (0 : Int) ≤ (j : Int) := by omega
        have i2 : (j : Int) < (l.length : Int) := by omega
        have i3 : (j : Int) < (k.length : Int) := by omega
        by_cases hxy : x = y
        · have hn : (x != y) = false := by simp [hxy]
          have hnx : (x == y) = true := by simp [hxy]
          have HV : Hid (l.take (j + 1) = k.take (j + 1)) := by show _ = _; rw [take_succ_eq hx, take_succ_eq hy, HT.out, hxy]
          clear hx hy hxy ha hb
          go_wp2
          go_quiet (fail)
          go_wp2
          go_roundw
          case rel => exact ⟨j + 1, by omega, by go_num, HV, below_drewN hbl _⟩
          case measure => simp [intOf]; omega
        · have hn : (x != y) = true := by simp [hxy]
          have hnx : (x == y) = false := by simp [hxy]
          have HV : Hid (decide (l = k) = false) := by
            show _ = _
            rw [decide_eq_false_iff_not]
            intro e
            rw [e, hy] at hx
            injection hx with hx
            exact hxy hx.symm
          clear hx hy hxy ha hb
          go_wp2
          go_quiet (fail)
          go_wp2
          go_ret
          exact ⟨ret_bool HV.out.symm, below_drewN hbl _⟩
      · have HV : Hid (decide (l = k) = true) := by
          show _ = _
          rw [decide_eq_true_iff]
          have h1 := HT.out
          have h2 := HL.out
          rw [List.take_of_length_le (by omega), List.take_of_length_le (by omega)] at h1
          exact h1
        go_wp2
        go_ret
        exact ⟨ret_bool HV.out.symm, hbl⟩
  · have hle : ((l.length : Int) == (k.length : Int)) = false := by rw [beq_eq_false_iff_ne]; omega
    have HN : Hid (decide (l = k) = false) := by show _ = _; rw [decide_eq_false_iff_not]; intro e; exact hlen (by rw [e])
    go_enter Tryd.func14, Tryd.ntmps14
    go_wp2
    go_ret
    exact ⟨ret_bool HN.out.symm, Below.refl _ _⟩
end Go.Proofs.YtmnembhfbboljaaDoor.Cel
