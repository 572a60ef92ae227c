/- The walks of the document's answer to layer 1: first and last columns, fills. -/
import Derived.Test.YtmnembhfbboljaaDoorRefc
import Derived.Test.YtmnembhfbboljaaDoorFit
namespace Go.Proofs.YtmnembhfbboljaaDoor.Cel
open Go.RowKit

/-- The first k runes of a list, written as a text. -/
theorem Rd.conv {w : World} {B : Nat} {A : Option Addr} {l : List Int} (h : Rd w B A l) {k : Nat} (hk : k ≤ l.length) (c : Nat) :
    (convert 27 9 (.slice A k c)).run Tryd.prog w = .ok (.string (runesBytes (l.take k))) w := by
  by_cases h0 : 0 < l.length
  · obtain ⟨g, rfl, _, _⟩ := h 0 _ (List.getElem?_eq_getElem h0)
    refine run_convert_runes (P := Tryd.prog) w 27 9 21 ⟨g, 0, none⟩ k c l hk Tryd.underlying27 Tryd.underlying21 Tryd.underlying9 fun j hj => ?_
    obtain ⟨g', e, _, hc⟩ := h j _ (List.getElem?_eq_getElem hj)
    injection e with e
    injection e with e
    subst e
    have e2 : (⟨g, 0, none⟩ : Addr).add j = ⟨g, j, none⟩ := by unfold Addr.add; split <;> simp_all
    rw [e2, hc]
    simp [List.getD, List.getElem?_eq_getElem hj]
  · have e : l = [] := List.eq_nil_of_length_eq_zero (by omega)
    have e2 : k = 0 := by omega
    subst e; subst e2
    rcases A with _ | a
    · exact run_convert_runes_nil (P := Tryd.prog) w _ _ 21 0 c Tryd.underlying27 Tryd.underlying21 Tryd.underlying9
    · exact run_convert_runes (P := Tryd.prog) w 27 9 21 a 0 c [] (by simp) Tryd.underlying27 Tryd.underlying21 Tryd.underlying9 fun j hj => by simp at hj

/-- What is behind the first k runes, written as a text. -/
theorem Rd.convTail {w : World} {B g : Nat} {l : List Int} (h : Rd w B (some ⟨g, 0, none⟩) l) (k c : Nat) :
    (convert 27 9 (.slice (some ⟨g, k, none⟩) (l.length - k) c)).run Tryd.prog w = .ok (.string (runesBytes (l.drop k))) w := by
  have hl : l.length - k = (l.drop k).length := by simp
  have hr := run_convert_runes (P := Tryd.prog) w 27 9 21 ⟨g, k, none⟩ (l.length - k) c (l.drop k) (by omega) Tryd.underlying27 Tryd.underlying21 Tryd.underlying9 fun j hj => by
    have hj2 : k + j < l.length := by rw [List.length_drop] at hj; omega
    obtain ⟨g', e, _, hc⟩ := h (k + j) _ (List.getElem?_eq_getElem hj2)
    injection e with e
    injection e with e
    subst e
    have e2 : (⟨g, k, none⟩ : Addr).add j = ⟨g, k + j, none⟩ := by unfold Addr.add; split <;> simp_all
    rw [e2, hc]
    simp [List.getD, List.getElem?_eq_getElem hj2]
  rw [hl, List.take_length, ← hl] at hr
  exact hr
theorem conv_none (w : World) (a : Addr) (c : Nat) : (convert 27 9 (.slice (some a) 0 c)).run Tryd.prog w = .ok (.string (runesBytes [])) w :=
  run_convert_runes (P := Tryd.prog) w 27 9 21 a 0 c [] (by simp) Tryd.underlying27 Tryd.underlying21 Tryd.underlying9 fun j hj => by simp at hj

set_option maxRecDepth 100000 in
set_option maxHeartbeats 1000000 in
theorem cutRef_any (s : ByteArray) (n : Int) (w : World) (hs : s.size ≤ 268435456) :
    Calls Tryd.prog 23 #[.string s, .int .i64 n] w fun e w' => e = .returned (.string (runesBytes (cut (runes s.data.toList) n))) ∧ Below w.heap.size w w' := by
  have hr := runesRef_any s w (by omega)
  have hlen := runes_length s.data.toList
  have hsz : s.data.toList.length = s.size := by rw [Array.length_toList]; rfl
  rw [hsz] at hlen
  clear hsz
  generalize runes s.data.toList = ns at *
  go_enter Tryd.func23, Tryd.ntmps23
  go_wp2_with (go_at_call 17; refine hr.mono ?_; rintro e w1 ⟨v, rfl, hown, hb1⟩; obtain ⟨A, c, rfl, hrd, hc⟩ := Owns.rd hown; clear hown; have hs1 := hb1.size)
  go_loopw [6, 7] (fun i m wr => ∃ k : Nat, k ≤ ns.length ∧ i = .int .i64 k ∧ m = .int .i64 (cols (ns.take k)) ∧ Hid (cut ns n = ns.take k ++ cut (ns.drop k) (n - cols (ns.take k))) ∧ Below w1.heap.size w1 wr) (fun i _ _ => ns.length - (intOf i).toNat)
  case atStart => exact ⟨0, Nat.zero_le _, rfl, rfl, by show cut ns n = _; simp [cols], Below.refl _ _⟩
  case round =>
    obtain ⟨k, hk, rfl, rfl, HX, hb⟩ := hrel
    have hbw : Below w.heap.size w wr := hb1.trans (hb.mono hs1)
    by_cases hlt : k < ns.length
    · have hrd1 := hrd.below hb
      have HRD := Lib.hid hrd1
      obtain ⟨r, hr⟩ : ∃ r, ns[k]? = some r := ⟨_, List.getElem?_eq_getElem hlt⟩
      obtain ⟨g, rfl, hgB, hc1⟩ := hrd1 k r hr
      have HC := Lib.hid (cols_take_succ hr)
      have HD := Lib.hid (cut_drop hr (n - cols (ns.take k)))
      have HT := Lib.hid (take_succ_eq hr)
      have hcb := cols_bd (ns.take k)
      have hcl : (ns.take k).length ≤ k := List.length_take_le _ _
      have hrb := room_bd r
      have hmx := max_room r
      have hmx2 : max (width r) 0 = room r := rfl
      have i1 : (0 : Int) ≤ (k : Int) := by omega
      have i2 : (k : Int) < (ns.length : Int) := by omega
      clear hr hrd hrd1
      by_cases hcut : cols (ns.take k) + room r ≤ n
      · go_wp2_with fail
        refine (widthRef_any r _).mono ?_
        rintro e w2 ⟨rfl, hb2⟩
        have hc2 := (hb2.cell (p := ⟨g, k, none⟩) (Nat.lt_of_lt_of_le hgB hb.size)).trans hc1
        go_wp2_with fail
        refine (widthRef_any r _).mono ?_
        rintro e w3 ⟨rfl, hb3⟩
        go_wp2_with fail
        go_roundw
        case rel =>
          refine ⟨k + 1, by omega, by go_num, by rw [HC.out], ?_, hb.trans ((hb2.trans (hb3.mono hb2.size)).mono hb.size)⟩
          show _ = _
          rw [HX.out, HD.out, if_pos (by omega), HC.out, HT.out, List.append_assoc]
          have e : n - cols (ns.take k) - room r = n - (cols (ns.take k) + room r) := by omega
          rw [e]
          rfl
        case measure => simp [intOf]; omega
      · have HR : Hid (cut ns n = ns.take k) := by show _ = _; rw [HX.out, HD.out, if_neg (by omega), List.append_nil]
        go_wp2_with fail
        refine (widthRef_any r _).mono ?_
        rintro e w2 ⟨rfl, hb2⟩
        have hcv := (HRD.out.below (hb2.mono hb.size)).conv hk c
        go_wp2_with fail
        go_ret
        exact ⟨ret_str (by rw [HR.out]), hb1.trans ((hb.trans (hb2.mono hb.size)).mono hs1)⟩
    · have hcv := (hrd.below hb).conv hk c
      have HR : Hid (cut ns n = ns.take k) := by show _ = _; rw [HX.out, List.drop_of_length_le (by omega)]; simp [cut]
      go_wp2
      go_ret
      exact ⟨ret_str (by rw [HR.out]), hbw⟩

theorem cutLeft_at {ns : List Int} {n : Int} : ∀ {k : Nat}, k ≤ ns.length → (0 < k → n < cols (ns.drop (k - 1))) → (k = ns.length ∨ cols (ns.drop k) ≤ n) → cutLeft ns n = ns.drop k := by
  induction ns with
  | nil => intro k _ _ _; simp [cutLeft]
  | cons r l ih =>
    intro k hk h1 h2
    cases k with
    | zero =>
      rcases h2 with h2 | h2
      · simp at h2
      · unfold cutLeft
        rw [List.drop_zero] at h2 ⊢
        rw [if_pos h2]
    | succ k =>
      have h3 := h1 (by omega)
      rw [Nat.add_sub_cancel] at h3
      have hbig : n < cols (r :: l) := by
        have e : r :: l = (r :: l).take k ++ (r :: l).drop k := (List.take_append_drop _ _).symm
        rw [e, cols_append]
        have := (cols_bd ((r :: l).take k)).1
        omega
      unfold cutLeft
      rw [if_neg (by omega), List.drop_succ_cons]
      refine ih (by simpa using hk) (fun h0 => ?_) ?_
      · obtain ⟨m, rfl⟩ : ∃ m, k = m + 1 := ⟨k - 1, by omega⟩
        simpa using h3
      · rcases h2 with h2 | h2
        · left; simpa using h2
        · right; simpa using h2

set_option maxRecDepth 100000 in
set_option maxHeartbeats 1000000 in
theorem cutLeftRef_any (s : ByteArray) (n : Int) (w : World) (hs : s.size ≤ 268435456) :
    Calls Tryd.prog 25 #[.string s, .int .i64 n] w fun e w' => e = .returned (.string (runesBytes (cutLeft (runes s.data.toList) n))) ∧ Below w.heap.size w w' := by
  have hr := runesRef_any s w (by omega)
  have hlen := runes_length s.data.toList
  have hsz : s.data.toList.length = s.size := by rw [Array.length_toList]; rfl
  rw [hsz] at hlen
  clear hsz
  generalize runes s.data.toList = ns at *
  go_enter Tryd.func25, Tryd.ntmps25
  go_wp2_with (go_at_call 17; refine hr.mono ?_; rintro e w1 ⟨v, rfl, hown, hb1⟩; obtain ⟨A, c, rfl, hrd, hc⟩ := Owns.rd hown; clear hown; have hs1 := hb1.size)
  go_loopw [6, 7] (fun i m wr => ∃ k : Nat, k ≤ ns.length ∧ i = .int .i64 k ∧ m = .int .i64 (cols (ns.drop k)) ∧ Hid (k = ns.length ∨ cols (ns.drop k) ≤ n) ∧ Below w1.heap.size w1 wr) (fun i _ _ => (intOf i).toNat)
  case atStart => exact ⟨ns.length, Nat.le_refl _, rfl, by simp [cols], .inl rfl, Below.refl _ _⟩
  case round =>
    obtain ⟨k, hk, rfl, rfl, HX, hb⟩ := hrel
    have hbw : Below w.heap.size w wr := hb1.trans (hb.mono hs1)
    by_cases hlt : 0 < k
    · have hrd1 := hrd.below hb
      have HRD := Lib.hid hrd1
      obtain ⟨r, hr⟩ : ∃ r, ns[k - 1]? = some r := ⟨_, List.getElem?_eq_getElem (by omega)⟩
      obtain ⟨g, rfl, hgB, hc1⟩ := hrd1 (k - 1) r hr
      have hcd := cols_drop hr
      have ek : k - 1 + 1 = k := by omega
      rw [ek] at hcd
      have HC := Lib.hid hcd
      have hcb := cols_bd (ns.drop k)
      have hcl : (ns.drop k).length ≤ ns.length := by rw [List.length_drop]; omega
      have hrb := room_bd r
      have hmx := max_room r
      have hmx2 : max (width r) 0 = room r := rfl
      have i1 : (0 : Int) ≤ (k : Int) - 1 := by omega
      have i2 : (k : Int) - 1 < (ns.length : Int) := by omega
      clear hr hrd hrd1 hcd ek
      by_cases hcut : cols (ns.drop k) + room r ≤ n
      · go_wp2_with fail
        refine (widthRef_any r _).mono ?_
        rintro e w2 ⟨rfl, hb2⟩
        have hc2 := (hb2.cell (p := ⟨g, k - 1, none⟩) (Nat.lt_of_lt_of_le hgB hb.size)).trans hc1
        go_wp2_with fail
        refine (widthRef_any r _).mono ?_
        rintro e w3 ⟨rfl, hb3⟩
        go_wp2_with fail
        go_roundw
        case rel =>
          refine ⟨k - 1, by omega, ?_, ?_, .inr ?_, hb.trans ((hb2.trans (hb3.mono hb2.size)).mono hb.size)⟩
          · have e : ((k - 1 : Nat) : Int) = (k : Int) - 1 := by omega
            rw [e]
          · rw [HC.out, Int.add_comm]
          · rw [HC.out]; omega
        case measure => simp [intOf]; omega
      · have HR : Hid (cutLeft ns n = ns.drop k) := by
          show _ = _
          exact cutLeft_at hk (fun _ => by rw [HC.out]; omega) HX.out
        go_wp2_with fail
        refine (widthRef_any r _).mono ?_
        rintro e w2 ⟨rfl, hb2⟩
        have hrd2 := HRD.out.below (hb2.mono hb.size)
        have hfin := hb1.trans ((hb.trans (hb2.mono hb.size)).mono hs1)
        by_cases hcap : c = k
        · have hkl : ns.length - k = 0 := by omega
          have hdn : ns.drop k = [] := List.drop_of_length_le (by omega)
          have HE : Hid (cutLeft ns n = []) := by show _ = _; rw [HR.out, hdn]
          have hcv := conv_none w2 ⟨g, 0, none⟩ 0
          clear hdn
          subst hcap
          go_wp2_with fail
          go_ret
          exact ⟨ret_str (by rw [HE.out]), hfin⟩
        · have hcv := hrd2.convTail k (c - k)
          go_wp2_with fail
          go_ret
          exact ⟨ret_str (by rw [HR.out]), hfin⟩
    · obtain rfl : k = 0 := by omega
      have HR : Hid (cutLeft ns n = ns) := by
        show _ = _
        have h := cutLeft_at (n := n) hk (fun h => absurd h (by omega)) HX.out
        rw [List.drop_zero] at h
        exact h
      have hcv := (hrd.below hb).conv (Nat.le_refl ns.length) c
      rw [List.take_length] at hcv
      go_wp2
      go_ret
      exact ⟨ret_str (by rw [HR.out]), hbw⟩
end Go.Proofs.YtmnembhfbboljaaDoor.Cel
