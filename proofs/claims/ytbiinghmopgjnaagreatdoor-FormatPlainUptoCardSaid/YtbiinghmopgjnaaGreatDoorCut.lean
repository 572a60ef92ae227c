/- The walks of the program's first and last columns of a text. -/
import Derived.Test.YtbiinghmopgjnaaGreatDoorCol
namespace Go.Proofs.YtbiinghmopgjnaaGreatDoor.Cel
open Go.RowKit

theorem extract_mk (l : List UInt8) (a b : Nat) : (⟨l.toArray⟩ : ByteArray).extract a b = ⟨((l.take b).drop a).toArray⟩ := by
  apply ByteArray.ext
  rw [ByteArray.data_extract]
  apply Array.ext'
  simp [List.drop_take]
theorem extract_head (ns : List Int) (k : Nat) : (runesBytes ns).extract 0 (bytes (ns.take k)).length = runesBytes (ns.take k) := by
  rw [runesBytes_eq, extract_mk, runesBytes_eq, List.drop_zero]
  have e : bytes ns = bytes (ns.take k) ++ bytes (ns.drop k) := by rw [← bytes_append, List.take_append_drop]
  rw [e, List.take_left']
  rfl
theorem extract_tail (ns : List Int) (k : Nat) : (runesBytes ns).extract (bytes (ns.take k)).length (runesBytes ns).size = runesBytes (ns.drop k) := by
  have e : bytes ns = bytes (ns.take k) ++ bytes (ns.drop k) := by rw [← bytes_append, List.take_append_drop]
  rw [runesBytes_size, runesBytes_eq, extract_mk, runesBytes_eq, List.take_of_length_le (Nat.le_refl _)]
  conv => lhs; rw [e, List.drop_left']
theorem cut_drop {ns : List Int} {k : Nat} {r : Int} (h : ns[k]? = some r) (n : Int) :
    cut (ns.drop k) n = if room r ≤ n then r :: cut (ns.drop (k + 1)) (n - room r) else [] := by
  obtain ⟨hk, e⟩ := List.getElem?_eq_some_iff.1 h
  rw [List.drop_eq_getElem_cons hk, e]
  rfl
theorem cutLeft_drop {ns : List Int} {k : Nat} {r : Int} (h : ns[k]? = some r) (n : Int) :
    cutLeft (ns.drop k) n = if cols (ns.drop k) ≤ n then ns.drop k else cutLeft (ns.drop (k + 1)) n := by
  obtain ⟨hk, e⟩ := List.getElem?_eq_some_iff.1 h
  rw [List.drop_eq_getElem_cons hk, e]
  rfl
theorem cols_drop {ns : List Int} {k : Nat} {r : Int} (h : ns[k]? = some r) : cols (ns.drop k) = room r + cols (ns.drop (k + 1)) := by
  obtain ⟨hk, e⟩ := List.getElem?_eq_some_iff.1 h
  rw [List.drop_eq_getElem_cons hk, e]
  rfl
theorem take_succ_eq {ns : List Int} {k : Nat} {r : Int} (h : ns[k]? = some r) : ns.take (k + 1) = ns.take k ++ [r] := by
  obtain ⟨hk, e⟩ := List.getElem?_eq_some_iff.1 h
  rw [List.take_succ_eq_append_getElem hk, e]

set_option maxRecDepth 100000 in
set_option maxHeartbeats 400000 in
theorem cut_any (s : ByteArray) (n : Int) (w : World) (ht : Tabs w) (hlow : low ≤ w.heap.size) (hs : s.size ≤ 268435456) :
    Calls Tryz.prog 67 #[.string s, .int .i64 n] w fun e w' => e = .returned (.string (runesBytes (cut (runes s.data.toList) n))) ∧ Below w.heap.size w w' := by
  have hg := mended_any s w ht hlow (by omega)
  have hgood := runes_good s.data.toList
  have hlen := runes_length s.data.toList
  have hsz : s.data.toList.length = s.size := by rw [Array.length_toList]; rfl
  rw [hsz] at hlen
  clear hsz
  generalize runes s.data.toList = ns at *
  have HG := Lib.hid hgood
  clear hgood
  go_enter Tryz.func67, Tryz.ntmps67
  go_wp2_with (go_at_call 91; refine hg.mono ?_; rintro e w1 ⟨rfl, hb1⟩; have hs1 := hb1.size)
  go_loopw [6] (fun m wr => ∃ k : Nat, k ≤ ns.length ∧ m = .int .i64 (cols (ns.take k)) ∧ Hid (cut ns n = ns.take k ++ cut (ns.drop k) (n - cols (ns.take k))) ∧ Iter wr w1.heap.size ns k ∧ Below w.heap.size w wr) (fun _ wr => (bytes ns).length - wr.iterPos w1.heap.size)
  case atStart => exact ⟨0, Nat.zero_le _, by simp [cols], by show cut ns n = _; simp [cols], Iter.new _ _, hb1.alloc hs1 _⟩
  case round =>
    obtain ⟨k, hk, rfl, HX, hI, hb⟩ := hrel
    have hil := hI.lt
    have hbs := hb.size
    by_cases hlt : k < ns.length
    · obtain ⟨r, w2, hr, hgr, hnx, hI2, hk2, hp1, hp2⟩ := iter_next HG.out hI hlt
      have hcb := cols_bd (ns.take k)
      have hcl : (ns.take k).length ≤ k := List.length_take_le _ _
      have hrb := room_bd r
      have hm1 : wr.iterPos w1.heap.size = (bytes (ns.take k)).length := hI.pos
      have HM := Lib.hid hm1
      clear hm1
      have hb2 : Below w.heap.size w w2 := hb.trans (hk2.below hbs fun i hi e => by omega)
      have HC := Lib.hid (cols_take_succ hr)
      have HD := Lib.hid (cut_drop hr (n - cols (ns.take k)))
      have HT := Lib.hid (take_succ_eq hr)
      have hps : (bytes (ns.take k)).length ≤ (runesBytes ns).size := by rw [runesBytes_size]; omega
      clear hr
      have hroom := room_any r w2 (ht.below hb2 hlow) (by unfold good at hgr; omega) (by unfold good at hgr; omega)
      by_cases hcut : n < cols (ns.take k) + room r
      · have HR : Hid (cut ns n = ns.take k) := by show _ = _; rw [HX.out, HD.out, if_neg (by omega), List.append_nil]
        go_wp2_with (go_at_call 92; refine hroom.mono ?_; rintro e w3 ⟨rfl, hb3⟩)
        go_ret
        exact ⟨ret_str (by rw [HR.out, ← extract_head]), hb2.trans (hb3.mono hb2.size)⟩
      · go_wp2_with (go_at_call 92; refine hroom.mono ?_; rintro e w3 ⟨rfl, hb3⟩)
        go_roundw
        case rel =>
          refine ⟨k + 1, by omega, by rw [HC.out], ?_, hI2.below hb3 hI2.lt, hb2.trans (hb3.mono hb2.size)⟩
          show _ = _
          rw [HX.out, HD.out, if_pos (by omega), HC.out, HT.out, List.append_assoc]
          have e : n - cols (ns.take k) - room r = n - (cols (ns.take k) + room r) := by omega
          rw [e]
          rfl
        case measure =>
          rw [(hI2.below hb3 hI2.lt).pos, HM.out]
          omega
    · have hnx := iter_end hI hlt
      have HT : Hid (cut ns n = ns) := by
        show _ = _
        rw [HX.out, List.take_of_length_le (by omega), List.drop_of_length_le (by omega)]
        simp [cut]
      go_wp2
      go_ret
      exact ⟨ret_str (by rw [HT.out]), hb⟩

set_option maxRecDepth 100000 in
set_option maxHeartbeats 400000 in
theorem cutLeft_any (s : ByteArray) (n : Int) (w : World) (ht : Tabs w) (hlow : low ≤ w.heap.size) (hs : s.size ≤ 268435456) :
    Calls Tryz.prog 66 #[.string s, .int .i64 n] w fun e w' => e = .returned (.string (runesBytes (cutLeft (runes s.data.toList) n))) ∧ Below w.heap.size w w' := by
  have hg := mended_any s w ht hlow (by omega)
  have hgood := runes_good s.data.toList
  have hlen := runes_length s.data.toList
  have hsz : s.data.toList.length = s.size := by rw [Array.length_toList]; rfl
  rw [hsz] at hlen
  clear hsz
  generalize runes s.data.toList = ns at *
  have hcols : ∀ w1 : World, Below w.heap.size w w1 → Calls Tryz.prog 69 #[.string (runesBytes ns)] w1 fun e w' => e = .returned (.int .i64 (cols ns)) ∧ Below w1.heap.size w1 w' := fun w1 hb1 => by
    have h := columns_any (runesBytes ns) w1 (ht.below hb1 hlow) (Nat.le_trans hlow hb1.size) (by have := (bytes_length ns hgood).2; rw [runesBytes_size]; omega)
    rw [runesBytes_list, runes_bytes ns hgood] at h
    exact h
  have HCO := Lib.hid hcols
  clear hcols
  have HG := Lib.hid hgood
  clear hgood
  go_enter Tryz.func66, Tryz.ntmps66
  go_wp2_with (first
    | (go_at_call 91; refine hg.mono ?_; rintro e w0 ⟨rfl, hb0⟩)
    | (go_at_call 69; refine (HCO.out w0 hb0).mono ?_; rintro e w1 ⟨rfl, hb01⟩; have hb1 := hb0.trans (hb01.mono hb0.size); have hs1 := hb1.size))
  go_loopw [6] (fun m wr => ∃ k : Nat, k ≤ ns.length ∧ m = .int .i64 (cols (ns.drop k)) ∧ Hid (cutLeft ns n = cutLeft (ns.drop k) n) ∧ Iter wr w1.heap.size ns k ∧ Below w.heap.size w wr) (fun _ wr => (bytes ns).length - wr.iterPos w1.heap.size)
  case atStart => exact ⟨0, Nat.zero_le _, rfl, rfl, Iter.new _ _, hb1.alloc hs1 _⟩
  case round =>
    obtain ⟨k, hk, rfl, HX, hI, hb⟩ := hrel
    have hil := hI.lt
    have hbs := hb.size
    by_cases hlt : k < ns.length
    · obtain ⟨r, w2, hr, hgr, hnx, hI2, hk2, hp1, hp2⟩ := iter_next HG.out hI hlt
      have hcb := cols_bd (ns.drop k)
      have hcl : (ns.drop k).length ≤ ns.length := by rw [List.length_drop]; omega
      have hrb := room_bd r
      have hm1 : wr.iterPos w1.heap.size = (bytes (ns.take k)).length := hI.pos
      have HM := Lib.hid hm1
      clear hm1
      have hb2 : Below w.heap.size w w2 := hb.trans (hk2.below hbs fun i hi e => by omega)
      have HC := Lib.hid (cols_drop hr)
      have HD := Lib.hid (cutLeft_drop hr n)
      have hps : (bytes (ns.take k)).length ≤ (runesBytes ns).size := by rw [runesBytes_size]; omega
      clear hr
      have hroom := room_any r w2 (ht.below hb2 hlow) (by unfold good at hgr; omega) (by unfold good at hgr; omega)
      by_cases hcut : cols (ns.drop k) ≤ n
      · have HR : Hid (cutLeft ns n = ns.drop k) := by show _ = _; rw [HX.out, HD.out, if_pos hcut]
        go_wp2
        go_ret
        exact ⟨ret_str (by rw [HR.out, ← extract_tail]), hb2⟩
      · go_wp2_with (go_at_call 92; refine hroom.mono ?_; rintro e w3 ⟨rfl, hb3⟩)
        go_roundw
        case rel =>
          refine ⟨k + 1, by omega, ?_, ?_, hI2.below hb3 hI2.lt, hb2.trans (hb3.mono hb2.size)⟩
          · have e : cols (ns.drop k) - room r = cols (ns.drop (k + 1)) := by rw [HC.out]; omega
            rw [← e]
          · show _ = _
            rw [HX.out, HD.out, if_neg (by omega)]
        case measure =>
          rw [(hI2.below hb3 hI2.lt).pos, HM.out]
          omega
    · have hnx := iter_end hI hlt
      have HT : Hid (cutLeft ns n = []) := by
        show _ = _
        rw [HX.out, List.drop_of_length_le (by omega)]
        rfl
      go_wp2
      go_ret
      exact ⟨ret_str (by rw [HT.out]; rfl), hb⟩
end Go.Proofs.YtbiinghmopgjnaaGreatDoor.Cel
