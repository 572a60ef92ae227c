/- The walks of the program's columns of a text, and of its first columns. -/
import Derived.Test.YtbiinghmopgjnaaGreatDoorTak
namespace Go.Proofs.YtbiinghmopgjnaaGreatDoor.Cel
open Go.RowKit

theorem size_mk (l : List UInt8) : (⟨l.toArray⟩ : ByteArray).size = l.length := by show l.toArray.size = _; simp
theorem runesBytes_size (ns : List Int) : (runesBytes ns).size = (bytes ns).length := by rw [runesBytes_eq, size_mk]
/-- The iterator over a text of runes, so many runes on. -/
def Iter (w : World) (I : Nat) (ns : List Int) (k : Nat) : Prop := w.heap[I]? = some (.stringIter (runesBytes ns) (bytes (ns.take k)).length)
theorem Iter.lt {w : World} {I : Nat} {ns : List Int} {k : Nat} (h : Iter w I ns k) : I < w.heap.size := (Array.getElem?_eq_some_iff.1 h).1
theorem Iter.below {w w' : World} {I B : Nat} {ns : List Int} {k : Nat} (h : Iter w I ns k) (hb : Below B w w') (hB : I < B) : Iter w' I ns k := (hb.block I hB).trans h
theorem Iter.pos {w : World} {I : Nat} {ns : List Int} {k : Nat} (h : Iter w I ns k) : w.iterPos I = (bytes (ns.take k)).length := iterPos_of h
theorem Iter.new (w : World) (ns : List Int) : Iter (w.iter (runesBytes ns) 0) w.heap.size ns 0 := by unfold Iter; simpa [bytes] using World.iter_heap w (runesBytes ns) 0
theorem bytes_take_succ {ns : List Int} {k : Nat} {r : Int} (h : ns[k]? = some r) : bytes (ns.take (k + 1)) = bytes (ns.take k) ++ enc r := by
  obtain ⟨hk, e⟩ := List.getElem?_eq_some_iff.1 h
  rw [List.take_succ_eq_append_getElem hk, e, bytes_append, bytes_cons]
  simp [bytes]
theorem bytes_split {ns : List Int} {k : Nat} {r : Int} (h : ns[k]? = some r) : bytes ns = bytes (ns.take k) ++ (enc r ++ bytes (ns.drop (k + 1))) := by
  obtain ⟨hk, e⟩ := List.getElem?_eq_some_iff.1 h
  rw [← bytes_cons, ← bytes_append, ← e, ← List.drop_eq_getElem_cons hk, List.take_append_drop]
theorem cols_take_succ {ns : List Int} {k : Nat} {r : Int} (h : ns[k]? = some r) : cols (ns.take (k + 1)) = cols (ns.take k) + room r := by
  obtain ⟨hk, e⟩ := List.getElem?_eq_some_iff.1 h
  rw [List.take_succ_eq_append_getElem hk, e, cols_append]
  simp [cols]

/-- The range's next rune. -/
theorem iter_next {w : World} {I : Nat} {ns : List Int} {k : Nat} (hg : ∀ r ∈ ns, good r) (hI : Iter w I ns k) (hk : k < ns.length) : ∃ r w2, ns[k]? = some r ∧ good r ∧
    (∀ ty, (Instr.next (.pointer (some ⟨I, 0, none⟩)) true ty).run Tryz.prog w = .ok (.tuple #[.bool true, .int .i64 (bytes (ns.take k)).length, .int .i32 r]) w2) ∧
    Iter w2 I ns (k + 1) ∧ Kept w w2 (fun j => j = I) ∧ (bytes (ns.take k)).length < (bytes (ns.take (k + 1))).length ∧ (bytes (ns.take (k + 1))).length ≤ (bytes ns).length := by
  have hr : ns[k]? = some ns[k] := List.getElem?_eq_getElem hk
  have hgr : good ns[k] := hg _ (List.getElem_mem hk)
  generalize ns[k] = r at hr hgr
  have hl := enc_length hgr
  have hs := bytes_take_succ hr
  have hsp := bytes_split hr
  have hd := decode_at hgr (bytes (ns.take k)) (bytes (ns.drop (k + 1)))
  rw [← hsp, ← runesBytes_eq] at hd
  have hlen : (bytes ns).length = (bytes (ns.take k)).length + ((enc r).length + (bytes (ns.drop (k + 1))).length) := by rw [hsp]; simp
  have hp : (bytes (ns.take k)).length < (runesBytes ns).size := by rw [runesBytes_size]; omega
  refine ⟨r, w.iterAt I (runesBytes ns) (bytes (ns.take (k + 1))).length, hr, hgr, fun ty => ?_, ?_, ⟨rfl, rfl, rfl, by simp [World.iterAt], fun j _ hj => Lib.iterAt_other w I j _ _ hj⟩, by rw [hs, List.length_append]; omega, by rw [hs, List.length_append]; omega⟩
  · have h := Lib.run_next_any_at (P := Tryz.prog) w I (runesBytes ns) (bytes (ns.take k)).length ty hI hp
    rw [hd] at h
    have e : ((r.toNat : Nat) : Int) = r := by unfold good at hgr; omega
    simp only [e] at h
    rw [h, hs, List.length_append]
  · exact Lib.iterAt_heap w I _ _ _ hI
theorem iter_end {w : World} {I : Nat} {ns : List Int} {k : Nat} (hI : Iter w I ns k) (hk : ¬ k < ns.length) (ty : TypeId) :
    (Instr.next (.pointer (some ⟨I, 0, none⟩)) true ty).run Tryz.prog w = .ok (.tuple #[.bool false]) w := by
  have e : ns.take k = ns := List.take_of_length_le (by omega)
  unfold Iter at hI
  rw [e] at hI
  exact Lib.run_next_end_at (P := Tryz.prog) w I _ _ ty hI (by rw [runesBytes_size]; omega)

set_option maxRecDepth 100000 in
set_option maxHeartbeats 400000 in
theorem columns_any (s : ByteArray) (w : World) (ht : Tabs w) (hlow : low ≤ w.heap.size) (hs : s.size ≤ 1099511626000) :
    Calls Tryz.prog 69 #[.string s] w fun e w' => e = .returned (.int .i64 (cols (runes s.data.toList))) ∧ Below w.heap.size w w' := by
  have hg := mended_any s w ht hlow hs
  have hgood := runes_good s.data.toList
  have hlen := runes_length s.data.toList
  have hsz : s.data.toList.length = s.size := by rw [Array.length_toList]; rfl
  rw [hsz] at hlen
  clear hsz
  generalize runes s.data.toList = ns at *
  have HG := Lib.hid hgood
  clear hgood
  go_enter Tryz.func69, Tryz.ntmps69
  go_wp2_with (go_at_call 91; refine hg.mono ?_; rintro e w1 ⟨rfl, hb1⟩; have hs1 := hb1.size)
  go_loopw [3] (fun n wr => ∃ k : Nat, k ≤ ns.length ∧ n = .int .i64 (cols (ns.take k)) ∧ Iter wr w1.heap.size ns k ∧ Below w.heap.size w wr) (fun _ wr => (bytes ns).length - wr.iterPos w1.heap.size)
  case atStart => exact ⟨0, Nat.zero_le _, by simp [cols], Iter.new _ _, hb1.alloc hs1 _⟩
  case round =>
    obtain ⟨k, hk, rfl, hI, hb⟩ := hrel
    have hil := hI.lt
    have hbs := hb.size
    by_cases hlt : k < ns.length
    · obtain ⟨r, w2, hr, hgr, hnx, hI2, hk2, hp1, hp2⟩ := iter_next HG.out hI hlt
      have hcb := cols_bd (ns.take k)
      have hcl : (ns.take k).length ≤ k := List.length_take_le _ _
      have hrb := room_bd r
      have hm1 : wr.iterPos w1.heap.size = (bytes (ns.take k)).length := hI.pos
      have HM := Lib.hid hm1
      clear hm1
      have hb2 : Below w.heap.size w w2 := hb.trans (hk2.below hbs fun i hi e => by omega)
      have HC := Lib.hid (cols_take_succ hr)
      clear hr
      have hroom := room_any r w2 (ht.below hb2 hlow) (by unfold good at hgr; omega) (by unfold good at hgr; omega)
      go_wp2_with (go_at_call 92; refine hroom.mono ?_; rintro e w3 ⟨rfl, hb3⟩)
      go_roundw
      case rel => exact ⟨k + 1, by omega, by rw [HC.out], hI2.below hb3 hI2.lt, hb2.trans (hb3.mono hb2.size)⟩
      case measure =>
        rw [(hI2.below hb3 hI2.lt).pos, HM.out]
        omega
    · have hnx := iter_end hI hlt
      have HT : Hid (ns.take k = ns) := by show _ = _; exact List.take_of_length_le (by omega)
      go_wp2
      go_ret
      exact ⟨ret_int (by rw [HT.out]), hb⟩
end Go.Proofs.YtbiinghmopgjnaaGreatDoor.Cel
