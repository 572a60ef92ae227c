/- The walk of the document's answer to layer 1: a text filled to its width. -/
import Derived.Test.YtmnembhfbboljaaDoorRefd
namespace Go.Proofs.YtmnembhfbboljaaDoor.Cel
open Go.RowKit

def u8s (l : List UInt8) : List Value := l.map fun b => Value.int .u8 (b.toNat : Int)
/-- The slice v holds just these bytes, in a row of the call's own (marked behind its end, or not). -/
def OwnsB (w : World) (base : Nat) (v : Value) (l : List UInt8) : Prop :=
  ∃ g cap cur fz, v = .slice (some ⟨g, 0, none⟩) l.length cap ∧ base ≤ g ∧ w.heap[g]? = some (.cells cur 5 fz) ∧ cap ≤ cur.size ∧ l.length ≤ cap ∧ (fz = (0, 0) ∨ cur.size ≤ fz.1) ∧ cur.toList.take l.length = u8s l

theorem OwnsB.below {w w' : World} {base B : Nat} {v : Value} {l : List UInt8} (h : OwnsB w base v l) (hb : Below B w w') (hB : w.heap.size ≤ B) : OwnsB w' base v l := by
  obtain ⟨g, cap, cur, fz, h1, h2, h3, h4⟩ := h
  exact ⟨g, cap, cur, fz, h1, h2, (hb.block g (Nat.lt_of_lt_of_le (Array.getElem?_eq_some_iff.1 h3).1 hB)).trans h3, h4⟩

/-- '[]byte(s)'. -/
theorem bytes_of (w : World) (s : ByteArray) : ∃ v W, (convert 9 56 (.string s)).run Tryd.prog w = .ok v W ∧ OwnsB W w.heap.size v s.data.toList ∧ Below w.heap.size w W := by
  have hr := run_bytes_of_string (P := Tryd.prog) w 9 56 5 s Tryd.underlying9 Tryd.underlying56 Tryd.underlying5
  have hsz : s.data.toList.length = s.size := by rw [Array.length_toList]; rfl
  have hge := grownCap_ge w s.size 0 5
  refine ⟨_, _, hr, ⟨w.heap.size, _, _, _, by rw [hsz], Nat.le_refl _, heap_alloc_new _ _, ?_, by rw [hsz]; exact hge, .inr (Nat.le_refl _), ?_⟩, (Below.refl _ _).drew.alloc (Nat.le_refl _) _⟩
  · simp only [bytesRow, Array.size_append, Array.size_map, Array.size_replicate]
    have : s.data.size = s.size := rfl
    omega
  · simp only [bytesRow, Array.toList_append, Array.toList_map]
    rw [List.take_left']
    · rfl
    · simp

theorem OwnsB.cells {w : World} {base : Nat} {v : Value} {l : List UInt8} (h : OwnsB w base v l) (c : Nat) (A : Option Addr) (hv : v = .slice A l.length c) :
    (convert 56 9 v).run Tryd.prog w = .ok (.string ⟨l.toArray⟩) w := by
  obtain ⟨g, cap, cur, fz, rfl, h2, h3, h4, h5, h6, h7⟩ := h
  refine run_convert_bytes_back (P := Tryd.prog) w 56 9 5 ⟨g, 0, none⟩ cap l Tryd.underlying56 Tryd.underlying5 Tryd.underlying9 fun j hj => ?_
  have e2 : (⟨g, 0, none⟩ : Addr).add j = ⟨g, j, none⟩ := by unfold Addr.add; split <;> simp_all
  rw [e2, cell_of_row w g j cur _ fz h3]
  have h8 : (cur.toList.take l.length)[j]? = (u8s l)[j]? := by rw [h7]
  rw [List.getElem?_take, if_pos hj] at h8
  rw [← Array.getElem?_toList, h8]
  simp [u8s, List.getElem?_eq_getElem hj]

theorem setCell_heap {w : World} {g i : Nat} {cs : Array Value} {t : TypeId} {fz : Nat × Nat} (h : w.heap[g]? = some (.cells cs t fz)) (u : Value) : (w.setCell ⟨g, i, none⟩ u).heap[g]? = some (.cells (cs.setIfInBounds i u) t fz) := by
  simp [World.setCell, Array.getElem?_modify, h]

section
variable {ops : Array Oper} {rest : List Oper} {op : Oper} {a : Act} {w : World} {Q : Exit → Act → World → Prop}
/-- One byte appended to a row of the call's own. -/
theorem wpList_append_byte (hgd : op.guard = none) (s x : Operand) (ho : op.op = .call { callee := .builtin .append, args := #[s, x], argTypes := #[56, 56] })
    (base : Nat) (v : Value) (l : List UInt8) (c : Nat) (hs : a.eval s = v) (hown : OwnsB w base v l) (hx : a.eval x = .slice (some ⟨w.heap.size, 0, none⟩) 1 c) (hbase : base ≤ w.heap.size) (hn : l.length ≤ 1099511627776)
    (h : ∀ v' w', OwnsB w' base v' (l ++ [32]) → Below base w w' → wpList Tryd.prog ops Q rest (a.put op.dst v') w') :
    wpList Tryd.prog ops Q (op :: rest) a (w.alloc (.cells #[.int .u8 32] 5)) := by
  obtain ⟨i0, hi0, hz0, hz1, hz2⟩ := info_parts info_byte
  obtain ⟨g, cap, cur, fz, rfl, h2, h3, h4, h5, h6, h7⟩ := hown
  have hg3 : (w.alloc (.cells #[.int .u8 32] 5)).heap[g]? = some (.cells cur 5 fz) := (Below.heap_alloc _ _ _ (Array.getElem?_eq_some_iff.1 h3).1).trans h3
  have hlen : (u8s l).length = l.length := by simp [u8s]
  refine wpList_append_arg (P := Tryd.prog) _ hgd s x 56 ho 5 i0 (.int .u8 0) 1 1 Tryd.underlying56 hi0 hz0 hz1 hz2 rfl (by decide) g 0 l.length cap (u8s l) hs (by rw [hlen]; omega) ?_ ⟨w.heap.size, 0, none⟩ 1 c [.int .u8 32] hx rfl (cell_one_new _ _ _)
    (by intro u hu; simp at hu; subst hu; rfl) ?_ (by unfold maxLen; omega) (by omega) ?_ ?_
  · intro j u hj
    rw [Nat.zero_add, cell_of_row _ g j cur _ fz hg3, ← Array.getElem?_toList]
    have hj2 : j < l.length := by have := (List.getElem?_eq_some_iff.1 hj).1; omega
    have h8 : (cur.toList.take l.length)[j]? = (u8s l)[j]? := by rw [h7]
    rw [List.getElem?_take, if_pos hj2] at h8
    rw [h8, hj]
  · intro hr j hj
    have hj0 : j = 0 := by simp at hj; omega
    subst hj0
    have hlt : l.length < cur.size := by omega
    simp only [Nat.zero_add, Nat.mul_one, Nat.add_zero]
    refine ⟨?_, ?_⟩
    · rw [cell_of_row _ g _ cur _ fz hg3, Array.getElem?_eq_getElem hlt]; rfl
    · obtain ⟨f1, f2⟩ := fz
      simp only [World.frozen?, hg3]
      rcases h6 with h6 | h6
      · injection h6 with e1 e2
        subst e1; subst e2
        simp
      · simp only at h6
        have : ¬ f1 ≤ l.length := by omega
        simp [this]
  · intro hr
    have e0 : (0 + l.length * 1) = l.length := by omega
    have hlt : l.length < cur.size := by omega
    rw [e0]
    refine h _ _ ⟨g, cap, cur.setIfInBounds l.length (.int .u8 32), fz, by simp, h2, ?_, by simpa using h4, by simpa using hr, by simpa using h6, ?_⟩ ?_
    · exact setCell_heap hg3 _
    · rw [Array.toList_setIfInBounds]
      simp only [List.length_append, List.length_cons, List.length_nil, Nat.zero_add]
      rw [List.take_succ_eq_append_getElem (by simpa using hlt), List.take_set_of_le (Nat.le_refl _), h7]
      simp [u8s]
    · exact (((Below.refl base w).alloc hbase _).setCell (p := ⟨g, l.length, none⟩) h2 _)
  · intro hr v' w' hown' hgr
    obtain ⟨h8, h9⟩ := hown'
    rcases h9 with ⟨rfl, h0⟩ | ⟨g', cap', cur', rfl, k1, k2, k3, k4, k5, k6⟩
    · omega
    · refine h _ _ ⟨g', cap', cur', (0, 0), by simp, ?_, k2, by omega, by simpa using k3, .inl rfl, ?_⟩ ?_
      · simp at k1; omega
      · rw [Nat.mul_one] at k6
        simp only [List.length_append, List.length_cons, List.length_nil, Nat.zero_add]
        rw [k6]
        simp [u8s]
      · exact ((Below.refl base w).alloc hbase _).grown hgr (by simp; omega) (by simp)
end

set_option maxRecDepth 100000 in
set_option maxHeartbeats 400000 in
theorem fitRef_any (s : ByteArray) (n : Int) (w : World) (hs : s.size ≤ 268435456) (hn0 : -9223372036854775808 ≤ n) :
    Calls Tryd.prog 27 #[.string s, .int .i64 n] w fun e w' => e = .returned (.string ⟨(fit (runes s.data.toList) n).toArray⟩) ∧ Below w.heap.size w w' := by
  have hcut := cutRef_any s (min n 10000) w hs
  have hgood := runes_good s.data.toList
  have hlen := runes_length s.data.toList
  have hsz : s.data.toList.length = s.size := by rw [Array.length_toList]; rfl
  rw [hsz] at hlen
  clear hsz
  generalize runes s.data.toList = ns at *
  obtain ⟨k, hk⟩ := cut_prefix ns (min n 10000)
  have hgc : ∀ r ∈ cut ns (min n 10000), good r := fun r hr => hgood r (by rw [hk]; exact List.mem_append_left _ hr)
  have hcl : (cut ns (min n 10000)).length ≤ ns.length := by conv => rhs; rw [hk]
                                                             simp
  have hcb := cols_bd (cut ns (min n 10000))
  have hfit : fit ns n = bytes (cut ns (min n 10000)) ++ blanks (min n 10000 - cols (cut ns (min n 10000))) := rfl
  generalize hm : min n 10000 = m at *
  generalize cut ns m = c at *
  have hm1 : m ≤ 10000 := by omega
  have HF := Lib.hid hfit
  clear hfit hk
  have hcols : ∀ w1 : World, Calls Tryd.prog 21 #[.string (runesBytes c)] w1 fun e w' => e = .returned (.int .i64 (cols c)) ∧ Below w1.heap.size w1 w' := fun w1 => by
    have h := columnsRef_any (runesBytes c) w1 (by have := (bytes_length c hgc).2; rw [runesBytes_size]; omega)
    rw [runesBytes_list, runes_bytes c hgc] at h
    exact h
  have HCO := Lib.hid hcols
  have hbl := (bytes_length c hgc).2
  clear hcols hgood hgc
  have hcols0 : 0 ≤ cols c := hcb.1
  have hcols1 : cols c ≤ 2 * (c.length : Int) := hcb.2
  clear hcb
  go_enter Tryd.func27, Tryd.ntmps27
  go_wp2_with (first
    | (go_at_call 23; refine hcut.mono ?_; rintro e w1 ⟨rfl, hb1⟩; obtain ⟨v, W, hcv, hob, hbW⟩ := bytes_of w1 (runesBytes c))
    | (go_at_call 21; refine (HCO.out W).mono ?_; rintro e w2 ⟨rfl, hb12⟩))
  have hb2 : Below w.heap.size w w2 := (hb1.trans (hbW.mono hb1.size)).trans (hb12.mono (Nat.le_trans hb1.size hbW.size))
  have hob2 : OwnsB w2 w.heap.size v (bytes c) := by
    have h := hob.below hb12 (Nat.le_refl _)
    rw [runesBytes_list] at h
    obtain ⟨g, cap, cur, fz, q1, q2, q3⟩ := h
    exact ⟨g, cap, cur, fz, q1, Nat.le_trans hb1.size q2, q3⟩
  clear hcv hob hbW hb12 hb1
  go_loopw [6, 7] (fun b i wr => ∃ j : Nat, i = .int .i64 (cols c + j) ∧ (0 < j → cols c + j ≤ m) ∧ OwnsB wr w.heap.size b (bytes c ++ List.replicate j 32) ∧ Below w.heap.size w wr) (fun _ i _ => (m - intOf i).toNat)
  case atStart => exact ⟨0, by simp, by omega, by simpa using hob2, hb2⟩
  case round =>
    obtain ⟨j, rfl, hj, hown, hb⟩ := hrel
    have hbs := hb.size
    by_cases hlt : cols c + (j : Int) < m
    · have hll : (bytes c ++ List.replicate j 32).length ≤ 1099511627776 := by rw [List.length_append, List.length_replicate]; omega
      go_wp2_with (at_builtin; refine wpList_append_byte rfl (.tmp 22) (.tmp 23) rfl w.heap.size _ _ 1 rfl hown rfl hbs hll ?_; intro v' w3 hown3 hb3)
      go_roundw
      case rel =>
        refine ⟨j + 1, by go_num, by omega, ?_, hb.trans hb3⟩
        have e : bytes c ++ List.replicate (j + 1) 32 = bytes c ++ List.replicate j 32 ++ [32] := by rw [List.replicate_succ', List.append_assoc]
        rw [e]
        exact hown3
      case measure => simp [intOf]; omega
    · have HR : Hid (fit ns n = bytes c ++ List.replicate j 32) := by
        show _ = _
        rw [HF.out]
        unfold blanks
        congr 2
        omega
      obtain ⟨L, hL⟩ : ∃ L, bytes c ++ List.replicate j 32 = L := ⟨_, rfl⟩
      rw [hL] at hown HR
      clear hL
      obtain ⟨g, cap, cur, fz, rfl, q⟩ := hown
      have hcv := OwnsB.cells (⟨g, cap, cur, fz, rfl, q⟩ : OwnsB wr w.heap.size _ L) cap _ rfl
      go_wp2
      go_ret
      exact ⟨ret_str (by rw [HR.out]), hb⟩
end Go.Proofs.YtmnembhfbboljaaDoor.Cel
