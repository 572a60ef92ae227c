/- A text with its letters made small: the program. -/
import Derived.Test.YtajnlbfhcbkopaaDoorRnm
namespace Go.Proofs.YtajnlbfhcbkopaaDoor.Sty
open Go.RowKit

def u8s (l : List UInt8) : List Value := l.map fun b => Value.int .u8 (b.toNat : Int)
/-- The slice v holds just these bytes, in a row of the call's own (marked behind its end, or not). -/
def OwnsB (w : World) (base : Nat) (v : Value) (l : List UInt8) : Prop :=
  ∃ g cap cur fz, v = .slice (some ⟨g, 0, none⟩) l.length cap ∧ base ≤ g ∧ w.heap[g]? = some (.cells cur 5 fz) ∧ cap ≤ cur.size ∧ l.length ≤ cap ∧ (fz = (0, 0) ∨ cur.size ≤ fz.1) ∧ cur.toList.take l.length = u8s l

theorem OwnsB.below {w w' : World} {base B : Nat} {v : Value} {l : List UInt8} (h : OwnsB w base v l) (hb : Below B w w') (hB : w.heap.size ≤ B) : OwnsB w' base v l := by
  obtain ⟨g, cap, cur, fz, h1, h2, h3, h4⟩ := h
  exact ⟨g, cap, cur, fz, h1, h2, (hb.block g (Nat.lt_of_lt_of_le (Array.getElem?_eq_some_iff.1 h3).1 hB)).trans h3, h4⟩

/-- '[]byte(s)'. -/
theorem bytes_of (w : World) (s : ByteArray) : ∃ v W, (convert 9 67 (.string s)).run Tryd.prog w = .ok v W ∧ OwnsB W w.heap.size v s.data.toList ∧ Below w.heap.size w W := by
  have hr := run_bytes_of_string (P := Tryd.prog) w 9 67 5 s Tryd.underlying9 Tryd.underlying67 Tryd.underlying5
  have hsz : s.data.toList.length = s.size := by rw [Array.length_toList]; rfl
  have hge := grownCap_ge w s.size 0 5
  refine ⟨_, _, hr, ⟨w.heap.size, _, _, _, by rw [hsz], Nat.le_refl _, heap_alloc_new _ _, ?_, by rw [hsz]; exact hge, .inr (Nat.le_refl _), ?_⟩, (Below.refl _ _).drew.alloc (Nat.le_refl _) _⟩
  · simp only [bytesRow, Array.size_append, Array.size_map, Array.size_replicate]
    have : s.data.size = s.size := rfl
    omega
  · simp only [bytesRow, Array.toList_append, Array.toList_map]
    rw [List.take_left']
    · rfl
    · simp

theorem OwnsB.cells {w : World} {base : Nat} {v : Value} {l : List UInt8} (h : OwnsB w base v l) (c : Nat) (A : Option Addr) (hv : v = .slice A l.length c) :
    (convert 67 9 v).run Tryd.prog w = .ok (.string ⟨l.toArray⟩) w := by
  obtain ⟨g, cap, cur, fz, rfl, h2, h3, h4, h5, h6, h7⟩ := h
  refine run_convert_bytes_back (P := Tryd.prog) w 67 9 5 ⟨g, 0, none⟩ cap l Tryd.underlying67 Tryd.underlying5 Tryd.underlying9 fun j hj => ?_
  have e2 : (⟨g, 0, none⟩ : Addr).add j = ⟨g, j, none⟩ := by unfold Addr.add; split <;> simp_all
  rw [e2, cell_of_row w g j cur _ fz h3]
  have h8 : (cur.toList.take l.length)[j]? = (u8s l)[j]? := by rw [h7]
  rw [List.getElem?_take, if_pos hj] at h8
  rw [← Array.getElem?_toList, h8]
  simp [u8s, List.getElem?_eq_getElem hj]

theorem setCell_heap {w : World} {g i : Nat} {cs : Array Value} {t : TypeId} {fz : Nat × Nat} (h : w.heap[g]? = some (.cells cs t fz)) (u : Value) : (w.setCell ⟨g, i, none⟩ u).heap[g]? = some (.cells (cs.setIfInBounds i u) t fz) := by
  simp [World.setCell, Array.getElem?_modify, h]


theorem lw_yes {c : UInt8} (h1 : 65 ≤ c.toNat) (h2 : c.toNat ≤ 90) : ((lw c).toNat : Int) = (c.toNat : Int) + 97 - 65 := by
  unfold lw
  rw [if_pos ⟨h1, h2⟩, UInt8.toNat_add]
  show (((c.toNat + 32) % 256 : Nat) : Int) = _
  omega
theorem lw_no {c : UInt8} (h : ¬ (65 ≤ c.toNat ∧ c.toNat ≤ 90)) : lw c = c := by unfold lw; rw [if_neg h]
/-- The first k letters made small. -/
def lowk (k : Nat) (l : Tx) : Tx := low (l.take k) ++ l.drop k
theorem lowk_len (k : Nat) (l : Tx) : (lowk k l).length = l.length := by simp [lowk, low]; omega
theorem lowk_zero (l : Tx) : lowk 0 l = l := rfl
theorem lowk_all (l : Tx) : lowk l.length l = low l := by simp [lowk]
theorem lowk_succ (k : Nat) (l : Tx) (h : k < l.length) : lowk (k + 1) l = (lowk k l).set k (lw l[k]) := by
  unfold lowk low
  rw [List.take_succ_eq_append_getElem h, List.map_append, List.append_assoc]
  have hl : (List.map lw (List.take k l)).length = k := by rw [List.length_map, List.length_take]; omega
  rw [List.set_append_right _ _ (by omega), hl, Nat.sub_self, List.drop_eq_getElem_cons h]
  rfl
theorem lowk_at (k : Nat) (l : Tx) (h : k < l.length) : (lowk k l)[k]? = some l[k] := by
  unfold lowk low
  have hl : (List.map lw (List.take k l)).length = k := by rw [List.length_map, List.length_take]; omega
  rw [List.getElem?_append_right (by omega), hl, Nat.sub_self, List.drop_eq_getElem_cons h]
  rfl
theorem lowk_same (k : Nat) (l : Tx) (h : k < l.length) (hl : lw l[k] = l[k]) : lowk (k + 1) l = lowk k l := by
  rw [lowk_succ k l h, hl]
  refine List.ext_getElem? fun i => ?_
  rw [List.getElem?_set]
  by_cases e : k = i
  · subst e
    rw [if_pos rfl, lowk_at k l h]
    simp [lowk_len, h]
  · rw [if_neg e]

/-- A row of bytes of the call's own, in block g. -/
def RowB (w : World) (g cap : Nat) (l : Tx) : Prop :=
  ∃ cur fz, w.heap[g]? = some (.cells cur 5 fz) ∧ cap ≤ cur.size ∧ l.length ≤ cap ∧ (fz = (0, 0) ∨ cur.size ≤ fz.1) ∧ cur.toList.take l.length = u8s l
theorem RowB.cell {w : World} {g cap : Nat} {l : Tx} (h : RowB w g cap l) (i : Nat) (x : UInt8) (hx : l[i]? = some x) : w.cell? ⟨g, i, none⟩ = some (.int .u8 (x.toNat : Int)) := by
  obtain ⟨cur, fz, h3, h4, h5, h6, h7⟩ := h
  have hi : i < l.length := (List.getElem?_eq_some_iff.1 hx).1
  rw [cell_of_row w g i cur _ fz h3]
  have h8 : (cur.toList.take l.length)[i]? = (u8s l)[i]? := by rw [h7]
  rw [List.getElem?_take, if_pos hi] at h8
  rw [← Array.getElem?_toList, h8]
  simp [u8s, hx]
theorem RowB.frozen {w : World} {g cap : Nat} {l : Tx} (h : RowB w g cap l) (i : Nat) (hi : i < l.length) : w.frozen? ⟨g, i, none⟩ = false := by
  obtain ⟨cur, fz, h3, h4, h5, h6, h7⟩ := h
  obtain ⟨f1, f2⟩ := fz
  simp only [World.frozen?, h3]
  rcases h6 with h6 | h6
  · injection h6 with e1 e2
    subst e1; subst e2
    simp
  · simp only at h6
    have : ¬ f1 ≤ i := by omega
    simp [this]
theorem RowB.set_ {w : World} {g cap : Nat} {l : Tx} (h : RowB w g cap l) (i : Nat) (x : UInt8) (v : Int) (hv : v = (x.toNat : Int)) : RowB (w.setCell ⟨g, i, none⟩ (.int .u8 v)) g cap (l.set i x) := by
  obtain ⟨cur, fz, h3, h4, h5, h6, h7⟩ := h
  refine ⟨cur.setIfInBounds i (.int .u8 v), fz, setCell_heap h3 _, by simpa using h4, by simpa using h5, by simpa using h6, ?_⟩
  rw [Array.toList_setIfInBounds, List.length_set, List.take_set, h7, hv]
  simp [u8s]
theorem RowB.lt {w : World} {g cap : Nat} {l : Tx} (h : RowB w g cap l) : g < w.heap.size := by
  obtain ⟨cur, fz, h3, _⟩ := h
  exact (Array.getElem?_eq_some_iff.1 h3).1
theorem RowB.text {w : World} {g cap : Nat} {l : Tx} (h : RowB w g cap l) (n : Nat) (hn : n = l.length) :
    (convert 67 9 (.slice (some ⟨g, 0, none⟩) n cap)).run Tryd.prog w = .ok (.string (bs l)) w := by
  subst hn
  refine run_convert_bytes_back (P := Tryd.prog) w 67 9 5 ⟨g, 0, none⟩ cap l Tryd.underlying67 Tryd.underlying5 Tryd.underlying9 fun j hj => ?_
  have e2 : (⟨g, 0, none⟩ : Addr).add j = ⟨g, j, none⟩ := by unfold Addr.add; split <;> simp_all
  rw [e2]
  exact h.cell j _ (List.getElem?_eq_getElem hj)
theorem rowB_of (w : World) (s : ByteArray) : ∃ W g cap, (convert 9 67 (.string s)).run Tryd.prog w = .ok (.slice (some ⟨g, 0, none⟩) s.size cap) W ∧ w.heap.size ≤ g ∧ RowB W g cap s.data.toList ∧ Below w.heap.size w W := by
  obtain ⟨v, W, hr, ⟨g, cap, cur, fz, rfl, hg, h3⟩, hb⟩ := bytes_of w s
  have e : s.data.toList.length = s.size := by rw [Array.length_toList]; rfl
  refine ⟨W, g, cap, ?_, hg, ⟨cur, fz, h3⟩, hb⟩
  rw [hr, e]

set_option maxRecDepth 100000 in
set_option maxHeartbeats 400000 in
theorem lower_any (l : Tx) (w : World) (hs : l.length ≤ 140737488355328) :
    Calls Tryd.prog 27 #[.string (bs l)] w fun e w' => e = .returned (.string (bs (low l))) ∧ Below w.heap.size w w' := by
  obtain ⟨W, g, cap, hcv, hg, hrow, hb⟩ := rowB_of w (bs l)
  rw [bs_list] at hrow
  rw [bs_size] at hcv
  generalize hS : bs l = S at hcv
  go_enter Tryd.func27, Tryd.ntmps27
  go_wp2
  have hbs := hb.size
  go_loopw [10] (fun i wr => ∃ k : Nat, k ≤ l.length ∧ i = .int .i64 (k : Int) ∧ RowB wr g cap (lowk k l) ∧ Below w.heap.size w wr) (fun i _ => l.length - (intOf i).toNat)
  case atStart => exact ⟨0, Nat.zero_le _, rfl, hrow, hb⟩
  case round =>
    obtain ⟨k, hk, rfl, hr, hbr⟩ := hrel
    have hlt2 := hr.lt
    by_cases hlt : k < l.length
    · have hcell := hr.cell k _ (lowk_at k l hlt)
      have hfz := hr.frozen k (by rw [lowk_len]; exact hlt)
      by_cases h1 : 65 ≤ l[k].toNat ∧ l[k].toNat ≤ 90
      · have hset := hr.set_ k (lw l[k]) _ (lw_yes h1.1 h1.2).symm
        rw [← lowk_succ k l hlt] at hset
        have h2 : ((l[k].toNat : Int)) ≤ 90 := by omega
        have h3 : 65 ≤ ((l[k].toNat : Int)) := by omega
        clear h1 hr hrow
        generalize l[k].toNat = c at *
        go_wp2
        go_roundw
        case rel => exact ⟨k + 1, by omega, by go_num, hset, hbr.setCell (by simpa using hg) _⟩
        case measure => simp [intOf]; omega
      · have hsame := lowk_same k l hlt (lw_no h1)
        have hr2 : RowB wr g cap (lowk (k + 1) l) := by rw [hsame]; exact hr
        have h3 : l[k].toNat < 256 := UInt8.toNat_lt _
        clear hr hrow hsame
        generalize l[k].toNat = c at *
        by_cases h4 : 65 ≤ c
        · have h5 : 90 < c := by omega
          clear h1
          go_wp2
          go_roundw
          case rel => exact ⟨k + 1, by omega, by go_num, hr2, hbr⟩
          case measure => simp [intOf]; omega
        · clear h1
          go_wp2
          go_roundw
          case rel => exact ⟨k + 1, by omega, by go_num, hr2, hbr⟩
          case measure => simp [intOf]; omega
    · obtain rfl : k = l.length := by omega
      rw [lowk_all] at hr
      have hcv2 := hr.text l.length (by simp [low])
      go_wp2
      go_ret
      exact ⟨rfl, hbr⟩
end Go.Proofs.YtajnlbfhcbkopaaDoor.Sty
