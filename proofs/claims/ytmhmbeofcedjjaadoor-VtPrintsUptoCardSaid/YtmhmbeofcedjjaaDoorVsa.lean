/- The walks of the law's words: are two actions the same, two lists of them? Where they are. -/
import Derived.Test.YtmhmbeofcedjjaaDoorVes
import Derived.Deep.QuietTactic
import Derived.BigQuiet
import Derived.StillTailTactics
import Derived.Laws.AppendOwnNone
namespace Go.Proofs.YtmhmbeofcedjjaaDoor.Vt
open Go.RowKit
open Cel (Blk Kept Tabs low Owns At)

theorem intsN_cell {w : World} {B : Nat} {g m c : Nat} {l : List Int} (h : Ints w B (.slice (some ⟨g, 0, none⟩) m c) l) (k : Nat) (hk : k < l.length) : w.cell? ⟨g, k, none⟩ = some (.int .i64 (l[k])) := by
  have := h.cells (g := g) rfl k (.int .i64 l[k]) (by simp [ints, hk])
  have e : (⟨g, 0, none⟩ : Addr).add k = ⟨g, k, none⟩ := by unfold Addr.add; split <;> simp_all
  rw [e] at this
  exact this
theorem below_drewN {B : Nat} {w w' : World} (h : Below B w w') (n : Nat) : Below B w (w'.drewN n) := ⟨h.os, h.tape, h.output, h.size, h.block⟩
theorem own_drewN {w : World} {base e size n : Nat} {v : Value} {xs : List Value} (h : w.ownsRow base e size v n xs) (k : Nat) : (w.drewN k).ownsRow base e size v n xs := h
abbrev acV (a : Ac) (v : Value) : Value := .agg #[.int .i64 a.k, .int .i32 a.r, .int .u8 a.b, v, .string (bs a.it), .string (bs a.tx)]
set_option maxRecDepth 100000 in
set_option maxHeartbeats 1000000 in
theorem same_true (a : Ac) (v v' : Value) (w : World) {B B' : Nat} (h : Ints w B v a.ps) (h' : Ints w B' v' a.ps) (hl : a.ps.length ≤ 4294967296) :
    Calls Tryd.prog 24 #[acV a v, acV a v'] w fun e w' => e = .returned (.bool true) ∧ Below w.heap.size w w' := by
  obtain ⟨A, c, rfl⟩ := own_slice h
  obtain ⟨A', c', rfl⟩ := own_slice h'
  obtain ⟨ps, hps⟩ : ∃ ps, ps = a.ps := ⟨_, rfl⟩
  unfold acV
  rw [← hps] at h h' hl ⊢
  clear hps
  generalize bs a.it = X1
  generalize bs a.tx = X2
  generalize a.k = k1
  generalize a.r = r1
  generalize a.b = y1
  clear a
  have hlen := hl
  go_enter Tryd.func24, Tryd.ntmps24
  go_wp2
  have kb : Below w.heap.size w ((w.alloc (.cells #[.int .i64 k1, .int .i32 r1, .int .u8 y1, .slice A ps.length c, .string X1, .string X2] 38)).alloc (.cells #[.int .i64 k1, .int .i32 r1, .int .u8 y1, .slice A' ps.length c', .string X1, .string X2] 38)) := ((Below.refl _ _).alloc (Nat.le_refl _) _).alloc (by simp) _
  have b1 : Blk ((w.alloc (.cells #[.int .i64 k1, .int .i32 r1, .int .u8 y1, .slice A ps.length c, .string X1, .string X2] 38)).alloc (.cells #[.int .i64 k1, .int .i32 r1, .int .u8 y1, .slice A' ps.length c', .string X1, .string X2] 38)) w.heap.size 38 _ := (Blk.new w _ _).alloc _
  have b2 : Blk ((w.alloc (.cells #[.int .i64 k1, .int .i32 r1, .int .u8 y1, .slice A ps.length c, .string X1, .string X2] 38)).alloc (.cells #[.int .i64 k1, .int .i32 r1, .int .u8 y1, .slice A' ps.length c', .string X1, .string X2] 38)) (w.heap.size + 1) 38 _ := blk_new1 w _ _ _
  go_loopw [5] (fun i wr => ∃ k : Nat, k ≤ ps.length ∧ i = .int .i64 k ∧ Below w.heap.size w wr ∧ Ints wr B (.slice A ps.length c) ps ∧ Ints wr B' (.slice A' ps.length c') ps ∧ Blk wr w.heap.size 38 #[.int .i64 k1, .int .i32 r1, .int .u8 y1, .slice A ps.length c, .string X1, .string X2] ∧ Blk wr (w.heap.size + 1) 38 #[.int .i64 k1, .int .i32 r1, .int .u8 y1, .slice A' ps.length c', .string X1, .string X2]) (fun i _ => ps.length - (intOf i).toNat)
  case atStart => exact ⟨0, Nat.zero_le _, rfl, kb, (h.alloc _).alloc _, (h'.alloc _).alloc _, b1, b2⟩
  case round =>
    obtain ⟨k, hk, rfl, hb, hi, hi', q1, q2⟩ := hrel
    have c1 : wr.cell? ⟨w.heap.size, 3, none⟩ = some (.slice A ps.length c) := q1.cell 3
    have c2 : wr.cell? ⟨w.heap.size + 1, 3, none⟩ = some (.slice A' ps.length c') := q2.cell 3
    by_cases hlt : k < ps.length
    · obtain ⟨g, rfl⟩ := own_addr hi (by omega)
      obtain ⟨g', rfl⟩ := own_addr hi' (by omega)
      have e1 := intsN_cell hi k hlt
      have e2 := intsN_cell hi' k hlt
      have i1 : (0 : Int) ≤ (k : Int) := by omega
      have i2 : (k : Int) < (ps.length : Int) := by omega
      generalize ps[k] = z at *
      go_wp2_with fail
      go_quiet (fail)
      go_wp2
      all_goals
        go_roundw
        case rel => exact ⟨k + 1, by omega, by go_num, below_drewN hb _, own_drewN hi _, own_drewN hi' _, q1.drewN _, q2.drewN _⟩
        case measure => simp [intOf]; omega
    · go_wp2
      go_ret
      exact ⟨rfl, hb⟩
/-- What is told, without where its numbers lie. -/
theorem outs_get {l : List To} {k : Nat} (hk : k < l.length) (hk' : k < (outs l).length) : (outs l)[k] = l[k].1 := by simp [outs]
theorem flat_get (l : List To) (k i : Nat) (hk : k < l.length) (hi : i < 6) : (flat l)[k * 6 + i]? = (acL l[k])[i]? := by
  induction l generalizing k with
  | nil => simp at hk
  | cons t l ih =>
    unfold flat at ih ⊢
    rw [List.flatMap_cons]
    have h6 : (acL t).length = 6 := rfl
    cases k with
    | zero =>
      rw [List.getElem?_append_left (by omega)]
      simp
    | succ k =>
      rw [List.getElem?_append_right (by omega)]
      have e : (k + 1) * 6 + i - (acL t).length = k * 6 + i := by omega
      rw [e, ih k (by simpa using hk)]
      simp
/-- The cells of an action in a list. -/
theorem acts_cell {w : World} {B : Nat} {g m c : Nat} {l : List To} (h : w.ownsRow B 38 6 (.slice (some ⟨g, 0, none⟩) m c) l.length (flat l)) (k : Nat) (hk : k < l.length) (i : Nat) (hi : i < 6) : w.cell? ⟨g, k * 6 + i, none⟩ = (acL l[k])[i]? := by
  have e1 := flat_get l k i hk hi
  obtain ⟨u, hu⟩ : ∃ u, (acL l[k])[i]? = some u := ⟨_, List.getElem?_eq_getElem (show i < (acL l[k]).length from hi)⟩
  rw [hu] at e1 ⊢
  have := h.cells (g := g) rfl (k * 6 + i) u e1
  have e : (⟨g, 0, none⟩ : Addr).add (k * 6 + i) = ⟨g, k * 6 + i, none⟩ := by unfold Addr.add; split <;> simp_all
  rw [e] at this
  exact this
set_option maxRecDepth 100000 in
set_option maxHeartbeats 2000000 in
theorem all_true (v v' : Value) (l l' : List To) (w : World) {B B' C C' : Nat} (h : w.ownsRow B 38 6 v l.length (flat l)) (h' : w.ownsRow B' 38 6 v' l'.length (flat l')) (ht : ∀ t ∈ l, Ints w C t.2 t.1.ps) (ht' : ∀ t ∈ l', Ints w C' t.2 t.1.ps)
    (he : outs l = outs l') (hl : l.length ≤ 4294967296) (hp : ∀ t ∈ l, t.1.ps.length ≤ 4294967296) :
    Calls Tryd.prog 13 #[v, v'] w fun e w' => e = .returned (.bool true) ∧ Below w.heap.size w w' := by
  have hlen : l.length = l'.length := by have := congrArg List.length he; simpa [outs] using this
  obtain ⟨A, c, rfl⟩ := own_slice h
  obtain ⟨A', c', rfl⟩ := own_slice h'
  have HL := Lib.hid hlen
  rw [← hlen]
  clear hlen
  have HE := Lib.hid he
  clear he
  have HT := Lib.hid ht
  have HT' := Lib.hid ht'
  have HP := Lib.hid hp
  clear ht ht' hp
  go_enter Tryd.func13, Tryd.ntmps13
  go_wp2
  go_loopw [5, 6] (fun i _ wr => ∃ k : Nat, k ≤ l.length ∧ i = .int .i64 k ∧ Below w.heap.size w wr) (fun i _ _ => l.length - (intOf i).toNat)
  case atStart => exact ⟨0, Nat.zero_le _, rfl, Below.refl _ _⟩
  case round =>
    obtain ⟨k, hk, rfl, hb⟩ := hrel
    have kk : Kept w wr (fun _ => False) := Cel.below_kept hb _
    by_cases hlt : k < l.length
    · have hi := kk.owns h fun _ _ hh => hh
      have hi' := kk.owns h' fun _ _ hh => hh
      have hlt' : k < l'.length := by have := HL.out; omega
      obtain ⟨g, rfl⟩ := own_addr hi (by omega)
      have hA' := own_addr (A := A') (m := l.length) (by rw [HL.out]; exact hi') (by omega)
      obtain ⟨g', rfl⟩ := hA'
      have et : l[k].1 = l'[k].1 := by
        rw [← outs_get hlt (by simpa [outs] using hlt), ← outs_get hlt' (by simpa [outs] using hlt')]
        simp only [HE.out]
      have t1 := kk.owns (HT.out l[k] (List.getElem_mem _)) fun _ _ hh => hh
      have t2 := kk.owns (HT'.out l'[k] (List.getElem_mem _)) fun _ _ hh => hh
      have tp := HP.out l[k] (List.getElem_mem _)
      have e0 := acts_cell hi k hlt
      have e0' := acts_cell hi' k hlt'
      generalize l[k] = t at *
      generalize l'[k] = t' at *
      obtain ⟨a, u⟩ := t
      obtain ⟨a', u'⟩ := t'
      obtain rfl : a = a' := et
      have s := fun (n : Nat) => same_true a u u' (wr.drewN n) (own_drewN t1 n) (own_drewN t2 n) tp
      have x0 : wr.cell? ⟨g, k * 6, none⟩ = some (.int .i64 a.k) := e0 0 (by omega)
      have x1 : wr.cell? ⟨g, k * 6 + 1, none⟩ = some (.int .i32 a.r) := e0 1 (by omega)
      have x2 : wr.cell? ⟨g, k * 6 + 2, none⟩ = some (.int .u8 a.b) := e0 2 (by omega)
      have x3 : wr.cell? ⟨g, k * 6 + 3, none⟩ = some u := e0 3 (by omega)
      have x4 : wr.cell? ⟨g, k * 6 + 4, none⟩ = some (.string (bs a.it)) := e0 4 (by omega)
      have x5 : wr.cell? ⟨g, k * 6 + 5, none⟩ = some (.string (bs a.tx)) := e0 5 (by omega)
      have y0 : wr.cell? ⟨g', k * 6, none⟩ = some (.int .i64 a.k) := e0' 0 (by omega)
      have y1 : wr.cell? ⟨g', k * 6 + 1, none⟩ = some (.int .i32 a.r) := e0' 1 (by omega)
      have y2 : wr.cell? ⟨g', k * 6 + 2, none⟩ = some (.int .u8 a.b) := e0' 2 (by omega)
      have y3 : wr.cell? ⟨g', k * 6 + 3, none⟩ = some u' := e0' 3 (by omega)
      have y4 : wr.cell? ⟨g', k * 6 + 4, none⟩ = some (.string (bs a.it)) := e0' 4 (by omega)
      have y5 : wr.cell? ⟨g', k * 6 + 5, none⟩ = some (.string (bs a.tx)) := e0' 5 (by omega)
      have i1 : (0 : Int) ≤ (k : Int) := by omega
      have i2 : (k : Int) < (l.length : Int) := by omega
      clear e0 e0' t1 t2 tp hi hi' h h'
      go_wp2_with fail
      go_still_tail 8, (by kernel_rfl)
      change wpList _ _ _ _ _ wr.drew
      go_wp2_with fail
      refine (s 1).mono ?_
      rintro e w2 ⟨rfl, hb2⟩
      have hb3 : Below w.heap.size w w2 := hb.trans (Below.mono (B := wr.heap.size) (show Below wr.heap.size wr w2 from ⟨hb2.os, hb2.tape, hb2.output, hb2.size, hb2.block⟩) hb.size)
      go_wp2
      go_roundw
      case rel => exact ⟨k + 1, by omega, by go_num, hb3⟩
      case measure => simp [intOf]; omega
    · go_wp2
      go_ret
      exact ⟨rfl, hb⟩
end Go.Proofs.YtmhmbeofcedjjaaDoor.Vt
