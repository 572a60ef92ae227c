/- The walks of what can be told: what stands between, texts, numbers, heads. The walks of what can be told: heads, and any action. -/
import Derived.Test.YtmhmbeofcedjjaaDoorVps
import Derived.Test.YtmhmbeofcedjjaaDoorVsa
import Derived.Deep.QuietTactic
import Derived.BigQuiet
namespace Go.Proofs.YtmhmbeofcedjjaaDoor.Vt
open Go.RowKit
open Cel (Blk Kept Tabs low Owns At)

theorem run_index_at (w : World) (l : Tx) (k : Nat) (hk : k < l.length) : (Instr.index 9 (.string (bs l)) (.int .i64 (k : Int))).run Tryd.prog w = .ok (.int .u8 ((l[k]).toNat : Int)) w := by
  have hs := bs_size l
  rw [run_index_string w 9 (bs l) .i64 (k : Int) Tryd.underlying9, dif_pos ⟨by omega, by omega⟩]
  have e : (bs l)[(k : Int).toNat]'(by omega) = l[k] := by
    show (bs l).data[(k : Int).toNat]'(show _ < (bs l).size by omega) = l[k]
    rw [← Array.getElem_toList]
    simp [bs]
  show Result.ok (Value.int .u8 ((((bs l)[(k : Int).toNat]'(by omega)).toNat : Nat) : Int)) w = _
  rw [e]
theorem btw_take {l : Tx} {k : Nat} (hk : k < l.length) (h : (l.take k).all (fun u => isBet (u.toNat : Int)) = true) (hu : isBet ((l[k]).toNat : Int) = true) : (l.take (k + 1)).all (fun u => isBet (u.toNat : Int)) = true := by
  rw [List.take_succ_eq_append_getElem hk, List.all_append, h]
  simpa using hu
theorem btw_no {l : Tx} {k : Nat} (hk : k < l.length) (hu : isBet ((l[k]).toNat : Int) = false) : btw l = false := by
  have : l.all (fun u => isBet (u.toNat : Int)) = false := by
    rw [List.all_eq_false]
    exact ⟨l[k], List.getElem_mem _, by rw [hu]; decide⟩
  unfold btw; rw [this]; rfl
set_option maxHeartbeats 400000 in
theorem areBetween_any (l : Tx) (hl : l.length ≤ 140737488355328) (w : World) : Calls Tryd.prog 28 #[.string (bs l)] w fun e w' => e = .returned (.bool (btw l)) ∧ w = w' := by
  have hsz := bs_size l
  have HI := Lib.hid (fun (k : Nat) (hk : k < l.length) (w : World) => run_index_at w l k hk)
  have HB : Hid ((bs l).size = l.length) := hsz
  clear hsz
  generalize hX : bs l = X at *
  have HX := Lib.hid hX
  clear hX
  go_enter Tryd.func28, Tryd.ntmps28
  go_wp2
  rw [HB.out]
  go_loop [3, 6] (fun _ i => ∃ k : Nat, k ≤ l.length ∧ i = .int .i64 k ∧ (l.take k).all (fun u => isBet (u.toNat : Int)) = true) (fun _ i => l.length - (intOf i).toNat)
  case atStart => exact ⟨0, Nat.zero_le _, rfl, rfl⟩
  case round =>
    obtain ⟨k, hk, rfl, ha⟩ := hrel
    have HA := Lib.hid ha
    clear ha
    by_cases hlt : k < l.length
    · have hix := HI.out k hlt
      cases hu : isBet ((l[k]).toNat : Int) with
      | true =>
        have HN := Lib.hid (btw_take hlt HA.out hu)
        have hbt := isBetween_any ((l[k]).toNat : Int)
        rw [hu] at hbt
        clear hu
        generalize (l[k]) = u at *
        go_wp2_with (go_at_call 48; refine (hbt _).mono ?_; rintro e w' ⟨rfl, rfl⟩)
        all_goals
          go_round
          case rel => exact ⟨k + 1, by omega, by go_num, HN.out⟩
          case measure => simp [intOf]; omega
      | false =>
        have HN := Lib.hid (btw_no hlt hu)
        have hbt := isBetween_any ((l[k]).toNat : Int)
        rw [hu] at hbt
        clear hu
        generalize (l[k]) = u at *
        go_wp2_with (go_at_call 48; refine (hbt _).mono ?_; rintro e w' ⟨rfl, rfl⟩)
        go_ret
        exact ⟨by rw [HN.out]; rfl, rfl⟩
    · have HN : Hid (btw l = decide (l.length ≤ 2)) := by
        show _ = _
        have := HA.out
        rw [List.take_of_length_le (by omega)] at this
        unfold btw; rw [this]; rfl
      go_wp2
      rw [HB.out]
      go_ret
      refine ⟨?_, rfl⟩
      rw [HN.out]
      exact Cel.ret_bool (by simp; omega)
def noCtl (l : Tx) : Bool := l.all (fun u => decide (¬ (u.toNat : Int) < 32))
theorem noCtl_take {l : Tx} {k : Nat} (hk : k < l.length) (h : noCtl (l.take k) = true) (hu : ¬ ((l[k]).toNat : Int) < 32) : noCtl (l.take (k + 1)) = true := by
  unfold noCtl at h ⊢
  rw [List.take_succ_eq_append_getElem hk, List.all_append, h]
  simpa using hu
theorem noCtl_no {l : Tx} {k : Nat} (hk : k < l.length) (hu : ((l[k]).toNat : Int) < 32) : noCtl l = false := by
  unfold noCtl
  rw [List.all_eq_false]
  exact ⟨l[k], List.getElem_mem _, by simp; omega⟩
theorem textOf_no {a : Ac} (h : noCtl a.tx = false) : textOf a = false := by
  unfold textOf; unfold noCtl at h; rw [h]; rfl
theorem textOf_yes {a : Ac} (h : noCtl a.tx = true) : textOf a = decide (a.tx.length ≤ 1024) := by
  unfold textOf; unfold noCtl at h; rw [h]; rfl
set_option maxHeartbeats 1000000 in
theorem isTextOf_any (a : Ac) (v : Value) (hl : a.tx.length ≤ 140737488355328) (w : World) : Calls Tryd.prog 31 #[acV a v] w fun e w' => e = .returned (.bool (textOf a)) ∧ Below w.heap.size w w' := by
  have HB : Hid ((bs a.tx).size = a.tx.length) := bs_size a.tx
  have HI := Lib.hid (fun (k : Nat) (hk : k < a.tx.length) (w : World) => run_index_at w a.tx k hk)
  have HY := Lib.hid (fun (h : noCtl a.tx = true) => textOf_yes h)
  have HZ := Lib.hid (fun (h : noCtl a.tx = false) => textOf_no h)
  unfold acV
  generalize textOf a = R at *
  obtain ⟨tx, hx⟩ : ∃ tx, tx = a.tx := ⟨_, rfl⟩
  rw [← hx] at HB HI HY HZ hl ⊢
  clear hx
  generalize bs tx = X at *
  generalize bs a.it = Z at *
  generalize a.k = k1
  generalize a.r = r1
  generalize a.b = b1
  clear a
  go_enter Tryd.func31, Tryd.ntmps31
  go_wp2
  have kb : Below w.heap.size w (w.alloc (.cells #[.int .i64 k1, .int .i32 r1, .int .u8 b1, v, .string Z, .string X] 38)) := (Below.refl _ _).alloc (Nat.le_refl _) _
  have cb : (w.alloc (.cells #[.int .i64 k1, .int .i32 r1, .int .u8 b1, v, .string Z, .string X] 38)).cell? ⟨w.heap.size, 5, none⟩ = some (.string X) := (Blk.new w _ _).cell 5
  generalize (w.alloc (.cells #[.int .i64 k1, .int .i32 r1, .int .u8 b1, v, .string Z, .string X] 38)) = w1 at *
  rw [HB.out]
  go_loop [3, 7] (fun _ i => ∃ k : Nat, k ≤ tx.length ∧ i = .int .i64 k ∧ noCtl (tx.take k) = true) (fun _ i => tx.length - (intOf i).toNat)
  case atStart => exact ⟨0, Nat.zero_le _, rfl, rfl⟩
  case round =>
    obtain ⟨k, hk, rfl, ha⟩ := hrel
    have HA := Lib.hid ha
    clear ha
    by_cases hlt : k < tx.length
    · have hix := HI.out k hlt
      by_cases hu : ((tx[k]).toNat : Int) < 32
      · have HN := Lib.hid (HZ.out (noCtl_no hlt hu))
        have hbt := isControl_any ((tx[k]).toNat : Int)
        rw [decide_eq_true hu] at hbt
        clear hu
        generalize (tx[k]) = u at *
        go_wp2_with (go_at_call 26; refine (hbt _).mono ?_; rintro e w' ⟨rfl, rfl⟩)
        go_ret
        exact ⟨by rw [HN.out]; rfl, kb⟩
      · have HN := Lib.hid (noCtl_take hlt HA.out hu)
        have hbt := isControl_any ((tx[k]).toNat : Int)
        rw [decide_eq_false hu] at hbt
        clear hu
        generalize (tx[k]) = u at *
        go_wp2_with (go_at_call 26; refine (hbt _).mono ?_; rintro e w' ⟨rfl, rfl⟩)
        all_goals
          go_round
          case rel => exact ⟨k + 1, by omega, by go_num, HN.out⟩
          case measure => simp [intOf]; omega
    · have HN : Hid (R = decide (tx.length ≤ 1024)) := by
        have := HA.out
        rw [List.take_of_length_le (by omega)] at this
        exact HY.out this
      go_wp2
      rw [HB.out]
      go_ret
      refine ⟨?_, kb⟩
      rw [HN.out]
      exact Cel.ret_bool (by simp; omega)
def inP (l : List Int) : Bool := l.all (fun p => decide (-1 ≤ p) && decide (p ≤ 9999))
theorem inP_take {l : List Int} {k : Nat} (hk : k < l.length) (h : inP (l.take k) = true) (h0 : -1 ≤ l[k]) (h1 : l[k] ≤ 9999) : inP (l.take (k + 1)) = true := by
  unfold inP at h ⊢
  rw [List.take_succ_eq_append_getElem hk, List.all_append, h]
  simp [h0, h1]
theorem inP_no {l : List Int} {k : Nat} (hk : k < l.length) (h : ¬ (-1 ≤ l[k] ∧ l[k] ≤ 9999)) : arep l = false := by
  have : l.all (fun p => decide (-1 ≤ p) && decide (p ≤ 9999)) = false := by
    rw [List.all_eq_false]
    exact ⟨l[k], List.getElem_mem _, by simpa using h⟩
  unfold arep; rw [this]; rfl
/-- Numbers that can be read. -/
def RdI (w : World) (A : Option Addr) (l : List Int) : Prop := ∀ k (hk : k < l.length), ∃ g o, A = some ⟨g, o, none⟩ ∧ g < w.heap.size ∧ w.cell? ⟨g, o + k, none⟩ = some (.int .i64 l[k])
theorem RdI.kept {w w' : World} {A : Option Addr} {l : List Int} (h : RdI w A l) (hb : Below w.heap.size w w') : RdI w' A l := fun k hk => by
  obtain ⟨g, o, e, hg, hc⟩ := h k hk
  exact ⟨g, o, e, Nat.lt_of_lt_of_le hg hb.size, (hb.cell (p := ⟨g, o + k, none⟩) hg).trans hc⟩
theorem RdI.drewN {w : World} {A : Option Addr} {l : List Int} (h : RdI w A l) (n : Nat) : RdI (w.drewN n) A l := h
theorem RdI.of_ints {w : World} {B m c : Nat} {A : Option Addr} {l : List Int} (h : Ints w B (.slice A m c) l) : RdI w A l := fun k hk => by
  obtain ⟨g, rfl⟩ := own_addr h (by omega)
  have hl := (h.lt g rfl).2
  exact ⟨g, 0, rfl, hl, by rw [Nat.zero_add]; exact intsN_cell h k hk⟩
set_option maxHeartbeats 1000000 in
theorem areParams_any (A : Option Addr) (c : Nat) (l : List Int) (w : World) (h : RdI w A l) (hl : l.length ≤ 140737488355328) : Calls Tryd.prog 50 #[.slice A l.length c] w fun e w' => e = .returned (.bool (arep l)) ∧ w = w' := by
  have H := Lib.hid h
  clear h
  go_enter Tryd.func50, Tryd.ntmps50
  go_wp2
  go_loop [4, 7] (fun _ i => ∃ k : Nat, k ≤ l.length ∧ i = .int .i64 k ∧ inP (l.take k) = true) (fun _ i => l.length - (intOf i).toNat)
  case atStart => exact ⟨0, Nat.zero_le _, rfl, rfl⟩
  case round =>
    obtain ⟨k, hk, rfl, ha⟩ := hrel
    have HA := Lib.hid ha
    clear ha
    by_cases hlt : k < l.length
    · obtain ⟨g, o, rfl, _, hcell⟩ := H.out k hlt
      by_cases h0 : l[k] < -1
      · have HN := Lib.hid (inP_no hlt (by omega))
        generalize l[k] = z at *
        go_wp2
        go_ret
        exact ⟨by rw [HN.out]; rfl, rfl⟩
      · by_cases h1 : 9999 < l[k]
        · have HN := Lib.hid (inP_no hlt (by omega))
          generalize l[k] = z at *
          go_wp2
          go_ret
          exact ⟨by rw [HN.out]; rfl, rfl⟩
        · have HN := Lib.hid (inP_take hlt HA.out (by omega) (by omega))
          generalize l[k] = z at *
          go_wp2
          all_goals
            go_round
            case rel => exact ⟨k + 1, by omega, by go_num, HN.out⟩
            case measure => simp [intOf]; omega
    · have hall : inP l = true := by
        have := HA.out
        rwa [List.take_of_length_le (by omega)] at this
      unfold inP at hall
      by_cases h1 : l.length = 1
      · obtain ⟨z, rfl⟩ : ∃ z, l = [z] := by
          match l, h1 with
          | [z], _ => exact ⟨z, rfl⟩
        obtain ⟨g, o, rfl, _, hcell⟩ := H.out 0 (by simp)
        have hcell : w.cell? ⟨g, o, none⟩ = some (.int .i64 z) := hcell
        have HN : Hid (arep [z] = (z != -1)) := by show _ = _; unfold arep; rw [hall]; simp
        obtain rfl : k = 1 := by simp at hk hlt; omega
        clear hall h1 HA hk hlt H
        by_cases hz : z = -1
        · subst hz
          go_wp2
          go_ret
          exact ⟨by rw [HN.out]; rfl, rfl⟩
        · have hz1 : (z != -1) = true := by simpa using hz
          clear hz
          go_wp2
          go_ret
          exact ⟨by rw [HN.out, hz1]; rfl, rfl⟩
      · have HN : Hid (arep l = decide (l.length ≤ 32)) := by
          show _ = _
          unfold arep; rw [hall, decide_eq_true h1]; simp
        clear hall HA
        have h1n : ((l.length : Int) != 1) = true := by simp; omega
        clear h1
        by_cases h2 : l.length ≤ 32
        · have HM : Hid (decide (l.length ≤ 32) = true) := by show _ = _; simpa using h2
          have h2d : decide ((l.length : Int) ≤ 32) = true := by simp; omega
          go_wp2
          go_ret
          exact ⟨by rw [HN.out, HM.out]; rfl, rfl⟩
        · have HM : Hid (decide (l.length ≤ 32) = false) := by show _ = _; simpa using h2
          have h2d : decide ((l.length : Int) ≤ 32) = false := by simp; omega
          go_wp2
          go_ret
          exact ⟨by rw [HN.out, HM.out]; rfl, rfl⟩
end Go.Proofs.YtmhmbeofcedjjaaDoor.Vt
namespace Go.Proofs.YtmhmbeofcedjjaaDoor.Vt
open Go.RowKit
open Cel (Blk Kept Tabs low Owns At)

/-- The texts of an action are no longer than a text can be. -/
def Fitly (a : Ac) : Prop := a.it.length ≤ 1000000000 ∧ a.tx.length ≤ 140737488355328 ∧ a.ps.length ≤ 140737488355328
set_option maxHeartbeats 2000000 in
theorem isHeadOf_any (a : Ac) (A : Option Addr) (c : Nat) (w : World) (h : RdI w A a.ps) (hl : Fitly a) : Calls Tryd.prog 30 #[acV a (.slice A a.ps.length c)] w fun e w' => e = .returned (.bool (headOf a)) ∧ Below w.heap.size w w' := by
  have hbl := (bare_le a.it).1
  have h1 := isFinal_any a.k a.b
  have h2 := unmarked_any a.it hl.1
  have h3 := areBetween_any (bare a.it) (by have := hl.1; omega)
  have kb : Below w.heap.size w (w.alloc (.cells #[.int .i64 a.k, .int .i32 a.r, .int .u8 a.b, .slice A a.ps.length c, .string (bs a.it), .string (bs a.tx)] 38)) := (Below.refl _ _).alloc (Nat.le_refl _) _
  have h4 := areParams_any A c a.ps _ (h.kept kb) hl.2.2
  have HN : Hid (headOf a = (isFin a.k a.b && (btw (bare a.it) && arep a.ps))) := by show _ = _; rfl
  clear h hl hbl
  unfold acV
  generalize headOf a = R at *
  generalize isFin a.k a.b = F1 at *
  generalize btw (bare a.it) = F2 at *
  generalize arep a.ps = F3 at *
  generalize bs (bare a.it) = Y at *
  generalize bs a.it = X at *
  generalize bs a.tx = Z at *
  generalize a.ps.length = n at *
  generalize a.k = k1 at *
  generalize a.b = b1 at *
  generalize a.r = r1 at *
  cases F1 with
  | false =>
    go_enter Tryd.func30, Tryd.ntmps30
    go_wp2_with (go_at_call 27; refine (h1 _).mono ?_; rintro e w' ⟨rfl, rfl⟩)
    go_ret
    exact ⟨by rw [HN.out]; rfl, kb⟩
  | true =>
    cases F2 with
    | false =>
      go_enter Tryd.func30, Tryd.ntmps30
      go_wp2_with (first | (go_at_call 27; refine (h1 _).mono ?_; rintro e w' ⟨rfl, rfl⟩) | (go_at_call 49; refine (h2 _).mono ?_; rintro e w' ⟨rfl, rfl⟩) | (go_at_call 28; refine (h3 _).mono ?_; rintro e w' ⟨rfl, rfl⟩))
      go_ret
      exact ⟨by rw [HN.out]; rfl, kb⟩
    | true =>
      go_enter Tryd.func30, Tryd.ntmps30
      go_wp2_with (first | (go_at_call 27; refine (h1 _).mono ?_; rintro e w' ⟨rfl, rfl⟩) | (go_at_call 49; refine (h2 _).mono ?_; rintro e w' ⟨rfl, rfl⟩) | (go_at_call 28; refine (h3 _).mono ?_; rintro e w' ⟨rfl, rfl⟩) | (go_at_call 50; refine h4.mono ?_; rintro e w' ⟨rfl, rfl⟩))
      go_ret
      exact ⟨by rw [HN.out]; cases F3 <;> rfl, kb⟩
end Go.Proofs.YtmhmbeofcedjjaaDoor.Vt
