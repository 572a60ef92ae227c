/- The walks of the program's decoder, whole: a byte taken, fed, the end, a text decoded at once. -/
import Derived.Test.YtbiinghmopgjnaaGreatDoorBeg
namespace Go.Proofs.YtbiinghmopgjnaaGreatDoor.Cel
open Go.RowKit

theorem Fed.ne {db : Nat} {v v' : Value} {w : World} (hd : db < w.heap.size) (hne : v.ownBlock ≠ some db) (h : v'.ownBlock = v.ownBlock ∨ ∃ k, v'.ownBlock = some k ∧ w.heap.size ≤ k) : v'.ownBlock ≠ some db := by
  rcases h with h | ⟨k, h, hk⟩
  · rw [h]; exact hne
  · rw [h]; intro e; injection e with e; omega
theorem Fed.then {db base : Nat} {v v1 : Value} {l : List Int} {w w1 w2 : World} {d2 : Dec} {o1 o2 : List Int} {e : Ending}
    (hk : Kept w w1 (fun k => k = db ∨ v.ownBlock = some k)) (hv : v1.ownBlock = v.ownBlock ∨ ∃ k, v1.ownBlock = some k ∧ w.heap.size ≤ k)
    (h : Fed db base v1 (l ++ o1) w1 d2 o2 e w2) : Fed db base v l w d2 (o1 ++ o2) e w2 := by
  obtain ⟨v2, he, h1, h2, h3, h4⟩ := h
  refine ⟨v2, he, h1, by rw [← List.append_assoc]; exact h2, hk.trans h3 ?_, ?_⟩
  · intro i hi hp
    rcases hp with hp | hp
    · exact .inl hp
    · rcases hv with hv | ⟨k, hv, hk'⟩
      · exact .inr (by rw [← hv]; exact hp)
      · exfalso
        rw [hv] at hp
        injection hp with hp
        omega
  · rcases h4 with h4 | ⟨k, h4, hk'⟩
    · rcases hv with hv | ⟨k, hv, hk'⟩
      · exact .inl (h4.trans hv)
      · exact .inr ⟨k, h4.trans hv, hk'⟩
    · exact .inr ⟨k, h4, Nat.le_trans hk.size hk'⟩

set_option maxRecDepth 100000 in
set_option maxHeartbeats 400000 in
theorem take_any (d : Dec) (hi : Inv d) (db base : Nat) (v : Value) (l : List Int) (b : Int) (w : World) (ht : Tabs w) (hd : At w db d) (hown : Owns w base v l) (hlow : low ≤ base) (hdb : low ≤ db) (hbase : base ≤ w.heap.size) (hne : v.ownBlock ≠ some db)
    (hn : l.length ≤ 1099511627000) (hb0 : 0 ≤ b) (hb1 : b ≤ 255) :
    Calls Tryz.prog 141 #[.pointer (some ⟨db, 0, none⟩), v, .int .u8 b] w (Fed db base v l w (step d b).1 (step d b).2) := by
  have c0 : w.cell? ⟨db, 0, none⟩ = some (.int .i64 d.p) := hd.cell 0
  have c3 : w.cell? ⟨db, 3, none⟩ = some (.int .u8 d.lo) := hd.cell 3
  have c4 : w.cell? ⟨db, 4, none⟩ = some (.int .u8 d.hi) := hd.cell 4
  by_cases hf : fits d b
  · have HN : Hid (step d b = next d b) := step_fits hf
    obtain ⟨f1, f2, f3⟩ := hf
    have hg := goOn_any d hi db base v l b w hd hown hbase hne (by omega) f1 hb0 hb1
    go_enter Tryz.func141, Tryz.ntmps141
    go_wp2_with (go_at_call 176; refine hg.mono ?_; rintro e w' ⟨v', rfl, h1, h2, h3, h4⟩)
    go_ret
    exact ⟨v', rfl, by rw [HN.out]; exact h1, by rw [HN.out]; exact h2, h3, h4⟩
  · have HN : Hid (step d b = ((first b).1, lost d ++ (first b).2)) := by show _ = _; unfold step; rw [if_neg hf]
    have hll := lost_length d
    have hlp : pend d ≤ 1 := by unfold pend; split <;> omega
    have hdl := hd.lt
    have hdrop := drop_any d hi db base v l w hd hown hbase hne (by omega)
    have hbeg : ∀ (v1 : Value) (w1 : World), At w1 db zero → Owns w1 base v1 (l ++ lost d) → Kept w w1 (fun k => k = db ∨ v.ownBlock = some k) → (v1.ownBlock = v.ownBlock ∨ ∃ k, v1.ownBlock = some k ∧ w.heap.size ≤ k) →
        Calls Tryz.prog 177 #[.pointer (some ⟨db, 0, none⟩), v1, .int .u8 b] w1 (Fed db base v l w (first b).1 (lost d ++ (first b).2)) := by
      intro v1 w1 h1 h2 h3 h4
      refine (begin_any db base v1 (l ++ lost d) b w1 (ht.kept h3 ?_ (Nat.le_trans hlow hbase)) h1 h2 (Nat.le_trans hbase h3.size) (Fed.ne hdl hne h4) (by rw [List.length_append]; omega) hb0 hb1).mono fun e w2 hh => Fed.then h3 h4 hh
      intro k hk hp
      rcases hp with hp | hp
      · omega
      · have := (hown.lt k hp).1
        omega
    have HB := Lib.hid hbeg
    clear hbeg hll hlp
    have hways : ¬ 0 < d.p ∨ (0 < d.p ∧ ¬ d.lo ≤ b) ∨ (0 < d.p ∧ d.lo ≤ b ∧ ¬ b ≤ d.hi) := by unfold fits at hf; omega
    clear hf
    rcases hways with f1 | ⟨f1, f2⟩ | ⟨f1, f2, f3⟩
    all_goals
      go_enter Tryz.func141, Tryz.ntmps141
      go_wp2_with (first
        | (go_at_call 142; refine hdrop.mono ?_; rintro e w1 ⟨v1, rfl, h1, h2, h3, h4⟩)
        | (go_at_call 177; refine (HB.out v1 w1 h1 h2 h3 h4).mono ?_; rintro e w2 ⟨v2, rfl, k1, k2, k3, k4⟩))
      go_ret
      exact ⟨v2, rfl, by rw [HN.out]; exact k1, by rw [HN.out]; exact k2, k3, k4⟩

theorem take_succ_bytes (s : ByteArray) (k : Nat) (h : k < s.size) : s.data.toList.take (k + 1) = s.data.toList.take k ++ [s[k]] := by
  rw [List.take_succ_eq_append_getElem (by simpa using h)]; rfl

set_option maxRecDepth 100000 in
set_option maxHeartbeats 400000 in
/-- A text decoded. -/
theorem runes_any (s : ByteArray) (w : World) (ht : Tabs w) (hlow : low ≤ w.heap.size) (hs : s.size ≤ 1099511626000) :
    Calls Tryz.prog 117 #[.string s] w fun e w' => ∃ v, e = .returned v ∧ Owns w' w.heap.size v (runes s.data.toList) ∧ Below w.heap.size w w' := by
  have hnew : At (w.alloc (.cells zero.cells 222)) w.heap.size zero := Blk.new _ _ _
  have hb1 : Below w.heap.size w (w.alloc (.cells zero.cells 222)) := (Below.refl _ _).alloc (Nat.le_refl _) _
  have hlen : s.data.toList.length = s.size := by rw [Array.length_toList]; rfl
  go_enter Tryz.func117, Tryz.ntmps117
  go_wp2_with (go_at_call 140; refine (new_any w).mono ?_; rintro e w1 ⟨rfl, hw1⟩; rw [hw1] at hnew hb1; clear hw1; have hs1 := hb1.size; have hl1 := hnew.lt)
  have HLEN := Lib.hid hlen
  clear hlen
  go_loopw [3, 9] (fun v i wr => ∃ k : Nat, k ≤ s.size ∧ i = .int .i64 k ∧ At wr w.heap.size (run zero (s.data.toList.take k)).1 ∧ Owns wr (w.heap.size + 1) v (run zero (s.data.toList.take k)).2 ∧ Below w.heap.size w wr ∧ w.heap.size + 1 ≤ wr.heap.size) (fun _ i _ => s.size - (intOf i).toNat)
  case atStart => exact ⟨0, Nat.zero_le _, rfl, hnew, owns_nil _ _, hb1, hl1⟩
  case round =>
    obtain ⟨k, hk, rfl, hat, hown, hb, hl⟩ := hrel
    have hti := run_inv (s.data.toList.take k) zero inv_zero
    have htc := run_count (s.data.toList.take k) zero inv_zero
    have htl : (s.data.toList.take k).length ≤ k := List.length_take_le _ _
    have hp0 : pend zero = 0 := by simp [pend, zero]
    have hne : ∀ v : Value, Owns wr (w.heap.size + 1) v (run zero (s.data.toList.take k)).2 → v.ownBlock ≠ some w.heap.size := fun v h e => by
      have := (h.lt _ e).1
      omega
    have hne' := hne _ hown
    clear hne
    have htr : Tabs wr := ht.below hb hlow
    by_cases hlt : k < s.size
    · have hby := byte_le s[k]
      have HT : Hid (run zero (s.data.toList.take (k + 1)) = ((step (run zero (s.data.toList.take k)).1 (s[k].toNat : Int)).1, (run zero (s.data.toList.take k)).2 ++ (step (run zero (s.data.toList.take k)).1 (s[k].toNat : Int)).2)) := by
        show _ = _
        rw [take_succ_bytes s k hlt, run_snoc]
      have hg := take_any _ hti.1 w.heap.size (w.heap.size + 1) _ _ (s[k].toNat : Int) wr htr hat hown (by omega) (by omega) hl hne' (by omega) hby.1 hby.2
      clear hti htc htl hp0
      go_wp2_with (go_at_call 141; refine hg.mono ?_; rintro e w' ⟨v', rfl, h1, h2, h3, h4⟩)
      go_roundw
      case rel =>
        refine ⟨k + 1, by omega, by go_num, by rw [HT.out]; exact h1, by rw [HT.out]; exact h2, hb.trans (h3.below (Nat.le_trans (Nat.le_succ _) hl) ?_), Nat.le_trans hl h3.size⟩
        intro i hi hp
        rcases hp with hp | hp
        · omega
        · have := (hown.lt i hp).1
          omega
      case measure => simp [intOf]; omega
    · have HK : Hid (s.data.toList.take k = s.data.toList) := by show _ = _; exact List.take_of_length_le (by rw [HLEN.out]; omega)
      have hg := drop_any _ hti.1 w.heap.size (w.heap.size + 1) _ _ wr hat hown hl hne' (by omega)
      clear hti htc htl hp0
      go_wp2_with (go_at_call 142; refine hg.mono ?_; rintro e w' ⟨v', rfl, h1, h2, h3, h4⟩)
      go_ret
      refine ⟨v', rfl, ?_, hb.trans (h3.below (Nat.le_trans (Nat.le_succ _) hl) ?_)⟩
      · rw [HK.out] at h2
        exact own_rebase h2 fun i hi => Nat.le_of_succ_le (h2.lt i hi).1
      · intro i hi hp
        rcases hp with hp | hp
        · omega
        · have := (hown.lt i hp).1
          omega

/-- A list of the call's own, written as a text. -/
theorem convert_owned {w : World} {base : Nat} {v : Value} {l : List Int} (h : Owns w base v l) : (convert 160 9 v).run Tryz.prog w = .ok (.string (runesBytes l)) w := by
  rcases h.2 with ⟨rfl, h0⟩ | ⟨g, cap, cur, rfl, _⟩
  · have e : l = [] := List.eq_nil_of_length_eq_zero h0
    subst e
    exact run_convert_runes_nil (P := Tryz.prog) w _ _ 21 0 0 Tryz.underlying160 Tryz.underlying21 Tryz.underlying9
  · have hc := h.cells (g := g) rfl
    have hr := run_convert_runes (P := Tryz.prog) w 160 9 21 ⟨g, 0, none⟩ l.length cap l (Nat.le_refl _) Tryz.underlying160 Tryz.underlying21 Tryz.underlying9
      (fun j hj => hc j _ (by simp [zs, List.getElem?_eq_getElem hj, List.getD]))
    rw [List.take_length] at hr
    exact hr
/-- A text mended: its runes, written anew. -/
theorem mended_any (s : ByteArray) (w : World) (ht : Tabs w) (hlow : low ≤ w.heap.size) (hs : s.size ≤ 1099511626000) :
    Calls Tryz.prog 91 #[.string s] w fun e w' => e = .returned (.string (runesBytes (runes s.data.toList))) ∧ Below w.heap.size w w' := by
  have hg := runes_any s w ht hlow hs
  go_enter Tryz.func91, Tryz.ntmps91
  go_wp2_with (go_at_call 117; refine hg.mono ?_; rintro e w' ⟨v, rfl, h1, h2⟩; have hcv := convert_owned h1)
  go_ret
  exact ⟨rfl, h2⟩
end Go.Proofs.YtbiinghmopgjnaaGreatDoor.Cel
