/- The walks of the program's decoder, whole: a byte taken, fed, the end, a text decoded at once. -/
import Derived.Test.YtmhmbeofcedjjaaDoorBeg
namespace Go.Proofs.YtmhmbeofcedjjaaDoor.Cel
open Go.RowKit

theorem Fed.ne {db : Nat} {v v' : Value} {w : World} (hd : db < w.heap.size) (hne : v.ownBlock ≠ some db) (h : v'.ownBlock = v.ownBlock ∨ ∃ k, v'.ownBlock = some k ∧ w.heap.size ≤ k) : v'.ownBlock ≠ some db := by
  rcases h with h | ⟨k, h, hk⟩
  · rw [h]; exact hne
  · rw [h]; intro e; injection e with e; omega
theorem Fed.then {db base : Nat} {v v1 : Value} {l : List Int} {w w1 w2 : World} {d2 : Dec} {o1 o2 : List Int} {e : Ending}
    (hk : Kept w w1 (fun k => k = db ∨ v.ownBlock = some k)) (hv : v1.ownBlock = v.ownBlock ∨ ∃ k, v1.ownBlock = some k ∧ w.heap.size ≤ k)
    (h : Fed db base v1 (l ++ o1) w1 d2 o2 e w2) : Fed db base v l w d2 (o1 ++ o2) e w2 := by
  obtain ⟨v2, he, h1, h2, h3, h4⟩ := h
  refine ⟨v2, he, h1, by rw [← List.append_assoc]; exact h2, hk.trans h3 ?_, ?_⟩
  · intro i hi hp
    rcases hp with hp | hp
    · exact .inl hp
    · rcases hv with hv | ⟨k, hv, hk'⟩
      · exact .inr (by rw [← hv]; exact hp)
      · exfalso
        rw [hv] at hp
        injection hp with hp
        omega
  · rcases h4 with h4 | ⟨k, h4, hk'⟩
    · rcases hv with hv | ⟨k, hv, hk'⟩
      · exact .inl (h4.trans hv)
      · exact .inr ⟨k, h4.trans hv, hk'⟩
    · exact .inr ⟨k, h4, Nat.le_trans hk.size hk'⟩

set_option maxRecDepth 100000 in
set_option maxHeartbeats 400000 in
theorem take_any (d : Dec) (hi : Inv d) (db base : Nat) (v : Value) (l : List Int) (b : Int) (w : World) (ht : Tabs w) (hd : At w db d) (hown : Owns w base v l) (hlow : low ≤ base) (hdb : low ≤ db) (hbase : base ≤ w.heap.size) (hne : v.ownBlock ≠ some db)
    (hn : l.length ≤ 1099511627000) (hb0 : 0 ≤ b) (hb1 : b ≤ 255) :
    Calls Tryd.prog 60 #[.pointer (some ⟨db, 0, none⟩), v, .int .u8 b] w (Fed db base v l w (step d b).1 (step d b).2) := by
  have c0 : w.cell? ⟨db, 0, none⟩ = some (.int .i64 d.p) := hd.cell 0
  have c3 : w.cell? ⟨db, 3, none⟩ = some (.int .u8 d.lo) := hd.cell 3
  have c4 : w.cell? ⟨db, 4, none⟩ = some (.int .u8 d.hi) := hd.cell 4
  by_cases hf : fits d b
  · have HN : Hid (step d b = next d b) := step_fits hf
    obtain ⟨f1, f2, f3⟩ := hf
    have hg := goOn_any d hi db base v l b w hd hown hbase hne (by omega) f1 hb0 hb1
    go_enter Tryd.func60, Tryd.ntmps60
    go_wp2_with (go_at_call 65; refine hg.mono ?_; rintro e w' ⟨v', rfl, h1, h2, h3, h4⟩)
    go_ret
    exact ⟨v', rfl, by rw [HN.out]; exact h1, by rw [HN.out]; exact h2, h3, h4⟩
  · have HN : Hid (step d b = ((first b).1, lost d ++ (first b).2)) := by show _ = _; unfold step; rw [if_neg hf]
    have hll := lost_length d
    have hlp : pend d ≤ 1 := by unfold pend; split <;> omega
    have hdl := hd.lt
    have hdrop := drop_any d hi db base v l w hd hown hbase hne (by omega)
    have hbeg : ∀ (v1 : Value) (w1 : World), At w1 db zero → Owns w1 base v1 (l ++ lost d) → Kept w w1 (fun k => k = db ∨ v.ownBlock = some k) → (v1.ownBlock = v.ownBlock ∨ ∃ k, v1.ownBlock = some k ∧ w.heap.size ≤ k) →
        Calls Tryd.prog 66 #[.pointer (some ⟨db, 0, none⟩), v1, .int .u8 b] w1 (Fed db base v l w (first b).1 (lost d ++ (first b).2)) := by
      intro v1 w1 h1 h2 h3 h4
      refine (begin_any db base v1 (l ++ lost d) b w1 (ht.kept h3 ?_ (Nat.le_trans hlow hbase)) h1 h2 (Nat.le_trans hbase h3.size) (Fed.ne hdl hne h4) (by rw [List.length_append]; omega) hb0 hb1).mono fun e w2 hh => Fed.then h3 h4 hh
      intro k hk hp
      rcases hp with hp | hp
      · omega
      · have := (hown.lt k hp).1
        omega
    have HB := Lib.hid hbeg
    clear hbeg hll hlp
    have hways : ¬ 0 < d.p ∨ (0 < d.p ∧ ¬ d.lo ≤ b) ∨ (0 < d.p ∧ d.lo ≤ b ∧ ¬ b ≤ d.hi) := by unfold fits at hf; omega
    clear hf
    rcases hways with f1 | ⟨f1, f2⟩ | ⟨f1, f2, f3⟩
    all_goals
      go_enter Tryd.func60, Tryd.ntmps60
      go_wp2_with (first
        | (go_at_call 67; refine hdrop.mono ?_; rintro e w1 ⟨v1, rfl, h1, h2, h3, h4⟩)
        | (go_at_call 66; refine (HB.out v1 w1 h1 h2 h3 h4).mono ?_; rintro e w2 ⟨v2, rfl, k1, k2, k3, k4⟩))
      go_ret
      exact ⟨v2, rfl, by rw [HN.out]; exact k1, by rw [HN.out]; exact k2, k3, k4⟩

/-- A byte fed: what is told lies in new memory; of what was there the decoder alone has turned. -/
theorem feed_any (d : Dec) (hi : Inv d) (db : Nat) (b : Int) (w : World) (ht : Tabs w) (hd : At w db d) (hlow : low ≤ w.heap.size) (hdb : low ≤ db) (hb0 : 0 ≤ b) (hb1 : b ≤ 255) :
    Calls Tryd.prog 46 #[.pointer (some ⟨db, 0, none⟩), .int .u8 b] w fun e w' => ∃ v, e = .returned v ∧ At w' db (step d b).1 ∧ Owns w' w.heap.size v (step d b).2 ∧ Kept w w' (fun k => k = db) := by
  have hg := take_any d hi db w.heap.size (.slice none 0 0) [] b w ht hd (owns_nil _ _) hlow hdb (Nat.le_refl _) (by simp [Value.ownBlock]) (by simp) hb0 hb1
  go_enter Tryd.func46, Tryd.ntmps46
  go_wp2_with (go_at_call 60; refine hg.mono ?_; rintro e w' ⟨v', rfl, h1, h2, h3, h4⟩)
  go_ret
  exact ⟨v', rfl, h1, h2, h3.more fun k hk => by simpa [Value.ownBlock] using hk⟩

theorem end_any (d : Dec) (hi : Inv d) (db : Nat) (w : World) (hd : At w db d) :
    Calls Tryd.prog 64 #[.pointer (some ⟨db, 0, none⟩)] w fun e w' => ∃ v, e = .returned v ∧ At w' db zero ∧ Owns w' w.heap.size v (lost d) ∧ Kept w w' (fun k => k = db) := by
  have hg := drop_any d hi db w.heap.size (.slice none 0 0) [] w hd (owns_nil _ _) (Nat.le_refl _) (by simp [Value.ownBlock]) (by simp)
  go_enter Tryd.func64, Tryd.ntmps64
  go_wp2_with (go_at_call 67; refine hg.mono ?_; rintro e w' ⟨v', rfl, h1, h2, h3, h4⟩)
  go_ret
  exact ⟨v', rfl, h1, h2, h3.more fun k hk => by simpa [Value.ownBlock] using hk⟩

theorem take_succ_bytes (s : ByteArray) (k : Nat) (h : k < s.size) : s.data.toList.take (k + 1) = s.data.toList.take k ++ [s[k]] := by
  rw [List.take_succ_eq_append_getElem (by simpa using h)]; rfl

end Go.Proofs.YtmhmbeofcedjjaaDoor.Cel
