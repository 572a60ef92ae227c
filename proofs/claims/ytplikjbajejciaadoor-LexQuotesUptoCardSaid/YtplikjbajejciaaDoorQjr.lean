/- lex: the document's own answer to words as they are written. -/
import Derived.Test.YtplikjbajejciaaDoorQrz
namespace Go.Proofs.YtplikjbajejciaaDoor.Lex
open Go.RowKit
theorem joinP_snoc : ∀ (l : List Tx) (t : Tx), l ≠ [] → joinP (l ++ [t]) = joinP l ++ 32 :: quoteP t
  | [], _, h => absurd rfl h
  | [a], t, _ => by
    show joinP [a, t] = _
    rw [joinP_cons, joinP_one, joinP_one]
  | a :: b :: l, t, _ => by
    show joinP (a :: b :: (l ++ [t])) = _
    rw [joinP_cons, joinP_cons]
    have := joinP_snoc (b :: l) t (by simp)
    rw [List.cons_append] at this
    rw [this]
    simp
theorem joinP_take (l : List Tx) (k : Nat) : (joinP (l.take k)).length ≤ (joinP l).length := by
  induction k with
  | zero => rw [List.take_zero, joinP_nil]; exact Nat.zero_le _
  | succ k ih =>
    by_cases h : k + 1 < l.length
    · have key : ∀ (a b : List Tx), (joinP a).length ≤ (joinP (a ++ b)).length := fun a b => by
        induction b generalizing a with
        | nil => rw [List.append_nil]; exact Nat.le_refl _
        | cons t b ihb =>
          have h1 : (joinP a).length ≤ (joinP (a ++ [t])).length := by
            cases a with
            | nil => rw [joinP_nil]; exact Nat.zero_le _
            | cons x a => rw [joinP_snoc _ _ (by simp), List.length_append]; omega
          have h2 := ihb (a ++ [t])
          rw [List.append_assoc] at h2
          exact Nat.le_trans h1 h2
      have := key (l.take (k + 1)) (l.drop (k + 1))
      rw [List.take_append_drop] at this
      exact this
    · rw [List.take_of_length_le (by omega)]; exact Nat.le_refl _
set_option maxRecDepth 100000 in
set_option maxHeartbeats 4000000 in
/-- The document's answer to words. -/
theorem refJoin_any (l : List Tx) (A : Option Addr) (c : Nat) (w : World) (hp : StAt w.heap.size w A l) (hn : l.length ≤ 1100000) (hl : ∀ t ∈ l, t.length ≤ 2000000) (hj : (joinP l).length ≤ 8000000) :
    Calls Tryd.prog 9 #[.slice A l.length c] w fun e w' => e = .returned (.string (bs (joinP l))) ∧ Below w.heap.size w w' := by
  have HP := Lib.hid hp
  have HJ := Lib.hid hj
  have HQ : Hid (∀ k (h : k < l.length) (V : World), Calls Tryd.prog 7 #[.string (bs l[k])] V fun e w' => e = .returned (.string (bs (quoteP l[k]))) ∧ Below V.heap.size V w') := fun k h V => refQuote_any l[k] (hl _ (List.getElem_mem h)) V
  clear hp hl hj
  go_enter Tryd.func9, Tryd.ntmps9
  go_wp2_with fail
  go_loopw [3, 4] (fun bv i wr => ∃ k : Nat, k ≤ l.length ∧ i = .int .i64 (k : Int) ∧ wr.ownsRow w.heap.size 5 1 bv (joinP (l.take k)).length (bytV (joinP (l.take k))) ∧ Below w.heap.size w wr) (fun _ i _ => l.length - (intOf i).toNat)
  case atStart => exact ⟨0, Nat.zero_le _, rfl, World.ownsRow_nil _ _ _ _, Below.refl _ _⟩
  case round =>
    obtain ⟨k, hk, rfl, hown, hb⟩ := hrel
    obtain ⟨A2, c2, rfl⟩ := own_slice hown
    by_cases hlt : k < l.length
    · have hki : (k : Int) < (l.length : Int) := by omega
      obtain ⟨g, o, rfl, hg, hcell⟩ := HP.out k hlt
      have hc := (hb.cell (p := ⟨g, o + k, none⟩) hg).trans hcell
      have hJk := joinP_take l k
      have hJk1 := joinP_take l (k + 1)
      have hJ := HJ.out
      have HTK := Lib.hid (show l.take (k + 1) = l.take k ++ [l[k]] from List.take_succ_eq_append_getElem hlt)
      obtain ⟨L, hL⟩ : ∃ L, L = joinP (l.take k) := ⟨_, rfl⟩
      have HL := Lib.hid hL
      rw [← hL] at hown hJk ⊢
      have HK := Lib.hid (show L.length ≤ 8000000 by omega)
      obtain ⟨n0, hn0⟩ : ∃ n, n = L.length := ⟨_, rfl⟩
      have HN0 := Lib.hid hn0
      have HB := Lib.hid hb
      have HQK := Lib.hid (HQ.out k hlt)
      have HLT := Lib.hid hlt
      generalize l[k] = lk at *
      obtain ⟨q, hq⟩ : ∃ q, q = quoteP lk := ⟨_, rfl⟩
      rw [← hq] at HQK
      have HQE := Lib.hid hq
      have HJ1 : Hid ((joinP (l.take (k + 1))).length ≤ 8000000) := Lib.hid (by omega)
      have hown' : ∀ v, v = Value.slice A2 n0 c2 → wr.ownsRow w.heap.size 5 1 v L.length (bytV L) := fun v hv => by rw [hv, hn0]; exact hown
      have HO := Lib.hid hown'
      rw [← hn0]
      clear hown hown' hb hcell hL hn0 hq hJk hJk1 hJ
      rcases Nat.eq_zero_or_pos k with hk0 | hk0
      · have hL0 : L = [] := by rw [HL.out, hk0, List.take_zero]; rfl
        have HJE := Lib.hid (show joinP (l.take (k + 1)) = L ++ q by rw [HTK.out, hL0, hk0, List.take_zero, HQE.out]; exact joinP_one _)
        obtain ⟨n1, hn1⟩ : ∃ n, (L ++ q).length = n := ⟨_, rfl⟩
        have HN1 := Lib.hid hn1
        have HK1 := Lib.hid (show L.length + q.length ≤ 10000000 by have := HJ1.out; rw [HJE.out, List.length_append] at this; omega)
        subst hk0
        have hc0 : wr.cell? ⟨g, o, none⟩ = some (.string (bs lk)) := hc
        clear hL0 hn1
        go_wp2_with fail
        refine (HQK.out _).mono ?_
        rintro _ w2 ⟨rfl, h2⟩
        have HB2 := Lib.hid (HB.out.trans (h2.mono HB.out.size))
        have HO2 := Lib.hid (fun v hv => own_below (HO.out v hv) h2)
        clear h2
        go_wp2_with (at_builtin; refine wpList_append_tx2 rfl _ _ rfl w.heap.size (.slice A2 n0 c2) L rfl (HO2.out _ rfl) q rfl HK1.out HB2.out.size ?_; intro v5 w5 ho5 hg5; rw [HN1.out] at ho5; obtain ⟨A5, c5, rfl⟩ := own_slice ho5; have HO5 := Lib.hid ho5; have HB5 := Lib.hid (HB2.out.grown hg5 HB2.out.size (fun i hi => ((HO2.out _ rfl).lt i hi).1)); clear ho5 hg5)
        go_roundw
        case rel => exact ⟨1, HLT.out, by go_num, by rw [HJE.out, HN1.out]; exact HO5.out, HB5.out⟩
        case measure => simp [intOf]; omega
      · have hkp : (0 : Int) < (k : Int) := by omega
        have HJE := Lib.hid (show joinP (l.take (k + 1)) = L ++ [32] ++ q by
          rw [HTK.out, joinP_snoc _ _ (by
            intro e
            have := congrArg List.length e
            rw [List.length_take, Nat.min_eq_left hk, List.length_nil] at this
            omega), ← HL.out, HQE.out]; simp)
        obtain ⟨n1, hn1⟩ : ∃ n, (L ++ [32]).length = n := ⟨_, rfl⟩
        obtain ⟨n2, hn2⟩ : ∃ n, (L ++ [32] ++ q).length = n := ⟨_, rfl⟩
        have HN1 := Lib.hid hn1
        have HN2 := Lib.hid hn2
        have HK1 := Lib.hid (show (L ++ [32]).length + q.length ≤ 10000000 by have := HJ1.out; rw [HJE.out, List.length_append] at this; omega)
        have HOX : Hid (∀ v, v = Value.slice A2 n0 c2 → (wr.alloc (.cells #[.int .u8 32] 5)).ownsRow w.heap.size 5 1 v L.length (bytV L)) := fun v hv => (HO.out v hv).alloc _
        have HBX := Lib.hid (HB.out.alloc HB.out.size (.cells #[.int .u8 32] 5))
        have HNX : Hid (BL (wr.alloc (.cells #[.int .u8 32] 5)) wr.heap.size 5 [.int .u8 ((32 : UInt8).toNat : Int)]) := BL.new wr 5 [.int .u8 32]
        have HKX := Lib.hid (show L.length ≤ 10000000 by have := HK.out; omega)
        clear hn1 hn2
        go_wp2_with (at_builtin; refine wpList_app_b rfl _ _ rfl w.heap.size (.slice A2 n0 c2) L 32 rfl (HOX.out _ rfl) _ 1 rfl HNX.out HBX.out.size HKX.out ?_; intro v4 w4 ho4 hg4; rw [HN1.out] at ho4; obtain ⟨A4, c4, rfl⟩ := own_slice ho4; have HO4 : Hid (∀ v, v = Value.slice A4 n1 c4 → w4.ownsRow w.heap.size 5 1 v (L ++ [32]).length (bytV (L ++ [32]))) := (fun v hv => (by rw [hv, HN1.out]; exact ho4)); have HB4 := Lib.hid (HBX.out.grown hg4 HBX.out.size (fun i hi => ((HOX.out _ rfl).lt i hi).1)); have hc4 := (HB4.out.cell (p := ⟨g, o + k, none⟩) hg).trans ((HB.out.cell (p := ⟨g, o + k, none⟩) hg).symm.trans hc); clear ho4 hg4)
        refine (HQK.out _).mono ?_
        rintro _ w2 ⟨rfl, h2⟩
        have HB2 := Lib.hid (HB4.out.trans (h2.mono HB4.out.size))
        have HO2 := Lib.hid (fun v hv => own_below (HO4.out v hv) h2)
        clear h2
        go_wp2_with (at_builtin; refine wpList_append_tx2 rfl _ _ rfl w.heap.size (.slice A4 n1 c4) (L ++ [32]) rfl (HO2.out _ rfl) q rfl HK1.out HB2.out.size ?_; intro v5 w5 ho5 hg5; rw [HN2.out] at ho5; obtain ⟨A5, c5, rfl⟩ := own_slice ho5; have HO5 := Lib.hid ho5; have HB5 := Lib.hid (HB2.out.grown hg5 HB2.out.size (fun i hi => ((HO2.out _ rfl).lt i hi).1)); clear ho5 hg5)
        go_roundw
        case rel => exact ⟨k + 1, HLT.out, by go_num, by rw [HJE.out, HN2.out]; exact HO5.out, HB5.out⟩
        case measure => simp [intOf]; omega
    · obtain rfl : k = l.length := by omega
      have hki : ¬ (l.length : Int) < (l.length : Int) := by omega
      rw [List.take_length] at hown ⊢
      have hcv := own_text hown
      have HB := Lib.hid hb
      clear hown hb
      go_wp2_with fail
      go_ret
      exact ⟨rfl, HB.out⟩
end Go.Proofs.YtplikjbajejciaaDoor.Lex
