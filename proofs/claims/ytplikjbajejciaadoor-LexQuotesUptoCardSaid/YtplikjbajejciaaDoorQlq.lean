/- lex: the law on words as they are written, its text. -/
import Derived.Test.YtplikjbajejciaaDoorQjr
namespace Go.Proofs.YtplikjbajejciaaDoor.Lex
open Go.RowKit
theorem tot_mem : ∀ {l : List Tx} {t : Tx}, t ∈ l → t.length ≤ total l
  | a :: l, t, h => by
    rw [total_cons]
    rcases List.mem_cons.1 h with rfl | h
    · omega
    · have := tot_mem h
      omega
set_option maxRecDepth 100000 in
set_option maxHeartbeats 4000000 in
theorem quotes_walk (l : List Tx) (A : Option Addr) (c : Nat) (w : World) (hp : StAt w.heap.size w A l) (hb : total l + l.length ≤ 1048576) :
    Calls Tryd.prog 3 #[.slice A l.length c] w fun e w' => e = .returned (.bool true) ∧ Below w.heap.size w w' := by
  have HSH := Lib.hid (shown_any w)
  have hjl := joinP_len l
  have hl : ∀ t ∈ l, t.length ≤ 2000000 := fun t h => by have := tot_mem h; omega
  have HP := Lib.hid hp
  have hn : l.length ≤ 1048576 := by omega
  have HQ : Hid (∀ k (h : k < l.length) (V : World), Calls Tryd.prog 6 #[.string (bs l[k])] V fun e w' => e = .returned (.string (bs (quoteP l[k]))) ∧ Below V.heap.size V w') := fun k h V => Quote_any l[k] (hl _ (List.getElem_mem h)) V
  have HR : Hid (∀ k (h : k < l.length) (V : World), Calls Tryd.prog 7 #[.string (bs l[k])] V fun e w' => e = .returned (.string (bs (quoteP l[k]))) ∧ Below V.heap.size V w') := fun k h V => refQuote_any l[k] (hl _ (List.getElem_mem h)) V
  have HJ1 : Hid (∀ V, StAt V.heap.size V A l → Calls Tryd.prog 8 #[.slice A l.length c] V fun e w' => e = .returned (.string (bs (joinP l))) ∧ Below V.heap.size V w') := Lib.hid fun V h => Join_any l A c V h (by omega) hl (by omega)
  have HJ2 : Hid (∀ V, StAt V.heap.size V A l → Calls Tryd.prog 9 #[.slice A l.length c] V fun e w' => e = .returned (.string (bs (joinP l))) ∧ Below V.heap.size V w') := Lib.hid fun V h => refJoin_any l A c V h (by omega) hl (by omega)
  clear hp hb hjl hl
  go_enter Tryd.func3, Tryd.ntmps3
  go_wp2_with fail
  refine HSH.out.mono ?_
  rintro _ w1 ⟨rfl, hb1⟩
  have HB1 := Lib.hid hb1
  clear hb1
  go_wp2_with fail
  go_loopw [4] (fun i wr => ∃ k : Nat, k ≤ l.length ∧ i = .int .i64 (k : Int) ∧ Below w.heap.size w wr) (fun i _ => l.length - (intOf i).toNat)
  case atStart => exact ⟨0, Nat.zero_le _, rfl, HB1.out⟩
  case round =>
    obtain ⟨k, hk, rfl, hb⟩ := hrel
    have HB := Lib.hid hb
    have fin : True := trivial
    by_cases hlt : k < l.length ∧ k < 50
    · obtain ⟨hlt, h50⟩ := hlt
      have hki : (k : Int) < (l.length : Int) := by omega
      have hk50 : (k : Int) < 50 := by omega
      obtain ⟨g, o, rfl, hg, hcell⟩ := HP.out k hlt
      have hc := (hb.cell (p := ⟨g, o + k, none⟩) hg).trans hcell
      have HQK := Lib.hid (HQ.out k hlt)
      have HRK := Lib.hid (HR.out k hlt)
      have HLT := Lib.hid hlt
      clear hb hcell
      generalize l[k] = lk at *
      have HC2 := Lib.hid (show ∀ V, Below wr.heap.size wr V → V.cell? ⟨g, o + k, none⟩ = some (.string (bs lk)) from fun V hV => (hV.cell (p := ⟨g, o + k, none⟩) (Nat.lt_of_lt_of_le hg HB.out.size)).trans hc)
      have HQK2 : Hid (Calls Tryd.prog 6 #[.string (bs lk)] wr.drew fun e w' => e = .returned (.string (bs (quoteP lk))) ∧ Below wr.heap.size wr w') := Lib.hid ((HQK.out _).mono fun e w' ⟨h1, h2⟩ => ⟨h1, ((Below.refl wr.heap.size wr).drew).trans h2⟩)
      have HRK2 : Hid (∀ V, Below wr.heap.size wr V → Calls Tryd.prog 7 #[.string (bs lk)] V fun e w' => e = .returned (.string (bs (quoteP lk))) ∧ Below wr.heap.size wr w') := Lib.hid fun V hV => (HRK.out V).mono fun e w' ⟨h1, h2⟩ => ⟨h1, hV.trans (h2.mono hV.size)⟩
      obtain ⟨X, hX⟩ : ∃ X, X = bs lk := ⟨_, rfl⟩
      obtain ⟨Y, hY⟩ : ∃ Y, Y = bs (quoteP lk) := ⟨_, rfl⟩
      rw [← hX] at HC2 hc
      rw [← hX, ← hY] at HQK2 HRK2
      clear hX hY HQK HRK
      have hqq : (Y.toList == Y.toList) = true := by simp
      go_wp2_with fail
      go_region_with (first
        | (go_at_call 6; refine HQK2.out.mono ?_; rintro _ w2 ⟨rfl, h2⟩; have hc2 := HC2.out w2 h2; have H2 := Lib.hid h2; clear h2)
        | (go_at_call 7; refine (HRK2.out _ H2.out).mono ?_; rintro _ w3 ⟨rfl, h3⟩; have H3 := Lib.hid h3; clear h3))
      all_goals
        go_wp2_with fail
        go_roundw
        case rel => exact ⟨k + 1, HLT.out, by go_num, HB.out.trans (H3.out.mono HB.out.size)⟩
        case measure => simp [intOf]; omega
    · have HS1 := Lib.hid (HP.out)
      have hJ1 := HJ1.out wr (fun j hj => by obtain ⟨g, o, e, hg, hc⟩ := HP.out j hj; exact ⟨g, o, e, Nat.lt_of_lt_of_le hg hb.size, (hb.cell (p := ⟨g, o + j, none⟩) hg).trans hc⟩)
      have H1 := Lib.hid hJ1
      have hS : ∀ V, Below wr.heap.size wr V → StAt V.heap.size V A l := fun V hV j hj => by
        obtain ⟨g, o, e, hg, hc⟩ := HP.out j hj
        have hg2 : g < wr.heap.size := Nat.lt_of_lt_of_le hg hb.size
        exact ⟨g, o, e, Nat.lt_of_lt_of_le hg2 hV.size, (hV.cell (p := ⟨g, o + j, none⟩) hg2).trans ((hb.cell (p := ⟨g, o + j, none⟩) hg).trans hc)⟩
      have HS := Lib.hid hS
      clear hb hJ1 hS
      have fwd : ∀ (S : ByteArray), (S.toList == S.toList) = true := fun S => by simp
      by_cases hkl : k < l.length
      · have hki : (k : Int) < (l.length : Int) := by omega
        have hk50 : ¬ (k : Int) < 50 := by omega
        go_wp2_with fail
        refine H1.out.mono ?_
        rintro _ w2 ⟨rfl, h2⟩
        have H2 := Lib.hid (HJ2.out w2 (HS.out w2 h2))
        have HB2 := Lib.hid (HB.out.trans (h2.mono HB.out.size))
        clear h2
        go_wp2_with fail
        refine H2.out.mono ?_
        rintro _ w3 ⟨rfl, h3⟩
        have HB3 := Lib.hid (HB2.out.trans (h3.mono HB2.out.size))
        clear h3
        generalize bs (joinP l) = S at *
        have hS2 := fwd S
        go_wp2_with fail
        go_ret
        exact ⟨by simp, HB3.out⟩
      · have hki : ¬ (k : Int) < (l.length : Int) := by omega
        go_wp2_with fail
        refine H1.out.mono ?_
        rintro _ w2 ⟨rfl, h2⟩
        have H2 := Lib.hid (HJ2.out w2 (HS.out w2 h2))
        have HB2 := Lib.hid (HB.out.trans (h2.mono HB.out.size))
        clear h2
        go_wp2_with fail
        refine H2.out.mono ?_
        rintro _ w3 ⟨rfl, h3⟩
        have HB3 := Lib.hid (HB2.out.trans (h3.mono HB2.out.size))
        clear h3
        generalize bs (joinP l) = S at *
        have hS2 := fwd S
        go_wp2_with fail
        go_ret
        exact ⟨by simp, HB3.out⟩
end Go.Proofs.YtplikjbajejciaaDoor.Lex
