/- lex: a byte taken; what may stand behind a word; letters behind a backslash. -/
import Derived.Test.YtplikjbajejciaaDoorQnx
namespace Go.Proofs.YtplikjbajejciaaDoor.Lex
open Go.RowKit
def ftV (e l : Nat) : Value := .iface 65 (.agg #[.int .i64 (e : Int), .int .i64 (l : Int)])
/-- What a refused text panics with. -/
def ftP (e l : Nat) : List PanicEntry := [{ v := ftV e l, recovered := false }]
def Rd.adv (R : Rd) (c : UInt8) : Rd := { R with i := R.i + 1, n := nl c R.n }
theorem Ok.adv {R : Rd} {c : UInt8} {s : Tx} (h : Ok R (c :: s)) : Ok (R.adv c) s := by
  have hs := h.sum
  rw [List.length_cons] at hs
  refine ⟨?_, by show R.i + 1 + s.length = R.T.length; omega, h.most, ?_⟩
  · show R.T.drop (R.i + 1) = s
    rw [← List.drop_drop, h.rest]; rfl
  · show nl c R.n ≤ R.i + 1 + 1
    have := h.line
    unfold nl; split <;> omega
theorem one_set (w : World) (b k : Nat) (v : Value) : Only [b] w (w.setCell ⟨b, k, none⟩ v) := (Only.refl [b] w).setCell (.inl (by simp)) v
set_option maxRecDepth 100000 in
theorem take_end {w : World} {rb : Nat} {R : Rd} (h : RAt w rb R) (ho : Ok R []) :
    Calls Tryd.prog 41 #[ptrV rb] w fun e w' => e = .returned (.string { data := #[] }) ∧ RAt w' rb R ∧ Only [rb] w w' := by
  have HN : Hid (Calls Tryd.prog 36 #[ptrV rb] w fun e w' => e = .returned (.string { data := #[] }) ∧ Only [] w w') := next_any h ho
  have hs := ho.sum
  have hm := ho.most
  have z1 : (R.i : Int) ≤ 65536 := by simp at hs; omega
  have H := Lib.hid h
  clear h ho hs hm
  obtain ⟨i, hi⟩ : ∃ i, i = R.i := ⟨_, rfl⟩
  rw [← hi] at z1
  have HI := Lib.hid hi
  clear hi
  unfold ptrV at *
  go_enter Tryd.func41, Tryd.ntmps41
  go_wp2_with fail
  refine HN.out.mono ?_
  rintro _ w1 ⟨rfl, ho1⟩
  have h1 : RAt w1 rb R := H.out.only ho1 (by simp)
  have c1 : w1.cell? ⟨rb, 1, none⟩ = some (.int .i64 (i : Int)) := by rw [HI.out]; exact BL.cell h1 1
  have f1 : w1.frozen? ⟨rb, 1, none⟩ = false := BL.frozen h1 1
  have H2 : Hid (RAt (w1.setCell ⟨rb, 1, none⟩ (.int .i64 (i : Int))) rb R) := by
    have := BL.set_ h1 1 (.int .i64 (i : Int))
    rw [HI.out] at this ⊢
    exact this
  have HO := Lib.hid ((ho1.mono (G := [rb]) (by simp)).trans (one_set w1 rb 1 (.int .i64 (i : Int))))
  clear h1 ho1
  go_wp2_with fail
  go_ret
  exact ⟨rfl, H2.out, HO.out⟩
set_option maxRecDepth 100000 in
set_option maxHeartbeats 1000000 in
theorem take_raw {w : World} {rb : Nat} {R : Rd} {c : UInt8} {s : Tx} {S : ByteArray} {b : Bool} (h : RAt w rb R) (ho : Ok R (c :: s)) (hS : bs [c] = S) (hz : S.size = 1) (hb : (S.toList == [10]) = b) (hc : (c == 10) = b) :
    Calls Tryd.prog 41 #[ptrV rb] w fun e w' => e = .returned (.string S) ∧ RAt w' rb (R.adv c) ∧ Only [rb] w w' := by
  have HN : Hid (Calls Tryd.prog 36 #[ptrV rb] w fun e w' => e = .returned (.string S) ∧ Only [] w w') := by
    rw [← hS]; exact next_any h ho
  have hs := ho.sum
  have hm := ho.most
  have hl := ho.line
  have z1 : (R.i : Int) ≤ 65536 := by simp at hs; omega
  have z2 : (R.n : Int) ≤ 65537 := by simp at hs; omega
  have H := Lib.hid h
  have zs : (S.size : Int) = 1 := by omega
  have hnl : nl c R.n = if b = true then R.n + 1 else R.n := by
    unfold nl
    rw [← hc]
    simp
  have HNL := Lib.hid hnl
  clear h ho hs hm hl hS hc hnl hz
  obtain ⟨i, hi⟩ : ∃ i, i = R.i := ⟨_, rfl⟩
  obtain ⟨n, hn⟩ : ∃ n, n = R.n := ⟨_, rfl⟩
  rw [← hi] at z1
  rw [← hn] at z2
  have HI := Lib.hid hi
  have HNN := Lib.hid hn
  clear hi hn
  unfold ptrV at *
  go_enter Tryd.func41, Tryd.ntmps41
  go_wp2_with fail
  refine HN.out.mono ?_
  rintro _ w1 ⟨rfl, ho1⟩
  have h1 : RAt w1 rb R := H.out.only ho1 (by simp)
  have c1 : w1.cell? ⟨rb, 1, none⟩ = some (.int .i64 (i : Int)) := by rw [HI.out]; exact BL.cell h1 1
  have f1 : w1.frozen? ⟨rb, 1, none⟩ = false := BL.frozen h1 1
  have h2 : RAt (w1.setCell ⟨rb, 1, none⟩ (.int .i64 ((i : Int) + 1))) rb { R with i := i + 1 } := by
    have := BL.set_ h1 1 (.int .i64 ((i : Int) + 1))
    exact this
  have ho2 := ((ho1.mono (G := [rb]) (by simp)).trans (one_set w1 rb 1 (.int .i64 ((i : Int) + 1))))
  have c2 : (w1.setCell ⟨rb, 1, none⟩ (.int .i64 ((i : Int) + 1))).cell? ⟨rb, 2, none⟩ = some (.int .i64 (n : Int)) := by rw [HNN.out]; exact BL.cell h2 2
  have f2 : (w1.setCell ⟨rb, 1, none⟩ (.int .i64 ((i : Int) + 1))).frozen? ⟨rb, 2, none⟩ = false := BL.frozen h2 2
  have H2 := Lib.hid h2
  have HO2 := Lib.hid ho2
  clear h2 ho2 h1 ho1
  cases b with
  | false =>
    go_wp2_with fail
    go_ret
    refine ⟨rfl, ?_, HO2.out⟩
    have := H2.out
    unfold Rd.adv
    rw [HNL.out, ← HI.out]
    exact this
  | true =>
    go_wp2_with fail
    go_ret
    refine ⟨rfl, ?_, HO2.out.trans (one_set _ rb 2 _)⟩
    have := BL.set_ H2.out 2 (.int .i64 ((n : Int) + 1))
    unfold Rd.adv
    rw [HNL.out, ← HI.out, ← HNN.out]
    exact this
theorem bs1_size (c : UInt8) : (bs [c]).size = 1 := bs_size _
theorem take_some {w : World} {rb : Nat} {R : Rd} {c : UInt8} {s : Tx} (h : RAt w rb R) (ho : Ok R (c :: s)) :
    Calls Tryd.prog 41 #[ptrV rb] w fun e w' => e = .returned (.string (bs [c])) ∧ RAt w' rb (R.adv c) ∧ Only [rb] w w' :=
  take_raw h ho rfl (bs1_size c) (b := c == 10) (by rw [bs_tl]; simp [BEq.beq, List.beq]) rfl
set_option maxRecDepth 100000 in
theorem behind_any (s : Tx) (w : World) :
    Calls Tryd.prog 55 #[.string (bs (s.take 1))] w fun e w' => e = .returned (.bool (brk s)) ∧ w = w' := by
  cases s with
  | nil =>
    have e0 : bs (List.take 1 ([] : Tx)) = { data := #[] } := rfl
    rw [e0]
    go_enter Tryd.func55, Tryd.ntmps55
    go_wp2_with fail
    go_ret
    exact ⟨rfl, rfl⟩
  | cons c r =>
    have e0 : bs (List.take 1 (c :: r)) = bs [c] := rfl
    rw [e0]
    have hcase : (c = 32 ∨ c = 9 ∨ c = 10 ∨ c = 59) ∨ (¬ c = 32 ∧ ¬ c = 9 ∧ ¬ c = 10 ∧ ¬ c = 59) := by
      by_cases h1 : c = 32 <;> by_cases h2 : c = 9 <;> by_cases h3 : c = 10 <;> by_cases h4 : c = 59 <;> simp [h1, h2, h3, h4]
    rcases hcase with (rfl | rfl | rfl | rfl) | ⟨h1, h2, h3, h4⟩
    · have e1 : bs [32] = { data := #[32] } := rfl
      rw [e1]
      go_enter Tryd.func55, Tryd.ntmps55
      go_wp2_with fail
      go_ret
      exact ⟨rfl, rfl⟩
    · have e1 : bs [9] = { data := #[9] } := rfl
      rw [e1]
      go_enter Tryd.func55, Tryd.ntmps55
      go_wp2_with fail
      go_ret
      exact ⟨rfl, rfl⟩
    · have e1 : bs [10] = { data := #[10] } := rfl
      rw [e1]
      go_enter Tryd.func55, Tryd.ntmps55
      go_wp2_with fail
      go_ret
      exact ⟨rfl, rfl⟩
    · have e1 : bs [59] = { data := #[59] } := rfl
      rw [e1]
      go_enter Tryd.func55, Tryd.ntmps55
      go_wp2_with fail
      go_ret
      exact ⟨rfl, rfl⟩
    · have eb : brk (c :: r) = false := by unfold brk; simp [h1, h2, h3, h4]
      rw [eb]
      have n0 := ne0 c
      have n1 := ne1 h1
      have n2 := ne1 h2
      have n3 := ne1 h3
      have n4 := ne1 h4
      clear h1 h2 h3 h4 eb
      generalize bs [c] = S at *
      go_enter Tryd.func55, Tryd.ntmps55
      go_wp2_with fail
      go_ret
      exact ⟨rfl, rfl⟩
theorem lett_one (c : UInt8) (h1 : ¬ c = 110) (h2 : ¬ c = 116) (h3 : ¬ c = 101) : lett [c] = [c] := by unfold lett; simp [h1, h2, h3]
set_option maxRecDepth 100000 in
theorem lett_nil (w : World) :
    Calls Tryd.prog 61 #[.string (bs [])] w fun e w' => e = .returned (.string (bs (lett []))) ∧ w = w' := by
  have e0 : bs [] = { data := #[] } := rfl
  have e1 : lett [] = [] := rfl
  rw [e1, e0]
  go_enter Tryd.func61, Tryd.ntmps61
  go_wp2_with fail
  go_ret
  exact ⟨rfl, rfl⟩
set_option maxRecDepth 100000 in
theorem lett_any (c : UInt8) (w : World) :
    Calls Tryd.prog 61 #[.string (bs [c])] w fun e w' => e = .returned (.string (bs (lett [c]))) ∧ w = w' := by
  have hcase : (c = 110 ∨ c = 116 ∨ c = 101) ∨ (¬ c = 110 ∧ ¬ c = 116 ∧ ¬ c = 101) := by
    by_cases h1 : c = 110 <;> by_cases h2 : c = 116 <;> by_cases h3 : c = 101 <;> simp [h1, h2, h3]
  rcases hcase with (rfl | rfl | rfl) | ⟨h1, h2, h3⟩
  · have e0 : bs [110] = { data := #[110] } := rfl
    have e1 : bs (lett [110]) = { data := #[10] } := rfl
    rw [e0, e1]
    go_enter Tryd.func61, Tryd.ntmps61
    go_wp2_with fail
    go_ret
    exact ⟨rfl, rfl⟩
  · have e0 : bs [116] = { data := #[116] } := rfl
    have e1 : bs (lett [116]) = { data := #[9] } := rfl
    rw [e0, e1]
    go_enter Tryd.func61, Tryd.ntmps61
    go_wp2_with fail
    go_ret
    exact ⟨rfl, rfl⟩
  · have e0 : bs [101] = { data := #[101] } := rfl
    have e1 : bs (lett [101]) = { data := #[27] } := rfl
    rw [e0, e1]
    go_enter Tryd.func61, Tryd.ntmps61
    go_wp2_with fail
    go_ret
    exact ⟨rfl, rfl⟩
  · rw [lett_one c h1 h2 h3]
    have n1 := ne1 h1
    have n2 := ne1 h2
    have n3 := ne1 h3
    clear h1 h2 h3
    generalize bs [c] = S at *
    go_enter Tryd.func61, Tryd.ntmps61
    go_wp2_with fail
    go_ret
    exact ⟨rfl, rfl⟩
set_option maxRecDepth 100000 in
theorem refuse_any {w : World} {rb : Nat} {R : Rd} (h : RAt w rb R) (e : Nat) :
    Calls Tryd.prog 39 #[ptrV rb, .int .i64 (e : Int)] w fun x w' => x = .panicked (ftP e R.bg) ∧ w = w' := by
  have c8 : w.cell? ⟨rb, 8, none⟩ = some (.int .i64 (R.bg : Int)) := BL.cell h 8
  unfold ftP ftV
  generalize R.bg = g at *
  clear h
  unfold ptrV
  go_enter Tryd.func39, Tryd.ntmps39
  go_wp2_with fail
  exact ⟨rfl, rfl, rfl⟩
end Go.Proofs.YtplikjbajejciaaDoor.Lex
