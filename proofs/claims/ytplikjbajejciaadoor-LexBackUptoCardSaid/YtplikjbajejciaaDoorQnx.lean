/- lex: the reader; what comes next, what is taken. -/
import Derived.Test.YtplikjbajejciaaDoorQpl
import Derived.Test.YtplikjbajejciaaDoorShelf
import Derived.IntWalk
namespace Go.Proofs.YtplikjbajejciaaDoor.Lex
open Go.RowKit
structure Rd where
  T : Tx
  i : Nat
  n : Nat
  pv : Value
  mv : Value
  lv : Value
  wv : Value
  g : Nat
  bg : Nat
  kv : Value
def rdL (R : Rd) : List Value := [.string (bs R.T), .int .i64 (R.i : Int), .int .i64 (R.n : Int), R.pv, R.mv, R.lv, R.wv, .int .i64 (R.g : Int), .int .i64 (R.bg : Int), R.kv]
def RAt (w : World) (rb : Nat) (R : Rd) : Prop := BL w rb 49 (rdL R)
abbrev ptrV (b : Nat) : Value := .pointer (some ⟨b, 0, none⟩)
/-- What is left of the text. -/
structure Ok (R : Rd) (s : Tx) : Prop where
  rest : R.T.drop R.i = s
  sum : R.i + s.length = R.T.length
  most : R.T.length ≤ 65536
  line : R.n ≤ R.i + 1
theorem below_drewN {B : Nat} {a w : World} (h : Below B a w) (n : Nat) : Below B a (w.drewN n) := by
  induction n with
  | zero => exact h
  | succ n ih => exact ⟨ih.os, ih.tape, ih.output, ih.size, ih.block⟩
theorem only_drewN {F : List Nat} {a w : World} (h : Only F a w) (n : Nat) : Only F a (w.drewN n) := by
  induction n with
  | zero => exact h
  | succ n ih => exact ⟨ih.os, ih.tape, ih.output, ih.size, ih.block⟩
theorem RAt.only {w w' : World} {rb : Nat} {R : Rd} {F : List Nat} (h : RAt w rb R) (ho : Only F w w') (hb : rb ∉ F) : RAt w' rb R := BL.only h ho hb
theorem bs_take1 (l : Tx) : (bs l).extract 0 (min 1 l.length) = bs (l.take 1) := by
  rw [bs_take]
  cases l <;> simp
theorem ne1 {c k : UInt8} (h : ¬ c = k) : ((bs [c]).toList == [k]) = false := by
  rw [bs_tl]; simp [h]
theorem ne0 (c : UInt8) : ((bs [c]).toList == ([] : List UInt8)) = false := by
  rw [bs_tl]; rfl
set_option maxRecDepth 100000 in
theorem front_any (t : Tx) (hl : t.length ≤ 65536) (w : World) :
    Calls Tryd.prog 54 #[.string (bs t)] w fun e w' => e = .returned (.string (bs (t.take 1))) ∧ w' = w := by
  have hz : (bs t).size = t.length := bs_size t
  have E := Lib.hid (bs_take1 t)
  rw [← hz] at E
  have hm : (min (1 : Int) ((bs t).size : Int)) = ((min 1 (bs t).size : Nat) : Int) := by omega
  have z8 : ((bs t).size : Int) ≤ 65536 := by omega
  clear hz hl
  generalize bs t = S at *
  go_enter Tryd.func54, Tryd.ntmps54
  go_wp2_with fail
  go_ret
  exact ⟨by rw [← E.out]; rfl, rfl⟩
set_option maxRecDepth 100000 in
set_option maxHeartbeats 1000000 in
theorem next_raw {w : World} {rb i : Nat} {S X : ByteArray} (c0 : w.cell? ⟨rb, 0, none⟩ = some (.string S)) (c1 : w.cell? ⟨rb, 1, none⟩ = some (.int .i64 (i : Int))) (z1 : (i : Int) ≤ (S.size : Int))
    (HF : Hid (∀ V, Calls Tryd.prog 54 #[.string (S.extract i S.size)] V fun e w' => e = .returned (.string X) ∧ w' = V)) :
    Calls Tryd.prog 36 #[ptrV rb] w fun e w' => e = .returned (.string X) ∧ Only [] w w' := by
  have z0 : (0 : Int) ≤ (i : Int) := by omega
  have z3 : i ≤ S.size := by omega
  unfold ptrV
  go_enter Tryd.func36, Tryd.ntmps36
  go_wp2_with fail
  go_quiet ((go_at_call 54; exact Calls.quiet_of_same (HF.out _)))
  have HO := Lib.hid (only_drewN (Only.refl [] w) nq)
  generalize w.drewN nq = V at *
  go_wp2_with fail
  go_ret
  exact ⟨rfl, HO.out⟩
set_option maxRecDepth 100000 in
set_option maxHeartbeats 1000000 in
theorem after_raw {w : World} {rb i : Nat} {S X : ByteArray} (c0 : w.cell? ⟨rb, 0, none⟩ = some (.string S)) (c1 : w.cell? ⟨rb, 1, none⟩ = some (.int .i64 (i : Int))) (z1 : (i : Int) + 1 ≤ (S.size : Int)) (z2 : (S.size : Int) ≤ 65536)
    (HF : Hid (∀ V, Calls Tryd.prog 54 #[.string (S.extract (i + 1) S.size)] V fun e w' => e = .returned (.string X) ∧ w' = V)) :
    Calls Tryd.prog 40 #[ptrV rb] w fun e w' => e = .returned (.string X) ∧ Only [] w w' := by
  have z0 : (0 : Int) ≤ (i : Int) + 1 := by omega
  have z3 : i + 1 ≤ S.size := by omega
  have zw : IntKind.i64.wrap ((i : Int) + 1) = (i : Int) + 1 := IntWalk.i64_in _ (by omega)
  have zn : ((i : Int) + 1).toNat = i + 1 := by omega
  clear z2
  unfold ptrV
  go_enter Tryd.func40, Tryd.ntmps40
  go_wp2_with fail
  go_quiet ((go_at_call 54; exact Calls.quiet_of_same (HF.out _)))
  have HO := Lib.hid (only_drewN (Only.refl [] w) nq)
  generalize w.drewN nq = V at *
  go_wp2_with fail
  go_ret
  exact ⟨rfl, HO.out⟩
theorem next_any {w : World} {rb : Nat} {R : Rd} {s : Tx} (h : RAt w rb R) (ho : Ok R s) :
    Calls Tryd.prog 36 #[ptrV rb] w fun e w' => e = .returned (.string (bs (s.take 1))) ∧ Only [] w w' :=
  next_raw (i := R.i) (S := bs R.T) (h.cell 0) (h.cell 1) (by rw [bs_size]; have := ho.sum; omega)
    (fun V => by rw [bs_drop, ho.rest]; exact front_any s (by have := ho.sum; have := ho.most; omega) V)
theorem after_any {w : World} {rb : Nat} {R : Rd} {c : UInt8} {s : Tx} (h : RAt w rb R) (ho : Ok R (c :: s)) :
    Calls Tryd.prog 40 #[ptrV rb] w fun e w' => e = .returned (.string (bs (s.take 1))) ∧ Only [] w w' := by
  have hs := ho.sum
  have hm := ho.most
  rw [List.length_cons] at hs
  have hd : R.T.drop (R.i + 1) = s := by rw [← List.drop_drop, ho.rest]; rfl
  exact after_raw (i := R.i) (S := bs R.T) (h.cell 0) (h.cell 1) (by rw [bs_size]; omega) (by rw [bs_size]; omega)
    (fun V => by rw [bs_drop, hd]; exact front_any s (by omega) V)
end Go.Proofs.YtplikjbajejciaaDoor.Lex
