/- CSI m as a step, whatever its numbers; Feed of one. -/
import Derived.Test.YtjklnnklgkihlaaGreatDoorPNmf
import Derived.Test.YtjklnnklgkihlaaGreatDoorPbf
namespace Go.Proofs.YtjklnnklgkihlaaGreatDoor.Scr
open Go.RowKit Cel Grd

section
variable {B sb g c lim : Nat} {pp tv : Value} {M : MP} {a : Vt.Ac}
theorem step_m_all (ha : a.b = 109) (hb : ∀ x ∈ a.ps, -9223372036854775808 ≤ x ∧ x ≤ 9223372036854775807) (hl : a.ps.length ≤ 100) (hno : ∀ x ∈ codesP a.ps, 0 ≤ x ∧ x ≤ 9999) {q : Grd.St} (hq : PenR M.S.now.pen (codesP a.ps) q) :
    StepIs B sb g c lim pp tv M ⟨M.past, M.rows, M.S.setP q⟩ a [] := by
  intro V F pv B2 d h hD hne hdF
  rw [ha]
  refine (turnPen_all hD h.nums hb hl h.scr.blk h.att h.base h.own hne hno hq).mono ?_
  rintro e w' ⟨he, hB, hO⟩
  exact ⟨he, _, F, hD.only hO (by simpa using hne), World.ownsRow_nil _ _ _ _, h.scr.turn hB hO, fun x hx => .inl hx, hO.mono fun x hx => by rw [List.mem_singleton] at hx; rw [hx]; simp⟩
end
/-- CSI m with numbers, as an action and as bytes. -/
def sgrA (l : List Int) : Vt.Ac := ⟨4, 0, 109, l, [], []⟩
def escT (l : List Int) : List UInt8 := 27 :: 91 :: (Vt.nums l ++ [109])
theorem run_sgr (l : List Int) (h : Vt.arep l = true) : Vt.run Vt.ps0 (escT l) = (Vt.ps0, [sgrA l]) := by
  have hc : Vt.cbt (sgrA l) = true := by
    show (Vt.isFin 4 109 && (Vt.btw (Vt.bare []) && Vt.arep l)) = true
    rw [h]; rfl
  have := Vt.run_prnAll [sgrA l] (fun a ha => by
    rw [List.mem_singleton] at ha
    subst ha
    refine ⟨⟨hc, fun _ => rfl, fun e => ?_, fun e => ?_, fun _ => rfl, fun _ _ => rfl⟩, (by decide : (0 : Int) ≤ 109)⟩
    · change (4 : Int) = 1 ∨ (4 : Int) = 5 at e
      omega
    · change (4 : Int) = 1 ∨ (4 : Int) = 2 ∨ (4 : Int) = 3 ∨ (4 : Int) = 5 at e
      omega)
  rw [Vt.prnAll_one] at this
  have e : Vt.prnO (sgrA l) = escT l := by
    unfold Vt.prnO
    rw [if_pos hc]
    show 27 :: 91 :: (([] ++ Vt.nums l ++ []) ++ [Vt.byt 109]) = _
    rw [List.append_nil, List.nil_append]
    rfl
  rw [e] at this
  exact this
/-- A text that turns the one pen into the other: nothing, or CSI m. -/
def Turns (t : List UInt8) (p q : Grd.St) : Prop := (t = [] ∧ p = q) ∨ ∃ l, Vt.arep l = true ∧ (∀ x ∈ codesP l, 0 ≤ x ∧ x ≤ 9999) ∧ t = escT l ∧ PenR p (codesP l) q
theorem parP_in (l : List Int) (i : Nat) : 0 ≤ parP l i 0 ∧ parP l i 0 ≤ 9999 := by
  unfold parP
  split
  · omega
  · omega
theorem codesP_in (l : List Int) : ∀ x ∈ codesP l, 0 ≤ x ∧ x ≤ 9999 := fun x hx => by
  unfold codesP at hx
  obtain ⟨i, _, rfl⟩ := List.mem_map.1 hx
  exact parP_in l i
theorem setP_same (S : ScP) : S.setP S.now.pen = S := rfl
section
variable {B : Nat} {w w1 : World} {sb g : Nat} {F : List Nat} {c lim pb db : Nat} {pv tp tv : Value} {M : MP}
theorem feed_turn (h : Scr0 B w sb g F c lim pb db pv tp tv M Vt.ps0) (ht : Tabled B w) (l : List UInt8) {q : Grd.St} (hq : Turns l M.S.now.pen q) (A : Option Addr) (cp : Nat) (hb1 : Below w.heap.size w w1) (hin : Vt.InB w1 A l) (hnew : ∀ g o, A = some ⟨g, o, none⟩ → tp.ownBlock ≠ some g) (hll : l.length ≤ 1000000) :
    Calls Tryz.prog 8 #[ptrV sb, .slice A l.length cp] w1 fun e w' => ∃ ov, e = .returned ov ∧ FedG w w' sb g F c lim B pb db pv tp tv ⟨M.past, M.rows, M.S.setP q⟩ Vt.ps0 ov [] := by
  rcases hq with ⟨rfl, rfl⟩ | ⟨k, hk, hk2, rfl, hp⟩
  · exact feed_gen (fun _ => M) (fun _ => []) h.scr h.par ht.tab ht.att ht.vt ht.low h.far h.own h.dis [] [] rfl (fun k hk => by simp at hk) (fun k hk => by rw [Nat.le_zero.1 hk]; decide) (fun k hk => by simp at hk) (by decide) A cp hb1 hin hnew hll
  · obtain ⟨n1, n2, _⟩ := Vt.num_bd hk
    refine feed_gen (fun i => if i = 0 then M else ⟨M.past, M.rows, M.S.setP q⟩) (fun _ => []) h.scr h.par ht.tab ht.att ht.vt ht.low h.far h.own h.dis (escT k) [sgrA k] (run_sgr k hk) (fun i hi => ?_) (fun k hk => ?_) (fun k _ => by simp) (by simp) A cp hb1 hin hnew hll
    · have : i = 0 := by simpa using hi
      subst this
      exact do_csi rfl (.inr (.inr rfl)) rfl (step_m_all rfl (fun x hx => by have := n1 x hx; omega) (by show k.length ≤ 100; omega) hk2 hp)
    · exact Nat.le_trans (cat_len (m := 0) (fun _ => by simp) k) (by simp)
end
end Go.Proofs.YtjklnnklgkihlaaGreatDoor.Scr
