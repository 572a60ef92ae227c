/- Do at a CSI. -/
import Derived.Test.YtjklnnklgkihlaaGreatDoorPNsq
import Derived.Test.YtjklnnklgkihlaaGreatDoorPNtm
import Derived.Test.YtjklnnklgkihlaaGreatDoorPad
namespace Go.Proofs.YtjklnnklgkihlaaGreatDoor.Scr
open Go.RowKit Cel Sty Grd

section
variable (B sb g c lim : Nat) (pp tv : Value) (M M2 : MP) (a : Vt.Ac) (ans : List UInt8)
/-- What holds where an action is done. -/
structure Ready (V : World) (F : List Nat) (pv : Value) (B2 : Nat) : Prop where
  scr : SG V sb g F c lim M.past M.rows pp tv M.S
  tab : Tabs B V
  att : TabA B V
  base : B ≤ V.heap.size
  far : ∀ x ∈ F, B ≤ x
  own : B ≤ sb
  nums : Vt.Ints V B2 pv a.ps
/-- The step of a CSI makes that of a screen, and answers that. -/
def StepIs : Prop := ∀ V F pv B2 d, Ready B sb g c lim pp tv M a V F pv B2 → dgB V d sb a pv (.slice none 0 0) → d ≠ sb → d ∉ F →
  Calls Tryz.prog (stepF a.b) #[ptrV d] V fun e w' => e = .returned (.tuple #[]) ∧ ∃ av F', dgB w' d sb a pv av ∧ AnsAt w' V.heap.size av ans ∧ SG w' sb g F' c lim M2.past M2.rows pp tv M2.S ∧ (∀ x ∈ F', x ∈ F ∨ V.heap.size ≤ x) ∧ Only (d :: sb :: F) V w'
/-- Do of an action makes that of a screen, and answers that. -/
def DoIs : Prop := ∀ V F pv B2, Ready B sb g c lim pp tv M a V F pv B2 →
  Calls Tryz.prog 25 #[ptrV sb, .agg #[.int .i64 a.k, .int .i32 a.r, .int .u8 a.b, pv, .string (Vt.bs a.it), .string (Vt.bs a.tx)]] V fun e w' => ∃ av, e = .returned av ∧ AnsAt w' V.heap.size av ans ∧ ∃ F', SG w' sb g F' c lim M2.past M2.rows pp tv M2.S ∧ Went (sb :: F) (sb :: F') V w'
end
section
variable {B sb g c lim : Nat} {pp tv : Value} {M M2 : MP} {a : Vt.Ac} {ans : List UInt8}
theorem Ready.below {V W : World} {F : List Nat} {pv : Value} {B2 : Nat} (h : Ready B sb g c lim pp tv M a V F pv B2) (hb : Below V.heap.size V W) : Ready B sb g c lim pp tv M a W F pv B2 :=
  ⟨h.scr.below hb, h.tab.below hb h.base, h.att.below hb h.base, Nat.le_trans h.base hb.size, h.far, h.own, ints_below h.nums hb⟩
set_option maxRecDepth 100000 in
set_option maxHeartbeats 2000000 in
theorem do_csi (hk : a.k = 4) (hb : a.b = 72 ∨ a.b = 110 ∨ a.b = 109) (hi : a.it = []) (hst : StepIs B sb g c lim pp tv M M2 a ans) : DoIs B sb g c lim pp tv M M2 a ans := by
  intro w F pv B2 h
  have hsl := h.scr.blk.lt
  have hFl := h.scr.grd.lt
  have hq : ∀ V, Below w.heap.size w V → dgB V (w.heap.size + 1) sb a pv (.slice none 0 0) → Calls Tryz.prog 47 #[ptrV (w.heap.size + 1)] V fun e w' => e = .returned (.tuple #[]) ∧ ∃ av F', dgB w' (w.heap.size + 1) sb a pv av ∧ AnsAt w' V.heap.size av ans ∧ SG w' sb g F' c lim M2.past M2.rows pp tv M2.S ∧ (∀ x ∈ F', x ∈ F ∨ V.heap.size ≤ x) ∧ Only ((w.heap.size + 1) :: sb :: F) V w' := fun V hV hD =>
    sequence_at hD hb hi (hst V F pv B2 _ (h.below hV) hD (by omega) (fun hx => by have := hFl _ hx; omega))
  have HQ := Lib.hid hq
  obtain ⟨A, cA, rfl⟩ := Vt.own_slice h.nums
  obtain ⟨k, r, b, ps, it, tx⟩ := a
  simp only at hk
  subst hk
  generalize hps : ps.length = n at *
  have HFL := Lib.hid hFl
  clear hq h hb hi hFl hps
  unfold ptrV at HQ ⊢
  simp only at HQ ⊢
  go_enter Tryz.func25, Tryz.ntmps25
  go_wp2_with fail
  have hbV : Below w.heap.size w ((w.alloc (.cells #[.int .i64 4, .int .i32 r, .int .u8 b, .slice A n cA, .string (Vt.bs it), .string (Vt.bs tx)] 65)).alloc (.cells #[.pointer (some ⟨sb, 0, none⟩), .int .i64 4, .int .i32 r, .int .u8 b, .slice A n cA, .string (Vt.bs it), .string (Vt.bs tx), .slice none 0 0] 103)) := ((Below.refl _ _).alloc (Nat.le_refl _) _).alloc (by simp) _
  have hD : BL ((w.alloc (.cells #[.int .i64 4, .int .i32 r, .int .u8 b, .slice A n cA, .string (Vt.bs it), .string (Vt.bs tx)] 65)).alloc (.cells #[.pointer (some ⟨sb, 0, none⟩), .int .i64 4, .int .i32 r, .int .u8 b, .slice A n cA, .string (Vt.bs it), .string (Vt.bs tx), .slice none 0 0] 103)) (w.heap.size + 1) 103 [.pointer (some ⟨sb, 0, none⟩), .int .i64 4, .int .i32 r, .int .u8 b, .slice A n cA, .string (Vt.bs it), .string (Vt.bs tx), .slice none 0 0] := by
    have := BL.new (w.alloc (.cells #[.int .i64 4, .int .i32 r, .int .u8 b, .slice A n cA, .string (Vt.bs it), .string (Vt.bs tx)] 65)) 103 [.pointer (some ⟨sb, 0, none⟩), .int .i64 4, .int .i32 r, .int .u8 b, .slice A n cA, .string (Vt.bs it), .string (Vt.bs tx), .slice none 0 0]
    rw [size_alloc] at this
    exact this
  generalize (w.alloc (.cells #[.int .i64 4, .int .i32 r, .int .u8 b, .slice A n cA, .string (Vt.bs it), .string (Vt.bs tx)] 65)).alloc (.cells #[.pointer (some ⟨sb, 0, none⟩), .int .i64 4, .int .i32 r, .int .u8 b, .slice A n cA, .string (Vt.bs it), .string (Vt.bs tx), .slice none 0 0] 103) = V at *
  refine (HQ.out V hbV hD).mono ?_
  rintro _ w2 ⟨rfl, av, F2, hD2, hA2, hS2, hF2, hO2⟩
  have hbs := hbV.size
  have d7 : w2.cell? ⟨w.heap.size + 1, 7, none⟩ = some av := hD2.cell 7
  have hdV := hD.lt
  have hA3 : AnsAt w2 w.heap.size av ans := ⟨hA2.1, hA2.2.imp id fun ⟨g1, c1, u1, e1, e2, e3⟩ => ⟨g1, c1, u1, e1, Nat.le_trans hbs e2, e3⟩⟩
  have hO3 : Only (sb :: F) w w2 := (Only.of_below hbV).trans2 hO2 fun x hx => by
    rcases List.mem_cons.1 hx with rfl | hx
    · right; omega
    · exact .inl hx
  have HS := Lib.hid hS2
  have HW : Hid (Went (sb :: F) (sb :: F2) w w2) := Lib.hid ⟨fun x hx => by
    rcases List.mem_cons.1 hx with rfl | hx
    · exact .inl (.head _)
    · exact (hF2 x hx).imp (List.mem_cons_of_mem _) fun q => Nat.le_trans hbs q, hO3⟩
  have HA := Lib.hid hA3
  obtain ⟨A3, c3, rfl⟩ := Vt.own_slice hA3
  clear hS2 hF2 hO2 hO3 hA2 hA3 hD hD2 hbV
  go_wp2_with fail
  go_ret
  exact ⟨_, rfl, HA.out, F2, HS.out, HW.out⟩
end
end Go.Proofs.YtjklnnklgkihlaaGreatDoor.Scr
