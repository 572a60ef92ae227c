/- One Do: its action's numbers, what it answers. -/
import Derived.Test.YtjklnnklgkihlaaGreatDoorPad
import Derived.Test.YtjklnnklgkihlaaGreatDoorPaf
import Derived.Lib.AppendStr
namespace Go.Proofs.YtjklnnklgkihlaaGreatDoor.Scr
open Go.RowKit Cel Sty Grd

/-- What one Do has at hand. -/
def dgL (sb : Nat) (a : Vt.Ac) (pv av : Value) : List Value := [.pointer (some ⟨sb, 0, none⟩), .int .i64 a.k, .int .i32 a.r, .int .u8 a.b, pv, .string (Vt.bs a.it), .string (Vt.bs a.tx), av]
abbrev dgB (w : World) (d sb : Nat) (a : Vt.Ac) (pv av : Value) : Prop := BL w d 103 (dgL sb a pv av)
/-- A number of an action, or what it is by default. -/
def parP (l : List Int) (i : Nat) (d : Int) : Int := if i < l.length ∧ 0 ≤ l.getD i 0 then min (l.getD i 0) 9999 else d
theorem getD_at {α : Type} {l : List α} {i : Nat} (h : i < l.length) (d : α) : l.getD i d = l[i] := by simp [List.getD, h]
section
variable {w : World} {d sb : Nat} {a : Vt.Ac} {pv av : Value} {B2 : Nat}
set_option maxRecDepth 100000 in
set_option maxHeartbeats 1000000 in
theorem param_at (hD : dgB w d sb a pv av) (hp : Vt.Ints w B2 pv a.ps) (hb : ∀ x ∈ a.ps, -9223372036854775808 ≤ x ∧ x ≤ 9223372036854775807) (i : Nat) (hi : i ≤ 1000) (df : Int) :
    Calls Tryz.prog 190 #[ptrV d, .int .i64 (i : Int), .int .i64 df] w fun e w' => e = .returned (.int .i64 (parP a.ps i df)) ∧ w = w' := by
  have e4 : w.cell? ⟨d, 4, none⟩ = some pv := hD.cell 4
  obtain ⟨A, c, rfl⟩ := Vt.own_slice hp
  unfold parP
  unfold ptrV
  by_cases hlt : i < a.ps.length
  · obtain ⟨g, rfl⟩ := Vt.own_addr hp (by omega)
    have hx : w.cell? ⟨g, i, none⟩ = some (.int .i64 (a.ps.getD i 0)) := by
      have h1 := Vt.ints_cell hp i _ (List.getElem?_eq_getElem hlt)
      rw [getD_at hlt _]
      exact h1
    have hbi := hb _ (List.getElem_mem hlt)
    rw [← getD_at hlt 0] at hbi
    generalize a.ps.getD i 0 = x at *
    generalize a.ps.length = n at *
    have i1 : ¬ (n : Int) ≤ (i : Int) := by omega
    have i2 : (i : Int) < (n : Int) := by omega
    have i0 : (0 : Int) ≤ (i : Int) := by omega
    clear hD hp hb
    by_cases h0 : 0 ≤ x
    · rw [if_pos ⟨hlt, h0⟩]
      have i3 : ¬ x < 0 := by omega
      go_enter Tryz.func190, Tryz.ntmps190
      go_wp2_with fail
      all_goals go_ret
      all_goals exact ⟨by simp <;> omega, rfl⟩
    · rw [if_neg (fun h => h0 h.2)]
      have i3 : x < 0 := by omega
      go_enter Tryz.func190, Tryz.ntmps190
      go_wp2_with fail
      go_ret
      exact ⟨rfl, rfl⟩
  · rw [if_neg (fun h => hlt h.1)]
    generalize a.ps.length = n at *
    have i1 : (n : Int) ≤ (i : Int) := by omega
    clear hD hp hb
    go_enter Tryz.func190, Tryz.ntmps190
    go_wp2_with fail
    go_ret
    exact ⟨rfl, rfl⟩
set_option maxRecDepth 100000 in
theorem ordinal_at (hD : dgB w d sb a pv av) (hp : Vt.Ints w B2 pv a.ps) (hb : ∀ x ∈ a.ps, -9223372036854775808 ≤ x ∧ x ≤ 9223372036854775807) (i : Nat) (hi : i ≤ 1000) :
    Calls Tryz.prog 209 #[ptrV d, .int .i64 (i : Int)] w fun e w' => e = .returned (.int .i64 (max (parP a.ps i 1) 1)) ∧ w = w' := by
  have k := Lib.hid (param_at hD hp hb i hi 1)
  clear hD hp hb
  unfold ptrV at *
  go_enter Tryz.func209, Tryz.ntmps209
  go_wp2_with fail
  refine k.out.mono ?_
  rintro _ w1 ⟨rfl, rfl⟩
  go_wp2_with fail
  all_goals go_ret
  all_goals exact ⟨by simp <;> omega, rfl⟩
theorem kept_only {F : List Nat} {a b : World} (h : Only F a b) : Kept a b (· ∈ F) := ⟨h.os, h.tape, h.output, h.size, h.block⟩
theorem ints_only {w w' : World} {l : List Int} {F : List Nat} (h : Vt.Ints w B2 pv l) (ho : Only F w w') (hn : ∀ k, pv.ownBlock = some k → k ∉ F) : Vt.Ints w' B2 pv l := (kept_only ho).owns h hn
theorem ints_below {w w' : World} {l : List Int} (h : Vt.Ints w B2 pv l) (hb : Below w.heap.size w w') : Vt.Ints w' B2 pv l := ints_only h (F := []) (Only.of_below hb) (by simp)
theorem own_only {w w' : World} {e : TypeId} {size n : Nat} {xs : List Value} {F : List Nat} (h : w.ownsRow B2 e size pv n xs) (ho : Only F w w') (hn : ∀ k, pv.ownBlock = some k → k ∉ F) : w'.ownsRow B2 e size pv n xs := (kept_only ho).owns h hn
/-- What is answered is a slice of the call's own. -/
def AnsAt (w : World) (base : Nat) (av : Value) (l : List UInt8) : Prop := w.ownsRow base 5 1 av l.length (l.map fun u => Value.int .u8 (u.toNat : Int))
end
end Go.Proofs.YtjklnnklgkihlaaGreatDoor.Scr
