/- The names of a set. -/
import Derived.Test.YtgnlfikkmomghaaGreatDoorOfl
import Derived.Test.YtgnlfikkmomghaaGreatDoorSheli
namespace Go.Proofs.YtgnlfikkmomghaaGreatDoor.Opt
open Go.RowKit Go.Maps Go.Sort

theorem owns_base {w : World} {B B' : Nat} {e : TypeId} {size : Nat} {v : Value} {n : Nat} {xs : List Value} (h : w.ownsRow B e size v n xs) (hb : B' ≤ B) : w.ownsRow B' e size v n xs := by
  refine ⟨h.1, ?_⟩
  rcases h.2 with h | ⟨g, cap, cur, h1, h2, h3⟩
  · exact .inl h
  · exact .inr ⟨g, cap, cur, h1, Nat.le_trans hb h2, h3⟩
set_option maxRecDepth 100000 in
set_option maxHeartbeats 4000000 in
theorem names_map (b : Nat) (sc : Int) (q : Option Addr) (m n : Nat) (D : DataW Value) (w : World) (hs : SetB w b sc (.map (some m)) q) (hown : w.ownsMap Tryz.prog 9 heldR m n D) (hsz : Maps.size D ≤ 1000) :
    Calls Tryz.prog 12 #[.pointer (some ⟨b, 0, none⟩)] w fun e w' => ∃ v ss, e = .returned v ∧ ss.Perm (strKeys D) ∧ w'.ownsRow w.heap.size 9 1 v ss.length ((ss.mergeSort (fun x y => decide (x ≤ y))).map encStr) ∧ (v = .slice none 0 0 ↔ ss = []) ∧ Below w.heap.size w w' := by
  have c1 : w.cell? ⟨b, 1, none⟩ = some (.map (some m)) := BL.cell hs 1
  have HO := Lib.hid hown
  have HK := Lib.hid (callsIn_wide.1 (Tryz.maps_Keys_41 (some m) w))
  have HS := Lib.hid (callsIn_wide.1 (Tryz.slices_Sorted_keys_40_41 m n D heldR w hown (by unfold maxLen; omega) (by omega)))
  clear hs hown
  go_enter Tryz.func12, Tryz.ntmps12
  go_wp2_with fail
  refine HK.out.mono ?_
  rintro e w1 ⟨rfl, hw1⟩
  subst hw1
  clear HK
  go_wp2_with fail
  refine HS.out.mono ?_
  rintro e w2 ⟨v, ss, rfl, hp, hrow, hnil, hb⟩
  have HR := Lib.hid (And.intro hp (And.intro hrow (And.intro hnil hb)))
  clear hp hrow hnil hb HS
  go_wp2_with fail
  go_ret
  obtain ⟨hp, hrow, hnil, hb⟩ := HR.out
  exact ⟨v, ss, rfl, hp, owns_base hrow (by simp), hnil, ((Below.refl _ w).alloc (Nat.le_refl _) _).trans (hb.mono (by simp))⟩
set_option maxRecDepth 100000 in
set_option maxHeartbeats 4000000 in
theorem names_nil (b : Nat) (sc : Int) (q : Option Addr) (w : World) (hs : SetB w b sc (.map none) q) :
    Calls Tryz.prog 12 #[.pointer (some ⟨b, 0, none⟩)] w fun e w' => e = .returned (.slice none 0 0) ∧ Below w.heap.size w w' := by
  have c1 : w.cell? ⟨b, 1, none⟩ = some (.map none) := BL.cell hs 1
  have HK := Lib.hid (callsIn_wide.1 (Tryz.maps_Keys_41 none w))
  have HS := Lib.hid (callsIn_wide.1 (Tryz.slices_Sorted_keys_nil_40_41 w))
  clear hs
  go_enter Tryz.func12, Tryz.ntmps12
  go_wp2_with fail
  refine HK.out.mono ?_
  rintro e w1 ⟨rfl, hw1⟩
  subst hw1
  clear HK
  go_wp2_with fail
  refine HS.out.mono ?_
  rintro e w2 ⟨v, ss, rfl, hp, hrow, hnil, hb⟩
  obtain rfl := hnil.2 hp
  have HB := Lib.hid hb
  clear hp hrow hnil hb HS
  go_wp2_with fail
  go_ret
  exact ⟨rfl, ((Below.refl _ w).alloc (Nat.le_refl _) _).trans (HB.out.mono (by simp))⟩
end Go.Proofs.YtgnlfikkmomghaaGreatDoor.Opt
