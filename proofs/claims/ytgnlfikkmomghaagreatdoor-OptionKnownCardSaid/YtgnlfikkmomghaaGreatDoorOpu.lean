/- A value put under a name. -/
import Derived.Test.YtgnlfikkmomghaaGreatDoorOro
namespace Go.Proofs.YtgnlfikkmomghaaGreatDoor.Opt
open Go.RowKit Go.Maps

def putD (D : DataW Value) (nm : Tx) (v : Value) : DataW Value := D.put (.string nm) (.held v)
theorem grownBy_set (w : World) (b i : Nat) (u : Value) : w.grownBy (w.setCell ⟨b, i, none⟩ u) (some b) :=
  ⟨rfl, rfl, rfl, by simp [World.setCell], fun k _ hn => Below.heap_setCell w ⟨b, i, none⟩ u k (fun e => hn (by rw [e]))⟩
theorem map_ne (m : Nat) (w : World) : (binOp .eql 63 (.map (some m)) (.map none)).run Tryz.prog w = .ok (.bool false) w := by kernel_rfl
theorem map_eq (w : World) : (binOp .eql 63 (.map none) (.map none)).run Tryz.prog w = .ok (.bool true) w := by kernel_rfl
theorem Only.of_grown {w w' : World} {b : Nat} (h : w.grownBy w' (some b)) : Only [b] w w' :=
  ⟨h.os, h.tape, h.output, h.size, fun k hk hn => h.block k hk (fun e => hn (by cases e; simp))⟩

set_option maxRecDepth 100000 in
set_option maxHeartbeats 4000000 in
theorem put_map (b : Nat) (sc : Int) (q : Option Addr) (m n : Nat) (D : DataW Value) (nm : Tx) (hl : nm.length ≤ maxLen) (s : ByteArray) (A : Option Addr) (k c : Nat) (w : World) (hs : SetB w b sc (.map (some m)) q) (hown : w.ownsMap Tryz.prog 9 heldR m n D) (hn : n < 100000) :
    Calls Tryz.prog 96 #[.pointer (some ⟨b, 1, none⟩), .string (bs nm), .agg #[.string s, .slice A k c]] w fun e w' => e = .returned (.tuple #[]) ∧ SetB w' b sc (.map (some m)) q ∧ w'.ownsMap Tryz.prog 9 heldR m (n + 1) (putD D nm (.agg #[.string s, .slice A k c])) ∧ Only [m] w w' := by
  have hbl : b < w.heap.size := BL.lt hs
  have hml := hown.lt
  have hbm : b ≠ m := fun e => by
    obtain ⟨es, cl, h, _⟩ := hown
    subst e; unfold SetB BL at hs; rw [hs] at h; cases h
  have hs2 : SetB (w.alloc (.cells #[.string s, .slice A k c] 78)) b sc (.map (some m)) q := BL.alloc hs _
  have c1 : (w.alloc (.cells #[.string s, .slice A k c] 78)).cell? ⟨b, 1, none⟩ = some (.map (some m)) := BL.cell hs2 1
  have hN := BL.new w 78 [.string s, .slice A k c]
  have k0 : (w.alloc (.cells #[.string s, .slice A k c] 78)).cell? ⟨w.heap.size, 0, none⟩ = some (.string s) := hN.cell 0
  have k1 : (w.alloc (.cells #[.string s, .slice A k c] 78)).cell? ⟨w.heap.size, 1, none⟩ = some (.slice A k c) := hN.cell 1
  have HOW := Lib.hid ((hown.alloc (.cells #[.string s, .slice A k c] 78)).drew)
  have HS := Lib.hid (show SetB (w.alloc (.cells #[.string s, .slice A k c] 78)).drew b sc (.map (some m)) q from hs2)
  have HO0 := Lib.hid (((Only.refl [m] w).alloc (.cells #[.string s, .slice A k c] 78)).drew)
  obtain ⟨w5, hrun, how5, hg5⟩ := HOW.out.update lawK Tryz.underlying63 (by unfold maxLen; omega) (keyS nm hl) (heldR_mk s A k c)
  have H5 := Lib.hid how5
  have HG5 := Lib.hid hg5
  clear how5 hg5
  have hmn := map_ne m (w.alloc (.cells #[.string s, .slice A k c] 78))
  clear hs hs2 hown hN
  go_enter Tryz.func96, Tryz.ntmps96
  go_wp2_with fail
  go_region
  go_wp2_with fail
  refine body_end rfl rfl ⟨rfl, ?_, H5.out, HO0.out.trans (Only.of_grown HG5.out)⟩
  exact BL.keep HS.out (HG5.out.block b (BL.lt HS.out) (fun e => hbm (by simpa using e)))
set_option maxRecDepth 100000 in
set_option maxHeartbeats 4000000 in
theorem put_nil (b : Nat) (sc : Int) (q : Option Addr) (nm : Tx) (hl : nm.length ≤ maxLen) (s : ByteArray) (A : Option Addr) (k c : Nat) (w : World) (hs : SetB w b sc (.map none) q) :
    Calls Tryz.prog 96 #[.pointer (some ⟨b, 1, none⟩), .string (bs nm), .agg #[.string s, .slice A k c]] w fun e w' => e = .returned (.tuple #[]) ∧ ∃ m, w.heap.size ≤ m ∧ SetB w' b sc (.map (some m)) q ∧ w'.ownsMap Tryz.prog 9 heldR m 1 (putD (.map []) nm (.agg #[.string s, .slice A k c])) ∧ Only [b] w w' := by
  have hbl : b < w.heap.size := BL.lt hs
  have hs2 : SetB (w.alloc (.cells #[.string s, .slice A k c] 78)) b sc (.map none) q := BL.alloc hs _
  have c1 : (w.alloc (.cells #[.string s, .slice A k c] 78)).cell? ⟨b, 1, none⟩ = some (.map none) := BL.cell hs2 1
  have hmn := map_eq (w.alloc (.cells #[.string s, .slice A k c] 78))
  have hsz : (w.alloc (.cells #[.string s, .slice A k c] 78)).heap.size = w.heap.size + 1 := size_alloc _ _
  have hN := BL.new w 78 [.string s, .slice A k c]
  generalize hX : w.alloc (.cells #[.string s, .slice A k c] 78) = X at *
  have hmm := @run_makeMap Tryz.prog
  have f3 : (X.alloc (Obj.map #[] 0)).frozen? ⟨b, 1, none⟩ = false := BL.frozen (BL.alloc hs2 _) 1
  have fX : X.frozen? ⟨b, 1, none⟩ = false := BL.frozen hs2 1
  have hss : (X.setCell ⟨b, 1, none⟩ (.map (some (w.heap.size + 1)))).heap.size = w.heap.size + 1 := by simp [World.setCell, hsz]
  have hs4 : SetB ((X.setCell ⟨b, 1, none⟩ (.map (some (w.heap.size + 1)))).alloc (.map #[] 0)) b sc (.map (some (w.heap.size + 1))) q := BL.alloc (BL.set_ hs2 1 _) _
  have hk4 : (BL ((X.setCell ⟨b, 1, none⟩ (.map (some (w.heap.size + 1)))).alloc (.map #[] 0)) w.heap.size 78 [.string s, .slice A k c]) := (hN.keep (Below.heap_setCell _ _ _ _ (show w.heap.size ≠ b by omega))).alloc _
  have ho4 : ((X.setCell ⟨b, 1, none⟩ (.map (some (w.heap.size + 1)))).alloc (.map #[] 0)).ownsMap Tryz.prog 9 heldR (w.heap.size + 1) 0 (.map []) := by
    have := World.ownsMap_made (X.setCell ⟨b, 1, none⟩ (.map (some (w.heap.size + 1)))) Tryz.prog 9 heldR
    rwa [hss] at this
  have hO4 : Only [b] w ((X.setCell ⟨b, 1, none⟩ (.map (some (w.heap.size + 1)))).alloc (.map #[] 0)) := by
    rw [← hX]; exact (((Only.refl [b] w).alloc _).setCell (.inl (by simp)) _).alloc _
  generalize hY : (X.setCell ⟨b, 1, none⟩ (.map (some (w.heap.size + 1)))).alloc (.map #[] 0) = Y at *
  obtain ⟨w5, hrun, how5, hg5⟩ := (ho4.drew).update lawK Tryz.underlying63 (by unfold maxLen; omega) (keyS nm hl) (heldR_mk s A k c)
  have c4 : Y.cell? ⟨b, 1, none⟩ = some (.map (some (w.heap.size + 1))) := BL.cell hs4 1
  have k0 : Y.cell? ⟨w.heap.size, 0, none⟩ = some (.string s) := hk4.cell 0
  have k1 : Y.cell? ⟨w.heap.size, 1, none⟩ = some (.slice A k c) := hk4.cell 1
  have H5 := Lib.hid how5
  have HG5 := Lib.hid hg5
  have HS := Lib.hid (show SetB Y.drew b sc (.map (some (w.heap.size + 1))) q from hs4)
  have HO4 := Lib.hid (show Only [b] w Y.drew from hO4.drew)
  have hbX : b < X.heap.size := by omega
  have hwX : w.heap.size ≤ X.heap.size := by omega
  clear how5 hg5 hs hs2 hs4 ho4 hO4 hN hk4
  go_enter Tryz.func96, Tryz.ntmps96
  go_wp2_with fail
  go_region
  go_wp2_with fail
  refine body_end rfl rfl ⟨rfl, w.heap.size + 1, by omega, ?_, H5.out, HO4.out.trans2 (Only.of_grown HG5.out) (fun x hx => .inr (by simp at hx; omega))⟩
  exact BL.keep HS.out (HG5.out.block b (BL.lt HS.out) (fun e => by have := Option.some.inj e; omega))
end Go.Proofs.YtgnlfikkmomghaaGreatDoor.Opt
