/- Has a set room for a value? -/
import Derived.Test.YtgnlfikkmomghaaGreatDoorOva
import Derived.Maps.RangeWalk
import Derived.Sort.KeysCollected
namespace Go.Proofs.YtgnlfikkmomghaaGreatDoor.Opt
open Go.RowKit Go.Maps

def slenV (v : Value) : Nat := match v with
  | .agg cs => (match cs.toList with | [_, .slice _ n _] => n | _ => 0)
  | _ => 0
/-- What an option but that one counts. -/
def costP (D : DataW Value) (nm s : Tx) : Int := if s = nm then 0 else 1 + (slenV (valP D s) : Int)
def roomN (D : DataW Value) (nm : Tx) (ss : List Tx) : Int := (ss.map (costP D nm)).sum
theorem roomN_snoc (D : DataW Value) (nm : Tx) (ss : List Tx) (s : Tx) : roomN D nm (ss ++ [s]) = roomN D nm ss + costP D nm s := by simp [roomN]
theorem sum_perm {a b : List Int} (h : a.Perm b) : a.sum = b.sum := by
  induction h with
  | nil => rfl
  | cons x _ ih => simp [ih]
  | swap x y l => simp only [List.sum_cons]; omega
  | trans _ _ h1 h2 => exact h1.trans h2
theorem roomN_perm (D : DataW Value) (nm : Tx) {a b : List Tx} (h : a.Perm b) : roomN D nm a = roomN D nm b := sum_perm (h.map _)
theorem roomN_le (D : DataW Value) (nm : Tx) (hlen : ∀ s, slenV (valP D s) ≤ 1000) (ss : List Tx) : 0 ≤ roomN D nm ss ∧ roomN D nm ss ≤ 1001 * ss.length := by
  unfold roomN
  induction ss with
  | nil => simp
  | cons s ss ih =>
    have := hlen s
    have hc : 0 ≤ costP D nm s ∧ costP D nm s ≤ 1001 := by unfold costP; split <;> omega
    simp only [List.map_cons, List.sum_cons, List.length_cons]
    omega

set_option maxRecDepth 100000 in
set_option maxHeartbeats 4000000 in
theorem hasRoom_nil (b : Nat) (sc : Int) (q : Option Addr) (nm : Tx) (s : ByteArray) (A : Option Addr) (k c : Nat) (hk : k ≤ 1000) (w : World) (hs : SetB w b sc (.map none) q) :
    Calls Tryz.prog 95 #[.pointer (some ⟨b, 0, none⟩), .string (bs nm), .agg #[.string s, .slice A k c]] w fun e w' => e = .returned (.bool (decide ((1 : Int) + k ≤ 500))) ∧ Below w.heap.size w w' := by
  have c1 : w.cell? ⟨b, 1, none⟩ = some (.map none) := BL.cell hs 1
  have hlt := BL.lt hs
  have c1' : (w.alloc (.cells #[.string s, .slice A k c] 78)).cell? ⟨b, 1, none⟩ = some (.map none) := (((Below.refl _ w).alloc (Nat.le_refl _) _).cell (p := ⟨b, 1, none⟩) hlt).trans c1
  have hrg := run_range_nilMap (P := Tryz.prog) (w.alloc (.cells #[.string s, .slice A k c] 78)) 63 9 78 Tryz.underlying63
  have hnx : ∀ ty, (Instr.next (.pointer (some ⟨(w.alloc (.cells #[.string s, .slice A k c] 78)).heap.size, 0, none⟩)) false ty).run Tryz.prog ((w.alloc (.cells #[.string s, .slice A k c] 78)).alloc (.mapIter none 0 #[] 0)) = _ := fun ty => run_next_nilMap _ ty 0 0 #[]
  rw [size_alloc] at hrg hnx
  clear hs c1
  go_enter Tryz.func95, Tryz.ntmps95
  go_wp2_with fail
  refine wp_loop_rounds 1 ?_
  rw [rounds_succ]
  go_wp2_with fail
  go_ret
  exact ⟨rfl, ((Below.refl _ w).alloc (Nat.le_refl _) _).alloc (by simp) _⟩
theorem key_str {key : Value} {kl : Lit} (h : keyOf Tryz.prog 9 key = some kl) : ∃ x : Tx, key = .string (bs x) ∧ kl = .string x := by
  obtain ⟨x, hx, hk, _⟩ := Maps.keyOf_str Tryz.underlying9 h
  exact ⟨x, hx, hk⟩
theorem size_keys (D : DataW Value) : (strKeys D).length = Maps.size D := by cases D <;> simp [strKeys, Maps.size]

set_option maxRecDepth 100000 in
set_option maxHeartbeats 4000000 in
theorem hasRoom_map (b : Nat) (sc : Int) (q : Option Addr) (m n : Nat) (D : DataW Value) (nm : Tx) (s : ByteArray) (A : Option Addr) (k c : Nat) (hk : k ≤ 1000) (w : World) (hs : SetB w b sc (.map (some m)) q) (hown : w.ownsMap Tryz.prog 9 heldR m n D)
    (hsz : Maps.size D ≤ 1000) (hlen : ∀ s, slenV (valP D s) ≤ 1000) :
    Calls Tryz.prog 95 #[.pointer (some ⟨b, 0, none⟩), .string (bs nm), .agg #[.string s, .slice A k c]] w fun e w' => e = .returned (.bool (decide (1 + (k : Int) + roomN D nm (strKeys D) ≤ 500))) ∧ Below w.heap.size w w' := by
  have c1 : w.cell? ⟨b, 1, none⟩ = some (.map (some m)) := BL.cell hs 1
  have hlt := BL.lt hs
  have hml := hown.lt
  have c1' : (w.alloc (.cells #[.string s, .slice A k c] 78)).cell? ⟨b, 1, none⟩ = some (.map (some m)) := (((Below.refl _ w).alloc (Nat.le_refl _) _).cell (p := ⟨b, 1, none⟩) hlt).trans c1
  have HO := Lib.hid (hown.alloc (.cells #[.string s, .slice A k c] 78))
  have HK := Lib.hid (show ∀ ss : List Tx, ss.Perm (strKeys D) → roomN D nm ss = roomN D nm (strKeys D) from fun ss h => roomN_perm D nm h)
  have HL := Lib.hid hlen
  have e1 : (w.alloc (.cells #[.string s, .slice A k c] 78)).heap.size = w.heap.size + 1 := size_alloc _ _
  obtain ⟨R, hR⟩ : ∃ R, R = 1 + (k : Int) + roomN D nm (strKeys D) := ⟨_, rfl⟩
  rw [← hR]
  have HR := Lib.hid hR
  clear hs c1 hown hlen hR
  go_enter Tryz.func95, Tryz.ntmps95
  go_wp2_with (at_range; refine wpList_range_own _ rfl _ 63 rfl 9 78 lawK Tryz.underlying63 heldR m n D rfl HO.out ?_; intro w0 hrg0 hg0 hs0)
  go_frame
  rw [e1] at hrg0 hs0 ⊢
  have hb0 : Below w.heap.size w w0 := ((Below.refl _ w).alloc (Nat.le_refl _) (.cells #[.string s, .slice A k c] 78)).grown hg0 (by simp) (fun j hj => by cases hj)
  clear HO
  go_loopw [7] (fun x wr => ∃ (left : Lit → Bool) (cnt : Nat) (ss : List Tx), wr.ranges Tryz.prog 9 heldR m (w.heap.size + 1) n D left cnt ∧ Collected D left ss ∧ ss.length + cnt ≤ Maps.size D ∧ x = .int .i64 (1 + (k : Int) + roomN D nm ss) ∧ Below w.heap.size w wr ∧ w.heap.size + 2 ≤ wr.heap.size)
    (fun _ wr => wr.rangeLeft m (w.heap.size + 1))
  case atStart => exact ⟨_, _, [], hrg0, Collected.start D, by simp, by simp [roomN], hb0, by omega⟩
  case round =>
    obtain ⟨left, cnt, ss, hrg, hC, hcs, rfl, hbw, hws⟩ := hrel
    have hrl := roomN_le D nm HL.out ss
    obtain ⟨N, hN⟩ : ∃ N, N = 1 + (k : Int) + roomN D nm ss := ⟨_, rfl⟩
    rw [← hN]
    have hN0 : 0 ≤ N := by omega
    have hN1 : N ≤ 1100000 := by omega
    have HN := Lib.hid hN
    have HRG := Lib.hid hrg
    clear hN hrl
    go_wp2_with (at_next; refine wpList_next_ranges _ rfl _ rfl 9 lawK heldR (fun x : Tx => .string (bs x)) (fun y : ByteArray × Option Addr × Nat × Nat => .agg #[.string y.1, .slice y.2.1 y.2.2.1 y.2.2.2]) (fun key kl h => by obtain ⟨x, h1, _⟩ := key_str h; exact ⟨x, h1⟩) (fun v y h => by obtain ⟨s, A, n, c, h1, _⟩ := heldR_inv h; exact ⟨(s, A, n, c), h1⟩) m (w.heap.size + 1) n D left cnt rfl HRG.out ?_ ?_)
    · intro _ hl0
      have hp := hC.perm HRG.out.owns lawK Tryz.underlying9 hl0
      have hfin : N = R := by rw [HN.out, HR.out, HK.out ss hp]
      have HF := Lib.hid hfin
      clear hp hfin
      go_wp2_with fail
      go_ret
      exact ⟨by rw [← HF.out]; rfl, hbw⟩
    · intro x sv Av nv cv kl yd yp w1 cnt1 hkey hlk hv hat hrg1 hlt1 hg1 hs1 hen
      obtain ⟨x', ex, rfl⟩ := key_str hkey
      obtain rfl : x = x' := bs_inj (by simpa using ex)
      have hy : yd = .held (.agg #[.string sv, .slice Av nv cv]) := by
        have := (heldR_mk sv Av nv cv).symm.trans hv
        exact (congrArg Prod.fst (Option.some.inj this)).symm
      have hval : valP D x = .agg #[.string sv, .slice Av nv cv] := by unfold valP; rw [hat, hy]; rfl
      have hnv : nv ≤ 1000 := by have := HL.out x; rw [hval] at this; exact this
      have hC1 := hC.step hlk hat
      have hl1 : (ss ++ [x]).length + cnt1 ≤ Maps.size D := by rw [List.length_append]; simp; omega
      have hbw1 : Below w.heap.size w w1 := hbw.grown hg1 hbw.size (fun j hj => by cases hj; omega)
      have hr1 := (hrg1.kept (World.grownBy_alloc w1 (.cells #[.string sv, .slice Av nv cv] 78) none) (by simp) (by simp)).left_eq
      have HRG1 := Lib.hid hrg1
      have HC1 := Lib.hid hC1
      have HL1 := Lib.hid hl1
      have HBW1 := Lib.hid hbw1
      have hws1 : w.heap.size + 2 ≤ w1.heap.size := by omega
      have HR1 := Lib.hid hr1
      have hle := HRG.out.left_eq
      have HLE := Lib.hid hle
      clear hrg1 hC1 hl1 hbw1 hC hat hlk hkey hv hy hs1 hg1 hr1 hle ex hbw hcs
      by_cases hx : x = nm
      · have hcost : roomN D nm (ss ++ [x]) = roomN D nm ss := by rw [roomN_snoc, costP, if_pos hx]; omega
        have HCO := Lib.hid hcost
        have hq : ((bs x).toList == (bs nm).toList) = true := by rw [bs_tl, bs_tl, hx]; simp
        clear hcost hx hval
        go_wp2_with fail
        go_roundw
        case rel => exact ⟨_, cnt1, ss ++ [x], HRG1.out.kept (World.grownBy_alloc w1 _ none) (by simp) (by simp), HC1.out, HL1.out, by rw [HCO.out, ← HN.out], HBW1.out.alloc HBW1.out.size _, by simp; omega⟩
        case measure => rw [HR1.out, HLE.out]; exact hlt1
      · have hcost : roomN D nm (ss ++ [x]) = roomN D nm ss + (1 + (nv : Int)) := by
          rw [roomN_snoc, costP, if_neg hx, hval]; rfl
        have HCO := Lib.hid hcost
        have hq : ((bs x).toList == (bs nm).toList) = false := by rw [bs_tl, bs_tl]; exact beq_eq_false_iff_ne.2 hx
        have hnv0 : (0 : Int) ≤ (nv : Int) := Int.natCast_nonneg _
        clear hcost hx hval
        go_wp2_with fail
        go_roundw
        case rel => exact ⟨_, cnt1, ss ++ [x], HRG1.out.kept (World.grownBy_alloc w1 _ none) (by simp) (by simp), HC1.out, HL1.out, by rw [HCO.out]; have := HN.out; go_num, HBW1.out.alloc HBW1.out.size _, by simp; omega⟩
        case measure => rw [HR1.out, HLE.out]; exact hlt1
end Go.Proofs.YtgnlfikkmomghaaGreatDoor.Opt
