/- The numbers of CSI m. -/
import Derived.Test.YtjklnnklgkihlaaGreatDoorPNts
namespace Go.Proofs.YtjklnnklgkihlaaGreatDoor.Scr
open Go.RowKit Cel Sty Grd

/-- The numbers; without any 0. -/
def codesP (l : List Int) : List Int := (List.range (max l.length 1)).map fun i => parP l i 0
theorem codesP_len (l : List Int) : (codesP l).length = max l.length 1 := by simp [codesP]
def intV (l : List Int) : List Value := l.map (Value.int .i64)
theorem info_int : (Tryz.prog.info? 3).map (fun i => (i.zero, i.size, i.bytes)) = some (some (.int .i64 0), 1, 8) := by kernel_rfl
section
variable {ops : Array Oper} {rest : List Oper} {op : Oper} {a : Act} {w : World} {Q : Exit → Act → World → Prop}
theorem wpList_make_ints (hgd : op.guard = none) (x y : Operand) (ho : op.op = .makeSlice 63 x y) (n : Nat) (hx : a.eval x = .int .i64 (n : Int)) (hy : a.eval y = .int .i64 (n : Int)) (hn : n ≤ 1000000)
    (h : ∀ w1, BL w1 w.heap.size 3 (intV (List.replicate n 0)) → Below w.heap.size w w1 → wpList Tryz.prog ops Q rest (a.put op.dst (.slice (some ⟨w.heap.size, 0, none⟩) n n)) w1) : wpList Tryz.prog ops Q (op :: rest) a w := by
  have hi := info_int
  cases hq : Tryz.prog.info? 3 with
  | none => simp [hq] at hi
  | some i =>
    simp only [hq, Option.map_some, Option.some.injEq, Prod.mk.injEq] at hi
    obtain ⟨hz, hs, hby⟩ := hi
    refine wpList_plain hgd fun K hK => ?_
    have hrun := run_make (P := Tryz.prog) w 63 3 i _ Tryz.underlying63 hq hz .i64 .i64 (n : Int) (n : Int) (Int.natCast_nonneg _) (Int.le_refl _) (by rw [hby]; omega) (by omega)
    have hf : (List.replicate n [Value.int .i64 0]).flatten = intV (List.replicate n 0) := by
      unfold intV
      rw [List.map_replicate]
      induction n with
      | zero => rfl
      | succ n ih => simp_all [List.replicate_succ]
    have hl : (madeCells (Value.cells (.int .i64 0)) ((n : Int).toNat * i.size)) = (intV (List.replicate n 0)).toArray := by
      rw [hs, Int.toNat_natCast, ← hf]
      have hmc := madeCells_rep [.int .i64 0] n
      rw [← hmc]
      rfl
    rw [hl, Int.toNat_natCast] at hrun
    have hk := hK _ _ (h _ (BL.new w 3 _) ((Below.refl _ _).alloc (Nat.le_refl _) _))
    generalize w.alloc (.cells (intV (List.replicate n 0)).toArray 3) = w2 at hk hrun
    unfold Oper.wp
    simp [execOp, ho, hx, hy, hrun, Result.andThen]
    exact hk
end
/-- The first k numbers, the others not yet. -/
def codesK (l : List Int) (k : Nat) : List Int := (codesP l).take k ++ List.replicate ((codesP l).length - k) 0
theorem codesK_len (l : List Int) (k : Nat) (hk : k ≤ (codesP l).length) : (codesK l k).length = (codesP l).length := by unfold codesK; simp; omega
theorem codesK_set {l : List Int} {k : Nat} (h : k < (codesP l).length) : (intV (codesK l k)).set k (.int .i64 (parP l k 0)) = intV (codesK l (k + 1)) := by
  unfold intV
  rw [← List.map_set]
  congr 1
  unfold codesK
  have hl : ((codesP l).take k).length = k := by rw [List.length_take]; omega
  obtain ⟨d, hd⟩ : ∃ d, (codesP l).length - k = d + 1 := ⟨(codesP l).length - k - 1, by omega⟩
  rw [List.set_append_right _ _ (by omega), hl, Nat.sub_self, hd, List.replicate_succ, List.set_cons_zero, List.take_succ_eq_append_getElem h, show (codesP l).length - (k + 1) = d by omega]
  simp [codesP]
section
variable {w : World} {sb d : Nat} {a : Vt.Ac} {pv av : Value} {B2 : Nat}
set_option maxRecDepth 100000 in
set_option maxHeartbeats 2000000 in
theorem penCodes_at (hD : dgB w d sb a pv av) (hp : Vt.Ints w B2 pv a.ps) (hb : ∀ x ∈ a.ps, -9223372036854775808 ≤ x ∧ x ≤ 9223372036854775807) (hl : a.ps.length ≤ 100) :
    Calls Tryz.prog 220 #[ptrV d] w fun e w' => e = .returned (.slice (some ⟨w.heap.size, 0, none⟩) (codesP a.ps).length (codesP a.ps).length) ∧ BL w' w.heap.size 3 (intV (codesP a.ps)) ∧ Below w.heap.size w w' := by
  have e4 : w.cell? ⟨d, 4, none⟩ = some pv := hD.cell 4
  have kp : ∀ V k, Below w.heap.size w V → k < (codesP a.ps).length → Calls Tryz.prog 190 #[ptrV d, .int .i64 (k : Int), .int .i64 0] V fun e w' => e = .returned (.int .i64 (parP a.ps k 0)) ∧ V = w' := fun V k hV hk =>
    param_at (hD.only (F := []) (Only.of_below hV) (by simp)) (ints_below hp hV) hb k (by have := codesP_len a.ps; omega) 0
  obtain ⟨A, c, rfl⟩ := Vt.own_slice hp
  have hlen := codesP_len a.ps
  have hset : ∀ k, k < (codesP a.ps).length → (intV (codesK a.ps k)).set k (.int .i64 (parP a.ps k 0)) = intV (codesK a.ps (k + 1)) := fun k hk => codesK_set hk
  have hkl : ∀ k, k ≤ (codesP a.ps).length → (intV (codesK a.ps k)).length = (codesP a.ps).length := fun k hk => by unfold intV; rw [List.length_map]; exact codesK_len _ _ hk
  have hk0 : codesK a.ps 0 = List.replicate (codesP a.ps).length 0 := by unfold codesK; simp
  have hkn : codesK a.ps (codesP a.ps).length = codesP a.ps := by unfold codesK; simp
  obtain ⟨n, hn⟩ : ∃ n, (codesP a.ps).length = n := ⟨_, rfl⟩
  rw [hn] at kp hset hkl hk0 hkn hlen ⊢
  have hmx : max (a.ps.length : Int) 1 = (n : Int) := by omega
  have hn1 : n ≤ 1000000 := by omega
  generalize a.ps.length = m at *
  have HP := Lib.hid kp
  have HS := Lib.hid hset
  have HL := Lib.hid hkl
  have H0 := Lib.hid hk0
  have HN := Lib.hid hkn
  clear hD hp hb kp hset hkl hk0 hkn hlen hn
  unfold ptrV at *
  go_enter Tryz.func220, Tryz.ntmps220
  go_wp2_with (refine wpList_make_ints rfl (.tmp 11) (.tmp 11) rfl n rfl rfl hn1 ?_; intro w1 hm hb1)
  rw [← H0.out] at hm
  go_loopw [15] (fun i wr => ∃ k : Nat, k ≤ n ∧ i = .int .i64 (k : Int) ∧ BL wr w.heap.size 3 (intV (codesK a.ps k)) ∧ Below w.heap.size w wr) (fun i _ => n - (intOf i).toNat)
  case atStart => exact ⟨0, Nat.zero_le _, rfl, hm, hb1⟩
  case round =>
    obtain ⟨k, hk, rfl, hB, hb⟩ := hrel
    clear hm hb1
    have k0 : (0 : Int) ≤ (k : Int) := Int.natCast_nonneg _
    by_cases hlt : k < n
    · have k1 : (k : Int) < (n : Int) := by omega
      have kp := HP.out _ _ hb hlt
      obtain ⟨u, hu⟩ : ∃ u, (intV (codesK a.ps k))[k]? = some u := ⟨_, List.getElem?_eq_getElem (by rw [HL.out k hk]; exact hlt)⟩
      have c0 : wr.cell? ⟨w.heap.size, k, none⟩ = some u := (hB.cell k).trans hu
      have c1 := hB.frozen k
      have hBn := hB.set_ k (.int .i64 (parP a.ps k 0))
      rw [HS.out k hlt] at hBn
      have hon := hb.trans ((one_set wr w.heap.size k (.int .i64 (parP a.ps k 0))).below (B := w.heap.size) hb.size (by simp))
      have HBN := Lib.hid hBn
      have HON := Lib.hid hon
      clear hBn hon hu hB
      go_wp2_with (go_at_call 190; refine kp.mono ?_; rintro _ w4 ⟨rfl, rfl⟩)
      go_roundw
      case rel => exact ⟨k + 1, by omega, by go_num, HBN.out, HON.out⟩
      case measure => simp [intOf]; omega
    · obtain rfl : k = n := by omega
      rw [HN.out] at hB
      go_wp2_with fail
      go_ret
      exact ⟨rfl, hB, hb⟩
end
end Go.Proofs.YtjklnnklgkihlaaGreatDoor.Scr
