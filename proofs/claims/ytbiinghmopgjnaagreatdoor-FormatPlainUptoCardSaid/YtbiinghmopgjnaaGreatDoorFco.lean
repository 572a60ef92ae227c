/- format: a pattern is read once. -/
import Derived.Test.YtbiinghmopgjnaaGreatDoorFbr
import Derived.Test.YtbiinghmopgjnaaGreatDoorFad
import Derived.Test.YtbiinghmopgjnaaGreatDoorShelf
import Derived.StillTailTactics
namespace Go.Proofs.YtbiinghmopgjnaaGreatDoor.Fmt
open Go.RowKit

/-- A part's cells: is it a star; its words. -/
structure PV where
  star : Bool
  ws : Nat → Nat
def pvL (p : PV) : List Value := [.bool p.star] ++ setL p.ws
def pvsC (l : List PV) : List Value := l.flatMap pvL
theorem pvL_len (p : PV) : (pvL p).length = 5 := rfl
theorem pvsC_len (l : List PV) : (pvsC l).length = l.length * 5 := by
  unfold pvsC
  induction l with
  | nil => rfl
  | cons p l ih => simp only [List.flatMap_cons, List.length_append, List.length_cons, pvL_len, ih]; omega
theorem pvsC_app (l : List PV) (p : PV) : pvsC (l ++ [p]) = pvsC l ++ pvL p := by simp [pvsC]
def PartIs (v : PV) : Part → Prop
  | .star => v.star = true
  | .one f => v.star = false ∧ SetIs v.ws f
theorem info_part : (Tryz.prog.info? 109).map (fun i => (i.zero, i.size, i.bytes)) = some (some (.agg #[.bool false, .int .u64 0, .int .u64 0, .int .u64 0, .int .u64 0]), 5, 40) := by kernel_rfl
theorem pvL_one (p : PV) : ∀ u ∈ pvL p, u.oneCell' = true := by
  intro u hu; simp [pvL, setL] at hu; rcases hu with h | h | h | h | h <;> (subst h; rfl)
section
variable {ops : Array Oper} {rest : List Oper} {op : Oper} {a : Act} {w : World} {Q : Exit → Act → World → Prop}
/-- One part appended to a row of the call's own. -/
theorem wpList_app_part (hgd : op.guard = none) (s x : Operand) (ho : op.op = .call { callee := .builtin .append, args := #[s, x], argTypes := #[103, 103] })
    (B : Nat) (v : Value) (l : List PV) (y : PV) (n : Nat) (hn0 : n = l.length) (hs : a.eval s = v) (hown : w.ownsRow B 109 5 v n (pvsC l)) (g c : Nat) (hx : a.eval x = .slice (some ⟨g, 0, none⟩) 1 c) (hg : BL w g 109 (pvL y)) (hB : B ≤ w.heap.size) (hn : n ≤ 100000)
    (h : ∀ v' w', w'.ownsRow B 109 5 v' (n + 1) (pvsC (l ++ [y])) → w.grownBy w' v.ownBlock → wpList Tryz.prog ops Q rest (a.put op.dst v') w') :
    wpList Tryz.prog ops Q (op :: rest) a w := by
  obtain ⟨i0, hi0, hz0, hz1, hz2⟩ := info_parts info_part
  refine wpList_append_own_at w hgd s x 103 ho B 109 i0 _ 5 40 Tryz.underlying103 hi0 hz0 hz1 hz2 rfl (by decide) v n (pvsC l) hs hown ⟨g, 0, none⟩ 1 c (pvL y) hx rfl
    (fun j u hj => by rw [Addr.add_mid, Nat.zero_add, hg.cell j]; exact hj) (pvL_one y) (by unfold maxLen; omega) (by omega) hB ?_
  intro v' w' h2 h3 _ _
  refine h v' w' ?_ h3
  rw [pvsC_app]
  exact h2
end
theorem comp_star (k : Nat) (r : Tx) : compP (k + 1) (42 :: r) = .star :: compP k r := rfl
theorem comp_any (k : Nat) (r : Tx) : compP (k + 1) (63 :: r) = .one (fun _ => true) :: compP k r := rfl
theorem comp_brk (k : Nat) (r : Tx) : compP (k + 1) (91 :: r) = match bracketR r with
    | none => .one (fun x => x == 91) :: compP k r
    | some (f, t) => .one f :: compP k t := rfl
theorem comp_esc (k : Nat) (e : UInt8) (r : Tx) : compP (k + 1) (92 :: e :: r) = .one (fun x => x == e) :: compP k r := rfl
theorem comp_end (k : Nat) : compP (k + 1) [92] = [.one (fun x => x == 92)] := rfl
theorem comp_one (k : Nat) (c : UInt8) (r : Tx) (h1 : c ≠ 42) (h2 : c ≠ 63) (h3 : c ≠ 91) (h4 : c ≠ 92) : compP (k + 1) (c :: r) = .one (fun x => x == c) :: compP k r := by
  conv => lhs; unfold compP
  rw [if_neg h1, if_neg h2, if_neg h3, if_neg h4]
theorem comp_nil (k : Nat) : compP k [] = [] := by cases k <;> rfl
/-- A row of parts. -/
structure Row5 (w : World) (B : Nat) (v : Value) (pvs : List PV) (ps : List Part) : Prop where
  own : w.ownsRow B 109 5 v pvs.length (pvsC pvs)
  len : pvs.length = ps.length
  is_ : ∀ (i : Nat) p q, pvs[i]? = some p → ps[i]? = some q → PartIs p q
theorem part_more {pvs : List PV} {ps : List Part} {p : PV} {q : Part} (hl : pvs.length = ps.length) (h : ∀ (i : Nat) p q, pvs[i]? = some p → ps[i]? = some q → PartIs p q) (hpq : PartIs p q) : ∀ (i : Nat) x y, (pvs ++ [p])[i]? = some x → (ps ++ [q])[i]? = some y → PartIs x y := by
  intro i x y hx hy
  rcases Nat.lt_or_ge i pvs.length with hlt | hge
  · rw [List.getElem?_append_left hlt] at hx
    rw [List.getElem?_append_left (by omega)] at hy
    exact h i x y hx hy
  · rw [List.getElem?_append_right hge] at hx
    rw [List.getElem?_append_right (by omega)] at hy
    have : i - pvs.length = 0 := by
      have := (List.getElem?_eq_some_iff.1 hx).1
      simp at this; omega
    rw [this] at hx
    rw [show i - ps.length = 0 by omega] at hy
    simp at hx hy
    subst hx; subst hy
    exact hpq
set_option maxRecDepth 100000 in
set_option maxHeartbeats 8000000 in
theorem compile_any (P : Tx) (hl : P.length ≤ 8192) (w : World) :
    Calls Tryz.prog 75 #[.string (bs P)] w fun e w' => ∃ v pvs, e = .returned v ∧ Row5 w' w.heap.size v pvs (compP P.length P) ∧ Below w.heap.size w w' := by
  obtain ⟨S, hS⟩ : ∃ S, S = bs P := ⟨_, rfl⟩
  rw [← hS]
  have hz : S.size = P.length := by rw [hS, bs_size]
  have hg : ∀ (j : Nat) (h : j < S.size), P.drop j = S[j] :: P.drop (j + 1) := fun j h => by
    rw [List.drop_eq_getElem_cons (by omega)]
    subst hS
    rfl
  obtain ⟨Lk, hLk⟩ : ∃ Lk, Lk = Lib.lastIndexByte (bs P) 93 := ⟨_, rfl⟩
  have hlast := Tryz.strings_LastIndexByte (bs P) 93 (by rw [bs_size]; omega) w
  rw [← hLk, ← hS] at hlast
  have HLI := Lib.hid (hLk ▸ LastIs.of P)
  have hbk := fun (j : Nat) (hj : j < P.length) V => bracket_any P j Lk (hLk ▸ LastIs.of P) hj hl V
  rw [← hS] at hbk
  obtain ⟨R, hR⟩ : ∃ R, R = compP P.length P := ⟨_, rfl⟩
  rw [← hR]
  have HLAST := Lib.hid hlast
  have HBK := Lib.hid hbk
  have HG := Lib.hid hg
  have HZ := Lib.hid hz
  have HR := Lib.hid hR
  have hs8 : (S.size : Int) ≤ 8192 := by omega
  clear hlast hLk hbk hg hz hR hS hl HLI
  go_enter Tryz.func75, Tryz.ntmps75
  go_wp2_with fail
  refine HLAST.out.mono ?_
  rintro _ w9 ⟨rfl, rfl⟩
  go_wp2_with fail
  go_loopw [3, 5] (fun lv i wr => ∃ (k fu : Nat) (pvs : List PV) (ps : List Part), i = .int .i64 (k : Int) ∧ k ≤ S.size ∧ S.size ≤ k + fu ∧ R = ps ++ compP fu (P.drop k) ∧ Row5 wr w9.heap.size lv pvs ps ∧ ps.length ≤ k ∧ Below w9.heap.size w9 wr) (fun _ i _ => S.size - (intOf i).toNat)
  case atStart => exact ⟨0, P.length, [], [], rfl, Nat.zero_le _, by have := HZ.out; omega, HR.out, ⟨World.ownsRow_nil _ _ _ _, rfl, fun i p q h => by simp at h⟩, Nat.le_refl _, Below.refl _ _⟩
  case round =>
    obtain ⟨k, fu, pvs, ps, rfl, hk, hfu, hRR, hrow, hpl, hb⟩ := hrel
    by_cases hlt : k < S.size
    · have hd := HG.out k hlt
      have j1 : (k : Int) < (S.size : Int) := by omega
      obtain ⟨c, hc⟩ : ∃ c, c = S[k] := ⟨_, rfl⟩
      have hci : ((S[k].toNat : Nat) : Int) = (c.toNat : Int) := by rw [hc]
      rw [← hc] at hd
      rw [hd] at hRR
      clear hc
      obtain ⟨n, hn⟩ : ∃ n, pvs.length = n := ⟨_, rfl⟩
      obtain ⟨hown, hlen, his⟩ := hrow
      rw [hn] at hown
      obtain ⟨A, c0, rfl⟩ := own_slice hown
      have HOWN := Lib.hid hown
      have HLEN := Lib.hid hlen
      have HIS := Lib.hid his
      have HNL := Lib.hid hn
      have HN1 := Lib.hid (show n ≤ 100000 by omega)
      have HB := Lib.hid hb
      have HPL := Lib.hid hpl
      have HPZ := Lib.hid (show S.size ≤ 8192 by omega)
      clear hown hlen his hn hb hpl HLAST
      cases fu with
      | zero => omega
      | succ fu =>
        have HP0 : Hid (∀ z : Nat → Nat, True) := fun _ => trivial
        have hz0 : Below wr.heap.size wr (wr.alloc (.cells #[.bool false, .int .u64 0, .int .u64 0, .int .u64 0, .int .u64 0] 109)) := (Below.refl _ _).alloc (Nat.le_refl _) _
        have hp0 : BL (wr.alloc (.cells #[.bool false, .int .u64 0, .int .u64 0, .int .u64 0, .int .u64 0] 109)) wr.heap.size 109 ([.bool false] ++ setL (fun _ => 0)) := BL.new _ _ _
        have HZ0 := Lib.hid hz0
        have HP := Lib.hid hp0
        clear hz0 hp0 HP0
        by_cases h42 : c = 42
        · rw [h42, comp_star] at hRR
          have HNEXT := Lib.hid (show R = (ps ++ [.star]) ++ compP fu (P.drop (k + 1)) by rw [hRR]; simp)
          have hci2 : ((S[k].toNat : Nat) : Int) = 42 := by rw [hci, h42]; rfl
          have hw1 : Below wr.heap.size wr (wr.alloc (.cells #[.bool true, .int .u64 0, .int .u64 0, .int .u64 0, .int .u64 0] 109)) := (Below.refl _ _).alloc (Nat.le_refl _) _
          have HW1 := Lib.hid hw1
          clear hci h42 hRR hd hw1
          have HOX : Hid (((wr.alloc (.cells #[.bool true, .int .u64 0, .int .u64 0, .int .u64 0, .int .u64 0] 109)).alloc (.cells #[.bool true, .int .u64 0, .int .u64 0, .int .u64 0, .int .u64 0] 109)).ownsRow w9.heap.size 109 5 (.slice A n c0) n (pvsC pvs)) := (own_only (F := []) HOWN.out (Only.of_below HW1.out) (fun _ _ h => by cases h)).alloc _
          have HNX : Hid (BL ((wr.alloc (.cells #[.bool true, .int .u64 0, .int .u64 0, .int .u64 0, .int .u64 0] 109)).alloc (.cells #[.bool true, .int .u64 0, .int .u64 0, .int .u64 0, .int .u64 0] 109)) (wr.alloc (.cells #[.bool true, .int .u64 0, .int .u64 0, .int .u64 0, .int .u64 0] 109)).heap.size 109 (pvL ⟨true, (fun _ => 0)⟩)) := BL.new _ _ _
          have hnx := HNX.out
          rw [size_alloc] at hnx
          have HNX2 := Lib.hid hnx
          clear HNX hnx
          have HNX := HNX2
          have HBX := Lib.hid ((HB.out.trans (HW1.out.mono HB.out.size)).alloc (Nat.le_trans HB.out.size HW1.out.size) (.cells #[.bool true, .int .u64 0, .int .u64 0, .int .u64 0, .int .u64 0] 109))
          go_wp2_with (at_builtin; refine wpList_app_part rfl _ _ rfl w9.heap.size (.slice A n c0) pvs ⟨true, (fun _ => 0)⟩ n HNL.out.symm rfl HOX.out _ 1 rfl HNX.out HBX.out.size HN1.out ?_; intro v5 w5 ho5 hg5; obtain ⟨A5, c5, rfl⟩ := own_slice ho5; have HO5 := Lib.hid ho5; have HB5 := Lib.hid (HBX.out.grown hg5 HBX.out.size (fun i hi => (HOX.out.lt i hi).1)); clear ho5 hg5)
          go_roundw
          case measure => simp [intOf]; first | omega | (have := HK1.out; omega)
          case rel => exact ⟨k + 1, fu, pvs ++ [⟨true, (fun _ => 0)⟩], ps ++ [.star], by go_num, by omega, by first | omega | (have := HK1.out; omega), HNEXT.out, ⟨by rw [List.length_append, HNL.out]; exact HO5.out, by rw [List.length_append, List.length_append, HLEN.out]; rfl, part_more HLEN.out HIS.out (by rfl)⟩, by rw [List.length_append, List.length_singleton]; have := HPL.out; omega, HB5.out⟩
        have k42 : ¬ (c.toNat : Int) = 42 := fun h => h42 (u8_int h)
        by_cases h63 : c = 63
        · rw [h63, comp_any] at hRR
          have HNEXT := Lib.hid (show R = (ps ++ [.one (fun _ => true)]) ++ compP fu (P.drop (k + 1)) by rw [hRR]; simp)
          have hci2 : ((S[k].toNat : Nat) : Int) = 63 := by rw [hci, h63]; rfl
          clear hci h42 h63 hRR hd k42
          have hoth := fun V => others_any SetIs.empty V
          obtain ⟨wn, hwn⟩ : ∃ wn : Nat → Nat, wn = fun i => 18446744073709551615 ^^^ (fun _ => 0) i := ⟨_, rfl⟩
          have hset : SetIs wn (fun _ => true) := by rw [hwn]; exact SetIs.empty.not.same (fun _ => rfl)
          rw [← hwn] at hoth
          have HOTH := Lib.hid hoth
          have HS6 := Lib.hid hset
          clear hoth hset hwn
          go_wp2_with fail
          refine (HOTH.out _).mono ?_
          rintro _ w3 ⟨rfl, hb3⟩
          have HP3 : Hid (BL w3 wr.heap.size 109 ([.bool false] ++ setL (fun _ => 0))) := HP.out.keep (hb3.block _ HP.out.lt)
          have HW3 := Lib.hid (HZ0.out.trans (hb3.mono HZ0.out.size))
          clear hb3
          go_wp2_with (first
            | (refine wpList_store_at rfl 107 _ _ rfl wr.heap.size 1 (setL wn) rfl rfl 109 _ HP3.out (by show 1 + 4 ≤ 5; omega) (by kernel_rfl) (setL_one _) ?_; intro w6 h6 ho6 hs6; have HP6 : Hid (BL w6 wr.heap.size 109 [.bool false, .int .u64 ((wn 0 : Nat) : Int), .int .u64 ((wn 1 : Nat) : Int), .int .u64 ((wn 2 : Nat) : Int), .int .u64 ((wn 3 : Nat) : Int)]) := h6; have HW6 := Lib.hid (HW3.out.trans (ho6.below HW3.out.size (by simp))); clear h6 ho6 hs6; have HOX : Hid ((w6.alloc (.cells #[.bool false, .int .u64 ((wn 0 : Nat) : Int), .int .u64 ((wn 1 : Nat) : Int), .int .u64 ((wn 2 : Nat) : Int), .int .u64 ((wn 3 : Nat) : Int)] 109)).ownsRow w9.heap.size 109 5 (.slice A n c0) n (pvsC pvs)) := (own_only (F := []) HOWN.out (Only.of_below HW6.out) (fun _ _ h => by cases h)).alloc _; have HNX : Hid (BL (w6.alloc (.cells #[.bool false, .int .u64 ((wn 0 : Nat) : Int), .int .u64 ((wn 1 : Nat) : Int), .int .u64 ((wn 2 : Nat) : Int), .int .u64 ((wn 3 : Nat) : Int)] 109)) w6.heap.size 109 (pvL ⟨false, wn⟩)) := BL.new _ _ _; have HBX := Lib.hid ((HB.out.trans (HW6.out.mono HB.out.size)).alloc (Nat.le_trans HB.out.size HW6.out.size) (.cells #[.bool false, .int .u64 ((wn 0 : Nat) : Int), .int .u64 ((wn 1 : Nat) : Int), .int .u64 ((wn 2 : Nat) : Int), .int .u64 ((wn 3 : Nat) : Int)] 109)))
            | (refine wpList_load_mid rfl 109 _ rfl wr.heap.size 0 rfl [.bool false, .int .u64 ((wn 0 : Nat) : Int), .int .u64 ((wn 1 : Nat) : Int), .int .u64 ((wn 2 : Nat) : Int), .int .u64 ((wn 3 : Nat) : Int)] _ (HP6.out.range (o := 0) (vs := [.bool false, .int .u64 ((wn 0 : Nat) : Int), .int .u64 ((wn 1 : Nat) : Int), .int .u64 ((wn 2 : Nat) : Int), .int .u64 ((wn 3 : Nat) : Int)]) (fun j v hj => by rw [Nat.zero_add]; exact hj)) Tryz.underlying109 rfl (by kernel_rfl) ?_)
            | (at_builtin; refine wpList_app_part rfl _ _ rfl w9.heap.size (.slice A n c0) pvs ⟨false, wn⟩ n HNL.out.symm rfl HOX.out _ 1 rfl HNX.out HBX.out.size HN1.out ?_; intro v5 w5 ho5 hg5; obtain ⟨A5, c5, rfl⟩ := own_slice ho5; have HO5 := Lib.hid ho5; have HB5 := Lib.hid (HBX.out.grown hg5 HBX.out.size (fun i hi => (HOX.out.lt i hi).1)); clear ho5 hg5))
          go_roundw
          case measure => simp [intOf]; first | omega | (have := HK1.out; omega)
          case rel => exact ⟨k + 1, fu, pvs ++ [⟨false, wn⟩], ps ++ [.one (fun _ => true)], by go_num, by omega, by first | omega | (have := HK1.out; omega), HNEXT.out, ⟨by rw [List.length_append, HNL.out]; exact HO5.out, by rw [List.length_append, List.length_append, HLEN.out]; rfl, part_more HLEN.out HIS.out (show PartIs ⟨false, wn⟩ (.one (fun _ => true)) from ⟨rfl, HS6.out⟩)⟩, by rw [List.length_append, List.length_singleton]; have := HPL.out; omega, HB5.out⟩
        have k63 : ¬ (c.toNat : Int) = 63 := fun h => h63 (u8_int h)
        by_cases h91 : c = 91
        · rw [h91, comp_brk] at hRR
          have hci2 : ((S[k].toNat : Nat) : Int) = 91 := by rw [hci, h91]; rfl
          have HBRK := Lib.hid (fun V => HBK.out k (by have := HZ.out; omega) V)
          have HRR := Lib.hid hRR
          clear hci h42 h63 h91 hRR hd k42 k63
          go_wp2_with fail
          refine (HBRK.out _).mono ?_
          rintro e3 w3 ⟨hb3, hcase⟩
          have HP3 : Hid (BL w3 wr.heap.size 109 ([.bool false] ++ setL (fun _ => 0))) := HP.out.keep (hb3.block _ HP.out.lt)
          have HW3 := Lib.hid (HZ0.out.trans (hb3.mono HZ0.out.size))
          clear hb3
          rcases hcase with ⟨hbn, wn, rfl, hset⟩ | ⟨f, t, wn, en, hbn, rfl, hset, hdr, hen1, hen2⟩
          · have HS6 := Lib.hid hset
            have hrr := HRR.out
            rw [hbn] at hrr
            have HNEXT := Lib.hid (show R = (ps ++ [.one (fun x => x == 91)]) ++ compP fu (P.drop (k + 1)) by rw [hrr]; simp)
            clear hset hbn hrr
            go_wp2_with (first
              | (refine wpList_store_at rfl 107 _ _ rfl wr.heap.size 1 (setL wn) rfl rfl 109 _ HP3.out (by show 1 + 4 ≤ 5; omega) (by kernel_rfl) (setL_one _) ?_; intro w6 h6 ho6 hs6; have HP6 : Hid (BL w6 wr.heap.size 109 [.bool false, .int .u64 ((wn 0 : Nat) : Int), .int .u64 ((wn 1 : Nat) : Int), .int .u64 ((wn 2 : Nat) : Int), .int .u64 ((wn 3 : Nat) : Int)]) := h6; have HW6 := Lib.hid (HW3.out.trans (ho6.below HW3.out.size (by simp))); clear h6 ho6 hs6; have HOX : Hid ((w6.alloc (.cells #[.bool false, .int .u64 ((wn 0 : Nat) : Int), .int .u64 ((wn 1 : Nat) : Int), .int .u64 ((wn 2 : Nat) : Int), .int .u64 ((wn 3 : Nat) : Int)] 109)).ownsRow w9.heap.size 109 5 (.slice A n c0) n (pvsC pvs)) := (own_only (F := []) HOWN.out (Only.of_below HW6.out) (fun _ _ h => by cases h)).alloc _; have HNX : Hid (BL (w6.alloc (.cells #[.bool false, .int .u64 ((wn 0 : Nat) : Int), .int .u64 ((wn 1 : Nat) : Int), .int .u64 ((wn 2 : Nat) : Int), .int .u64 ((wn 3 : Nat) : Int)] 109)) w6.heap.size 109 (pvL ⟨false, wn⟩)) := BL.new _ _ _; have HBX := Lib.hid ((HB.out.trans (HW6.out.mono HB.out.size)).alloc (Nat.le_trans HB.out.size HW6.out.size) (.cells #[.bool false, .int .u64 ((wn 0 : Nat) : Int), .int .u64 ((wn 1 : Nat) : Int), .int .u64 ((wn 2 : Nat) : Int), .int .u64 ((wn 3 : Nat) : Int)] 109)))
              | (refine wpList_load_mid rfl 109 _ rfl wr.heap.size 0 rfl [.bool false, .int .u64 ((wn 0 : Nat) : Int), .int .u64 ((wn 1 : Nat) : Int), .int .u64 ((wn 2 : Nat) : Int), .int .u64 ((wn 3 : Nat) : Int)] _ (HP6.out.range (o := 0) (vs := [.bool false, .int .u64 ((wn 0 : Nat) : Int), .int .u64 ((wn 1 : Nat) : Int), .int .u64 ((wn 2 : Nat) : Int), .int .u64 ((wn 3 : Nat) : Int)]) (fun j v hj => by rw [Nat.zero_add]; exact hj)) Tryz.underlying109 rfl (by kernel_rfl) ?_)
              | (at_builtin; refine wpList_app_part rfl _ _ rfl w9.heap.size (.slice A n c0) pvs ⟨false, wn⟩ n HNL.out.symm rfl HOX.out _ 1 rfl HNX.out HBX.out.size HN1.out ?_; intro v5 w5 ho5 hg5; obtain ⟨A5, c5, rfl⟩ := own_slice ho5; have HO5 := Lib.hid ho5; have HB5 := Lib.hid (HBX.out.grown hg5 HBX.out.size (fun i hi => (HOX.out.lt i hi).1)); clear ho5 hg5))
            go_roundw
            case measure => simp [intOf]; first | omega | (have := HK1.out; omega)
            case rel => exact ⟨k + 1, fu, pvs ++ [⟨false, wn⟩], ps ++ [.one (fun x => x == 91)], by go_num, by omega, by first | omega | (have := HK1.out; omega), HNEXT.out, ⟨by rw [List.length_append, HNL.out]; exact HO5.out, by rw [List.length_append, List.length_append, HLEN.out]; rfl, part_more HLEN.out HIS.out (show PartIs ⟨false, wn⟩ (.one (fun x => x == 91)) from ⟨rfl, HS6.out⟩)⟩, by rw [List.length_append, List.length_singleton]; have := HPL.out; omega, HB5.out⟩
          · have HS6 := Lib.hid hset
            have hrr := HRR.out
            rw [hbn] at hrr
            have HNEXT := Lib.hid (show R = (ps ++ [.one f]) ++ compP fu (P.drop (en + 1)) by rw [hrr, hdr]; simp)
            have hen3 : (en : Int) < (S.size : Int) := by have := HZ.out; omega
            have hen4 : en < S.size := by omega
            clear hset hbn hrr hdr
            go_wp2_with (first
              | (refine wpList_store_at rfl 107 _ _ rfl wr.heap.size 1 (setL wn) rfl rfl 109 _ HP3.out (by show 1 + 4 ≤ 5; omega) (by kernel_rfl) (setL_one _) ?_; intro w6 h6 ho6 hs6; have HP6 : Hid (BL w6 wr.heap.size 109 [.bool false, .int .u64 ((wn 0 : Nat) : Int), .int .u64 ((wn 1 : Nat) : Int), .int .u64 ((wn 2 : Nat) : Int), .int .u64 ((wn 3 : Nat) : Int)]) := h6; have HW6 := Lib.hid (HW3.out.trans (ho6.below HW3.out.size (by simp))); clear h6 ho6 hs6; have HOX : Hid ((w6.alloc (.cells #[.bool false, .int .u64 ((wn 0 : Nat) : Int), .int .u64 ((wn 1 : Nat) : Int), .int .u64 ((wn 2 : Nat) : Int), .int .u64 ((wn 3 : Nat) : Int)] 109)).ownsRow w9.heap.size 109 5 (.slice A n c0) n (pvsC pvs)) := (own_only (F := []) HOWN.out (Only.of_below HW6.out) (fun _ _ h => by cases h)).alloc _; have HNX : Hid (BL (w6.alloc (.cells #[.bool false, .int .u64 ((wn 0 : Nat) : Int), .int .u64 ((wn 1 : Nat) : Int), .int .u64 ((wn 2 : Nat) : Int), .int .u64 ((wn 3 : Nat) : Int)] 109)) w6.heap.size 109 (pvL ⟨false, wn⟩)) := BL.new _ _ _; have HBX := Lib.hid ((HB.out.trans (HW6.out.mono HB.out.size)).alloc (Nat.le_trans HB.out.size HW6.out.size) (.cells #[.bool false, .int .u64 ((wn 0 : Nat) : Int), .int .u64 ((wn 1 : Nat) : Int), .int .u64 ((wn 2 : Nat) : Int), .int .u64 ((wn 3 : Nat) : Int)] 109)))
              | (refine wpList_load_mid rfl 109 _ rfl wr.heap.size 0 rfl [.bool false, .int .u64 ((wn 0 : Nat) : Int), .int .u64 ((wn 1 : Nat) : Int), .int .u64 ((wn 2 : Nat) : Int), .int .u64 ((wn 3 : Nat) : Int)] _ (HP6.out.range (o := 0) (vs := [.bool false, .int .u64 ((wn 0 : Nat) : Int), .int .u64 ((wn 1 : Nat) : Int), .int .u64 ((wn 2 : Nat) : Int), .int .u64 ((wn 3 : Nat) : Int)]) (fun j v hj => by rw [Nat.zero_add]; exact hj)) Tryz.underlying109 rfl (by kernel_rfl) ?_)
              | (at_builtin; refine wpList_app_part rfl _ _ rfl w9.heap.size (.slice A n c0) pvs ⟨false, wn⟩ n HNL.out.symm rfl HOX.out _ 1 rfl HNX.out HBX.out.size HN1.out ?_; intro v5 w5 ho5 hg5; obtain ⟨A5, c5, rfl⟩ := own_slice ho5; have HO5 := Lib.hid ho5; have HB5 := Lib.hid (HBX.out.grown hg5 HBX.out.size (fun i hi => (HOX.out.lt i hi).1)); clear ho5 hg5))
            go_roundw
            case measure => simp [intOf]; first | omega | (have := HK1.out; omega)
            case rel => exact ⟨en + 1, fu, pvs ++ [⟨false, wn⟩], ps ++ [.one f], by go_num, by omega, by first | omega | (have := HK1.out; omega), HNEXT.out, ⟨by rw [List.length_append, HNL.out]; exact HO5.out, by rw [List.length_append, List.length_append, HLEN.out]; rfl, part_more HLEN.out HIS.out (show PartIs ⟨false, wn⟩ (.one f) from ⟨rfl, HS6.out⟩)⟩, by rw [List.length_append, List.length_singleton]; have := HPL.out; omega, HB5.out⟩
        have k91 : ¬ (c.toNat : Int) = 91 := fun h => h91 (u8_int h)
        by_cases h92 : c = 92
        · have hci2 : ((S[k].toNat : Nat) : Int) = 92 := by rw [hci, h92]; rfl
          rw [h92] at hRR
          by_cases hl2 : k + 1 < S.size
          · have hd2 := HG.out (k + 1) hl2
            obtain ⟨e, he⟩ : ∃ e, e = S[k + 1] := ⟨_, rfl⟩
            rw [← he] at hd2
            rw [hd2, comp_esc] at hRR
            have HNEXT := Lib.hid (show R = (ps ++ [.one (fun x => x == e)]) ++ compP fu (P.drop (k + 1 + 1)) by rw [hRR]; simp)
            have hei0 : ((S[k + 1].toNat : Nat) : Int) = (e.toNat : Int) := by rw [he]
            clear hd2 he
            obtain ⟨k1, hk1⟩ : ∃ k1, k1 = k + 1 := ⟨_, rfl⟩
            have e1 : (k : Int) + 1 = (k1 : Int) := by omega
            have j2 : (k1 : Int) < (S.size : Int) := by omega
            have j3 : min (k1 : Int) ((S.size : Int) - 1) = (k1 : Int) := by omega
            have j4 : (if (S.size : Int) - 1 < (k1 : Int) then (S.size : Int) - 1 else (k1 : Int)) = (k1 : Int) := by rw [if_neg (by omega)]
            have hl3 : k1 < S.size := by omega
            have hei : ((S[k1].toNat : Nat) : Int) = (e.toNat : Int) := by subst hk1; exact hei0
            rw [← hk1] at HNEXT
            have HK1 := Lib.hid hk1
            clear hei0 hl2 hk1
            have HPUT := Lib.hid (put_any (pre := [.bool false]) HP.out.drew SetIs.empty e e)
            clear hci h42 h63 h91 h92 hRR hd k42 k63 k91
            go_wp2_with fail
            go_still_tail 7, (by kernel_rfl)
            go_wp2_with fail
            refine HPUT.out.mono ?_
            rintro _ w6 ⟨rfl, ws6, hb6, hs6, ho6⟩
            have HP6 : Hid (BL w6 wr.heap.size 109 [.bool false, .int .u64 ((ws6 0 : Nat) : Int), .int .u64 ((ws6 1 : Nat) : Int), .int .u64 ((ws6 2 : Nat) : Int), .int .u64 ((ws6 3 : Nat) : Int)]) := hb6
            have HS6 := Lib.hid (hs6.same (fun x => (upto_one (fun _ => false) e x).trans (Bool.false_or _)))
            have hw6 : Below wr.heap.size wr w6 := (HZ0.out.drew).trans (ho6.below (by show wr.heap.size ≤ (World.alloc _ _).heap.size; simp) (by simp))
            have HW6 := Lib.hid hw6
            clear hb6 hs6 ho6 hw6
            have HOX : Hid ((w6.alloc (.cells #[.bool false, .int .u64 ((ws6 0 : Nat) : Int), .int .u64 ((ws6 1 : Nat) : Int), .int .u64 ((ws6 2 : Nat) : Int), .int .u64 ((ws6 3 : Nat) : Int)] 109)).ownsRow w9.heap.size 109 5 (.slice A n c0) n (pvsC pvs)) := (own_only (F := []) HOWN.out (Only.of_below (HW6.out)) (fun _ _ h => by cases h)).alloc _
            have HNX : Hid (BL (w6.alloc (.cells #[.bool false, .int .u64 ((ws6 0 : Nat) : Int), .int .u64 ((ws6 1 : Nat) : Int), .int .u64 ((ws6 2 : Nat) : Int), .int .u64 ((ws6 3 : Nat) : Int)] 109)) w6.heap.size 109 (pvL ⟨false, ws6⟩)) := BL.new _ _ _
            have HBX := Lib.hid ((HB.out.trans (HW6.out.mono HB.out.size)).alloc (Nat.le_trans HB.out.size (HW6.out).size) (.cells #[.bool false, .int .u64 ((ws6 0 : Nat) : Int), .int .u64 ((ws6 1 : Nat) : Int), .int .u64 ((ws6 2 : Nat) : Int), .int .u64 ((ws6 3 : Nat) : Int)] 109))
            go_wp2_with (first | (refine wpList_load_mid rfl 109 _ rfl wr.heap.size 0 rfl [.bool false, .int .u64 ((ws6 0 : Nat) : Int), .int .u64 ((ws6 1 : Nat) : Int), .int .u64 ((ws6 2 : Nat) : Int), .int .u64 ((ws6 3 : Nat) : Int)] _ (HP6.out.range (o := 0) (vs := [.bool false, .int .u64 ((ws6 0 : Nat) : Int), .int .u64 ((ws6 1 : Nat) : Int), .int .u64 ((ws6 2 : Nat) : Int), .int .u64 ((ws6 3 : Nat) : Int)]) (fun j v hj => by rw [Nat.zero_add]; exact hj)) Tryz.underlying109 rfl (by kernel_rfl) ?_) | (at_builtin; refine wpList_app_part rfl _ _ rfl w9.heap.size (.slice A n c0) pvs ⟨false, ws6⟩ n HNL.out.symm rfl HOX.out _ 1 rfl HNX.out HBX.out.size HN1.out ?_; intro v5 w5 ho5 hg5; obtain ⟨A5, c5, rfl⟩ := own_slice ho5; have HO5 := Lib.hid ho5; have HB5 := Lib.hid (HBX.out.grown hg5 HBX.out.size (fun i hi => (HOX.out.lt i hi).1)); clear ho5 hg5))
            go_roundw
            case measure => simp [intOf]; first | omega | (have := HK1.out; omega)
            case rel => exact ⟨k1 + 1, fu, pvs ++ [⟨false, ws6⟩], ps ++ [.one (fun x => x == e)], by go_num, by omega, by first | omega | (have := HK1.out; omega), HNEXT.out, ⟨by rw [List.length_append, HNL.out]; exact HO5.out, by rw [List.length_append, List.length_append, HLEN.out]; rfl, part_more HLEN.out HIS.out (show PartIs ⟨false, ws6⟩ (.one (fun x => x == e)) from ⟨rfl, HS6.out⟩)⟩, by rw [List.length_append, List.length_singleton]; have := HPL.out; omega, HB5.out⟩
          · have HNEXT := Lib.hid (show R = (ps ++ [.one (fun x => x == 92)]) ++ compP fu (P.drop (k + 1)) by
              rw [hRR, List.drop_of_length_le (by have := HZ.out; omega), comp_nil, comp_end]; simp)
            have j2 : ¬ (k : Int) + 1 < (S.size : Int) := by omega
            have j5 : (S.size : Int) - 1 = (k : Int) := by omega
            have j3 : min ((k : Int) + 1) (k : Int) = (k : Int) := by omega
            have j4 : (if (k : Int) < (k : Int) + 1 then (k : Int) else (k : Int) + 1) = (k : Int) := by rw [if_pos (by omega)]
            have HPUT := Lib.hid (put_any (pre := [.bool false]) HP.out.drew SetIs.empty 92 92)
            clear hci h42 h63 h91 h92 hRR hd k42 k63 k91
            go_wp2_with fail
            go_still_tail 7, (by kernel_rfl)
            go_wp2_with fail
            refine HPUT.out.mono ?_
            rintro _ w6 ⟨rfl, ws6, hb6, hs6, ho6⟩
            have HP6 : Hid (BL w6 wr.heap.size 109 [.bool false, .int .u64 ((ws6 0 : Nat) : Int), .int .u64 ((ws6 1 : Nat) : Int), .int .u64 ((ws6 2 : Nat) : Int), .int .u64 ((ws6 3 : Nat) : Int)]) := hb6
            have HS6 := Lib.hid (hs6.same (fun x => (upto_one (fun _ => false) 92 x).trans (Bool.false_or _)))
            have hw6 : Below wr.heap.size wr w6 := (HZ0.out.drew).trans (ho6.below (by show wr.heap.size ≤ (World.alloc _ _).heap.size; simp) (by simp))
            have HW6 := Lib.hid hw6
            clear hb6 hs6 ho6 hw6
            have HOX : Hid ((w6.alloc (.cells #[.bool false, .int .u64 ((ws6 0 : Nat) : Int), .int .u64 ((ws6 1 : Nat) : Int), .int .u64 ((ws6 2 : Nat) : Int), .int .u64 ((ws6 3 : Nat) : Int)] 109)).ownsRow w9.heap.size 109 5 (.slice A n c0) n (pvsC pvs)) := (own_only (F := []) HOWN.out (Only.of_below (HW6.out)) (fun _ _ h => by cases h)).alloc _
            have HNX : Hid (BL (w6.alloc (.cells #[.bool false, .int .u64 ((ws6 0 : Nat) : Int), .int .u64 ((ws6 1 : Nat) : Int), .int .u64 ((ws6 2 : Nat) : Int), .int .u64 ((ws6 3 : Nat) : Int)] 109)) w6.heap.size 109 (pvL ⟨false, ws6⟩)) := BL.new _ _ _
            have HBX := Lib.hid ((HB.out.trans (HW6.out.mono HB.out.size)).alloc (Nat.le_trans HB.out.size (HW6.out).size) (.cells #[.bool false, .int .u64 ((ws6 0 : Nat) : Int), .int .u64 ((ws6 1 : Nat) : Int), .int .u64 ((ws6 2 : Nat) : Int), .int .u64 ((ws6 3 : Nat) : Int)] 109))
            go_wp2_with (first | (refine wpList_load_mid rfl 109 _ rfl wr.heap.size 0 rfl [.bool false, .int .u64 ((ws6 0 : Nat) : Int), .int .u64 ((ws6 1 : Nat) : Int), .int .u64 ((ws6 2 : Nat) : Int), .int .u64 ((ws6 3 : Nat) : Int)] _ (HP6.out.range (o := 0) (vs := [.bool false, .int .u64 ((ws6 0 : Nat) : Int), .int .u64 ((ws6 1 : Nat) : Int), .int .u64 ((ws6 2 : Nat) : Int), .int .u64 ((ws6 3 : Nat) : Int)]) (fun j v hj => by rw [Nat.zero_add]; exact hj)) Tryz.underlying109 rfl (by kernel_rfl) ?_) | (at_builtin; refine wpList_app_part rfl _ _ rfl w9.heap.size (.slice A n c0) pvs ⟨false, ws6⟩ n HNL.out.symm rfl HOX.out _ 1 rfl HNX.out HBX.out.size HN1.out ?_; intro v5 w5 ho5 hg5; obtain ⟨A5, c5, rfl⟩ := own_slice ho5; have HO5 := Lib.hid ho5; have HB5 := Lib.hid (HBX.out.grown hg5 HBX.out.size (fun i hi => (HOX.out.lt i hi).1)); clear ho5 hg5))
            go_roundw
            case measure => simp [intOf]; first | omega | (have := HK1.out; omega)
            case rel => exact ⟨k + 1, fu, pvs ++ [⟨false, ws6⟩], ps ++ [.one (fun x => x == 92)], by go_num, by omega, by first | omega | (have := HK1.out; omega), HNEXT.out, ⟨by rw [List.length_append, HNL.out]; exact HO5.out, by rw [List.length_append, List.length_append, HLEN.out]; rfl, part_more HLEN.out HIS.out (show PartIs ⟨false, ws6⟩ (.one (fun x => x == 92)) from ⟨rfl, HS6.out⟩)⟩, by rw [List.length_append, List.length_singleton]; have := HPL.out; omega, HB5.out⟩
        · have k92 : ¬ (c.toNat : Int) = 92 := fun h => h92 (u8_int h)
          rw [comp_one fu c _ h42 h63 h91 h92] at hRR
          have HNEXT := Lib.hid (show R = (ps ++ [.one (fun x => x == c)]) ++ compP fu (P.drop (k + 1)) by rw [hRR]; simp)
          have HPUT := Lib.hid (put_any (pre := [.bool false]) HP.out.drew SetIs.empty c c)
          clear h42 h63 h91 h92 hRR hd
          go_wp2_with fail
          go_still_tail 7, (by kernel_rfl)
          go_wp2_with fail
          refine HPUT.out.mono ?_
          rintro _ w6 ⟨rfl, ws6, hb6, hs6, ho6⟩
          have HP6 : Hid (BL w6 wr.heap.size 109 [.bool false, .int .u64 ((ws6 0 : Nat) : Int), .int .u64 ((ws6 1 : Nat) : Int), .int .u64 ((ws6 2 : Nat) : Int), .int .u64 ((ws6 3 : Nat) : Int)]) := hb6
          have HS6 := Lib.hid (hs6.same (fun x => (upto_one (fun _ => false) c x).trans (Bool.false_or _)))
          have hw6 : Below wr.heap.size wr w6 := (HZ0.out.drew).trans (ho6.below (by show wr.heap.size ≤ (World.alloc _ _).heap.size; simp) (by simp))
          have HW6 := Lib.hid hw6
          clear hb6 hs6 ho6 hw6
          have HOX : Hid ((w6.alloc (.cells #[.bool false, .int .u64 ((ws6 0 : Nat) : Int), .int .u64 ((ws6 1 : Nat) : Int), .int .u64 ((ws6 2 : Nat) : Int), .int .u64 ((ws6 3 : Nat) : Int)] 109)).ownsRow w9.heap.size 109 5 (.slice A n c0) n (pvsC pvs)) := (own_only (F := []) HOWN.out (Only.of_below (HW6.out)) (fun _ _ h => by cases h)).alloc _
          have HNX : Hid (BL (w6.alloc (.cells #[.bool false, .int .u64 ((ws6 0 : Nat) : Int), .int .u64 ((ws6 1 : Nat) : Int), .int .u64 ((ws6 2 : Nat) : Int), .int .u64 ((ws6 3 : Nat) : Int)] 109)) w6.heap.size 109 (pvL ⟨false, ws6⟩)) := BL.new _ _ _
          have HBX := Lib.hid ((HB.out.trans (HW6.out.mono HB.out.size)).alloc (Nat.le_trans HB.out.size (HW6.out).size) (.cells #[.bool false, .int .u64 ((ws6 0 : Nat) : Int), .int .u64 ((ws6 1 : Nat) : Int), .int .u64 ((ws6 2 : Nat) : Int), .int .u64 ((ws6 3 : Nat) : Int)] 109))
          go_wp2_with (first | (refine wpList_load_mid rfl 109 _ rfl wr.heap.size 0 rfl [.bool false, .int .u64 ((ws6 0 : Nat) : Int), .int .u64 ((ws6 1 : Nat) : Int), .int .u64 ((ws6 2 : Nat) : Int), .int .u64 ((ws6 3 : Nat) : Int)] _ (HP6.out.range (o := 0) (vs := [.bool false, .int .u64 ((ws6 0 : Nat) : Int), .int .u64 ((ws6 1 : Nat) : Int), .int .u64 ((ws6 2 : Nat) : Int), .int .u64 ((ws6 3 : Nat) : Int)]) (fun j v hj => by rw [Nat.zero_add]; exact hj)) Tryz.underlying109 rfl (by kernel_rfl) ?_) | (at_builtin; refine wpList_app_part rfl _ _ rfl w9.heap.size (.slice A n c0) pvs ⟨false, ws6⟩ n HNL.out.symm rfl HOX.out _ 1 rfl HNX.out HBX.out.size HN1.out ?_; intro v5 w5 ho5 hg5; obtain ⟨A5, c5, rfl⟩ := own_slice ho5; have HO5 := Lib.hid ho5; have HB5 := Lib.hid (HBX.out.grown hg5 HBX.out.size (fun i hi => (HOX.out.lt i hi).1)); clear ho5 hg5))
          go_roundw
          case measure => simp [intOf]; first | omega | (have := HK1.out; omega)
          case rel => exact ⟨k + 1, fu, pvs ++ [⟨false, ws6⟩], ps ++ [.one (fun x => x == c)], by go_num, by omega, by first | omega | (have := HK1.out; omega), HNEXT.out, ⟨by rw [List.length_append, HNL.out]; exact HO5.out, by rw [List.length_append, List.length_append, HLEN.out]; rfl, part_more HLEN.out HIS.out (show PartIs ⟨false, ws6⟩ (.one (fun x => x == c)) from ⟨rfl, HS6.out⟩)⟩, by rw [List.length_append, List.length_singleton]; have := HPL.out; omega, HB5.out⟩
    · obtain rfl : k = S.size := by omega
      rw [List.drop_of_length_le (by rw [HZ.out]; exact Nat.le_refl _), comp_nil, List.append_nil] at hRR
      have HF := Lib.hid (show Row5 wr w9.heap.size _ pvs R by rw [hRR]; exact hrow)
      have HB := Lib.hid hb
      clear hRR hrow hb
      go_wp2_with fail
      go_ret
      exact ⟨_, pvs, rfl, HF.out, HB.out⟩
end Go.Proofs.YtbiinghmopgjnaaGreatDoor.Fmt
