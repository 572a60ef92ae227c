/- The walk of a head's bytes, put behind a row of bytes of the call's own. The walk of a head's bytes, put behind a row of bytes of the call's own. -/
import Derived.Test.YtjklnnklgkihlaaGreatDoorPas
import Derived.Test.YtjklnnklgkihlaaGreatDoorPao
import Derived.Lib.AppendStr
import Derived.Lib.OthersKept
import Derived.Deep.RegionLaw
import Derived.Test.YtjklnnklgkihlaaGreatDoorPar
import Derived.Lib.SlBytesConst
namespace Go.Proofs.YtjklnnklgkihlaaGreatDoor.Vt
open Go.RowKit
open Cel (Blk Kept Tabs low Owns At)

/-- What a call leaves that writes to a row of bytes of the caller's: what lay below B, and all that are no bytes. -/
def Bt (B : Nat) (w w' : World) : Prop := Below B w w' ∧ Lib.OthersKept 5 none w w'
section
variable {B : Nat} {w w1 w2 : World}
theorem Bt.refl (B : Nat) (w : World) : Bt B w w := ⟨Below.refl _ _, Lib.OthersKept.refl _ _ _⟩
theorem Bt.trans (h : Bt B w w1) (k : Bt B w1 w2) : Bt B w w2 := ⟨h.1.trans k.1, h.2.trans k.2⟩
theorem Bt.alloc (h : Bt B w w1) (o : Obj) (hB : B ≤ w1.heap.size) : Bt B w (w1.alloc o) := ⟨h.1.alloc hB o, h.2.alloc o⟩
theorem Bt.drew (h : Bt B w w1) : Bt B w w1.drew := ⟨⟨h.1.os, h.1.tape, h.1.output, h.1.size, h.1.block⟩, h.2⟩
theorem Bt.drewN (h : Bt B w w1) (n : Nat) : Bt B w (w1.drewN n) := ⟨below_drewN h.1 n, h.2⟩
theorem Bt.blk {g : Nat} {t : TypeId} {cs : Array Value} (h : Bt B w w1) (hb : Blk w g t cs) (ht : t ≠ 5) : Blk w1 g t cs := h.2 g _ hb (by simp) fun c fz e => by injection e with _ e; exact ht e
theorem Bt.of_below (h : Below w.heap.size w w1) (hB : B ≤ w.heap.size) : Bt B w w1 := ⟨h.mono hB, fun k _ hk _ _ => (h.block k (Array.getElem?_eq_some_iff.1 hk).1).trans hk⟩
theorem Bt.grown {v : Value} {l : Tx} (hown : Byts w B v l) (hB : B ≤ w.heap.size) (k : Kept w w1 (fun i => v.ownBlock = some i)) : Bt B w w1 := by
  refine ⟨⟨k.os, k.tape, k.output, k.size, fun i hi => k.block i (by omega) fun e => by have := (hown.lt i e).1; omega⟩, fun i o hi _ ho => ?_⟩
  · have hlt := (Array.getElem?_eq_some_iff.1 hi).1
    rw [k.block i hlt fun e => ?_]
    · exact hi
    · rcases hown.2 with ⟨rfl, _⟩ | ⟨g, cap, cur, rfl, _, hh, _⟩
      · cases e
      · injection e with e
        subst e
        rw [hi] at hh
        injection hh with hh
        exact ho _ _ hh
end

/-! ### Bytes put behind a row -/
theorem byts_cells (k : Tx) : Lib.strCells (bs k) = byts k := by unfold Lib.strCells byts; rw [bs_list]
section
variable {ops : Array Oper} {rest : List Oper} {op : Oper} {a : Act} {w : World} {Q : Exit → Act → World → Prop}
theorem wpList_append_byts (hgd : op.guard = none) (s x : Operand) (ho : op.op = .call { callee := .builtin .append, args := #[s, x], argTypes := #[28, 28] })
    (B : Nat) (v : Value) (l k : Tx) (hs : a.eval s = v) (hown : Byts w B v l) (g c : Nat) (hx : a.eval x = .slice (some ⟨g, 0, none⟩) k.length c) (hg : Blk w g 5 (byts k).toArray) (hB : B ≤ w.heap.size) (hn : l.length + k.length ≤ 140737488355328)
    (h : ∀ v' w', Byts w' B v' (l ++ k) → Bt B w w' → wpList Tryz.prog ops Q rest (a.put op.dst v') w') :
    wpList Tryz.prog ops Q (op :: rest) a w := by
  obtain ⟨i0, hi0, hz0, hz1, hz2⟩ := info_parts info_u8
  refine wpList_append_own _ hgd s x 28 ho B 5 i0 _ 1 1 Tryz.underlying28 hi0 hz0 hz1 hz2 rfl (by decide) v l.length (byts l) hs hown ⟨g, 0, none⟩ k.length c (byts k) hx (by rw [byts_len]; omega) ?_ (byts_one k) (by unfold maxLen; omega) (by omega) hB ?_
  · intro j u hj
    have ha : (⟨g, 0, none⟩ : Addr).add j = ⟨g, j, none⟩ := by unfold Addr.add; split <;> simp_all
    rw [ha, hg.cell]
    simpa using hj
  · intro v' w' h1 h2 _
    refine h v' w' ?_ (Bt.grown hown hB ((Kept.refl w _).grown h2 fun j hj _ => hj))
    show w'.ownsRow B 5 1 v' (l ++ k).length (byts (l ++ k))
    rw [List.length_append, byts_app]
    exact h1
theorem wpList_append_btext (hgd : op.guard = none) (s x : Operand) (ho : op.op = .call { callee := .builtin .append, args := #[s, x], argTypes := #[28, 9] })
    (B : Nat) (v : Value) (l k : Tx) (hs : a.eval s = v) (hown : Byts w B v l) (X : ByteArray) (hX : bs k = X) (hx : a.eval x = .string X) (hB : B ≤ w.heap.size) (hn : l.length + k.length ≤ 140737488355328)
    (h : ∀ v' w', Byts w' B v' (l ++ k) → Bt B w w' → wpList Tryz.prog ops Q rest (a.put op.dst v') w') :
    wpList Tryz.prog ops Q (op :: rest) a w := by
  subst hX
  obtain ⟨i0, hi0, hz0, hz1, hz2⟩ := info_parts info_u8
  have hz := bs_size k
  refine Lib.wpList_append_own_string w hgd s x 28 9 ho B 5 i0 Tryz.underlying28 Tryz.underlying9 hi0 hz0 hz1 hz2 v l.length (byts l) hs hown (bs k) hx (by unfold maxLen; omega) (by omega) hB ?_
  intro v' w' h1 h2 _
  refine h v' w' ?_ (Bt.grown hown hB ((Kept.refl w _).grown h2 fun j hj _ => hj))
  show w'.ownsRow B 5 1 v' (l ++ k).length (byts (l ++ k))
  rw [List.length_append, byts_app, ← byts_cells, ← byts_cells, ← hz]
  rw [byts_cells] at *
  exact h1
end
/-- A byte's own new block. -/
theorem byte_new (w : World) {x : Int} (h0 : 0 ≤ x) (h1 : x ≤ 255) : Blk (w.alloc (.cells #[.int .u8 x] 5)) w.heap.size 5 (byts [byt x]).toArray := by
  have e : (byts [byt x]).toArray = #[.int .u8 x] := by unfold byts; simp [byt_nat h0 h1]
  rw [e]; exact Blk.new _ _ _

/-! ### Numbers as bytes -/
theorem digits_len : ∀ (k n : Nat), n < 10 ^ (k + 1) → (Lib.decDigits n).length ≤ k + 1
  | 0, n, h => by rw [Lib.decDigits, dif_pos (by omega)]; simp
  | k + 1, n, h => by
    rw [Lib.decDigits]
    split
    · simp
    · have := digits_len k (n / 10) (by rw [Nat.pow_succ] at h; omega)
      simp; omega
theorem num1_len {p : Int} (h0 : -1 ≤ p) (h1 : p ≤ 9999) : (num1 p).length ≤ 4 := by
  unfold num1
  split
  · simp
  · unfold Lib.itoa
    rw [if_neg (by omega)]
    exact digits_len 3 _ (by omega)
theorem nums1_app (l : List Int) (p : Int) : nums1 (l ++ [p]) = nums1 l ++ 59 :: num1 p := by
  induction l with
  | nil => simp [nums1]
  | cons q l ih => simp [nums1, ih]
theorem nums_app (l : List Int) (p : Int) : nums (l ++ [p]) = if l = [] then num1 p else nums l ++ 59 :: num1 p := by
  cases l with
  | nil => simp [nums, nums1]
  | cons q l => simp [nums, nums1_app]
theorem nums_len {l : List Int} (h : inP l = true) : (nums l).length ≤ 5 * l.length := by
  have h' : ∀ p ∈ l, -1 ≤ p ∧ p ≤ 9999 := by
    unfold inP at h
    simpa using h
  have h1 : ∀ l : List Int, (∀ p ∈ l, -1 ≤ p ∧ p ≤ 9999) → (nums1 l).length ≤ 5 * l.length := by
    intro l hl
    induction l with
    | nil => simp [nums1]
    | cons p l ih =>
      have hp := hl p (by simp)
      have := num1_len hp.1 hp.2
      have := ih fun x hx => hl x (by simp [hx])
      simp [nums1]; omega
  cases l with
  | nil => simp [nums]
  | cons p l =>
    have hp := h' p (by simp)
    have := num1_len hp.1 hp.2
    have := h1 l fun x hx => h' x (by simp [hx])
    simp [nums]; omega
/-- A table below. -/
theorem tabs_under {w : World} {B : Nat} (h : Tabs w) (hB : low ≤ B) : Lib.TabBelow Tryz.prog B w "internal/strconv.uint64pow10" .u64 Lib.pow10Tab := fun _ hb => (h.below hb hB).tabIs
theorem run_slice_to (w : World) (l : Tx) (m : Nat) (hm : m ≤ l.length) : (Instr.slice 9 (.string (bs l)) none (some (.int .i64 (m : Int))) none).run Tryz.prog w = .ok (.string (bs (l.take m))) w := by
  have hs := bs_size l
  rw [run_slice_string_to_if w 9 (bs l) .i64 (m : Int) Tryz.underlying9, if_pos ⟨by omega, by omega⟩]
  have e : (bs l).extract 0 (m : Int).toNat = bs (l.take m) := by
    refine ByteArray.ext ?_
    apply Array.ext'
    rw [Lib.extract_data]
    simp [bs]
  rw [e]
end Go.Proofs.YtjklnnklgkihlaaGreatDoor.Vt
namespace Go.Proofs.YtjklnnklgkihlaaGreatDoor.Vt
open Go.RowKit
open Cel (Blk Kept Tabs low Owns At)

/-- Numbers that can be read, below a floor. -/
def RdB (B : Nat) (w : World) (A : Option Addr) (l : List Int) : Prop := ∀ k (hk : k < l.length), ∃ g o, A = some ⟨g, o, none⟩ ∧ g < B ∧ w.cell? ⟨g, o + k, none⟩ = some (.int .i64 l[k])
theorem RdB.rd {B : Nat} {w : World} {A : Option Addr} {l : List Int} (h : RdB B w A l) (hB : B ≤ w.heap.size) : RdI w A l := fun k hk => by
  obtain ⟨g, o, e, hg, hc⟩ := h k hk
  exact ⟨g, o, e, by omega, hc⟩
theorem RdB.below {B : Nat} {w w' : World} {A : Option Addr} {l : List Int} (h : RdB B w A l) (hb : Below B w w') : RdB B w' A l := fun k hk => by
  obtain ⟨g, o, e, hg, hc⟩ := h k hk
  exact ⟨g, o, e, hg, (hb.cell (p := ⟨g, o + k, none⟩) hg).trans hc⟩
/-- What a call leaves that put k behind the row. -/
def Putted (B : Nat) (w : World) (l : Tx) (e : Ending) (w' : World) : Prop := ∃ v', e = .returned v' ∧ Byts w' B v' l ∧ Bt B w w'
theorem nums_take {l : List Int} {k : Nat} (hk : k < l.length) : nums (l.take (k + 1)) = nums (l.take k) ++ (if 0 < k then [59] else []) ++ num1 l[k] := by
  rw [List.take_succ_eq_append_getElem hk, nums_app]
  by_cases h0 : 0 < k
  · rw [if_pos h0, if_neg (by intro e; have := congrArg List.length e; rw [List.length_take, List.length_nil] at this; omega)]
    simp
  · obtain rfl : k = 0 := by omega
    simp [nums]
theorem inP_sub {l : List Int} (h : inP l = true) (k : Nat) : inP (l.take k) = true := by
  unfold inP at h ⊢
  rw [List.all_eq_true] at h ⊢
  exact fun p hp => h p (List.mem_of_mem_take hp)
theorem inP_mem {l : List Int} (h : inP l = true) {k : Nat} (hk : k < l.length) : -1 ≤ l[k] ∧ l[k] ≤ 9999 := by
  unfold inP at h
  rw [List.all_eq_true] at h
  have := h _ (List.getElem_mem hk)
  simpa using this
def HdRel (B : Nat) (w1 : World) (l0 : Tx) (ps : List Int) (k : Nat) (v : Value) (wr : World) : Prop := Byts wr B v (l0 ++ nums (ps.take k)) ∧ Bt B w1 wr
end Go.Proofs.YtjklnnklgkihlaaGreatDoor.Vt
/- The walk of an action's bytes, put behind a row of bytes of the call's own. The walk of an action's bytes, put behind a row of bytes of the call's own (the rest). The walk of an action's bytes: strings; and of any action's. The walk of Print: any actions, as bytes. -/
namespace Go.Proofs.YtjklnnklgkihlaaGreatDoor.Vt
open Go.RowKit
open Cel (Blk Kept Tabs low Owns At)

theorem step_append_byts {ops : Array Oper} {o : Oper} {a : Act} {w : World} {K : Act → World → Prop} {Q : Exit → Act → World → Prop} {E : Prop} (hgd : o.guard = none) (s x : Operand) (ho : o.op = .call { callee := .builtin .append, args := #[s, x], argTypes := #[28, 28] })
    (B : Nat) (v : Value) (l k : Tx) (hs : a.eval s = v) (hown : Byts w B v l) (g c : Nat) (hx : a.eval x = .slice (some ⟨g, 0, none⟩) k.length c) (hg : Blk w g 5 (byts k).toArray) (hB : B ≤ w.heap.size) (hn : l.length + k.length ≤ 140737488355328)
    (h : ∀ v' w', Byts w' B v' (l ++ k) → Bt B w w' → K (a.put o.dst v') w') :
    if Region.wanted o (yielded ops a.tmps) = true then Oper.wp Tryz.prog o a w K Q else E := by
  have hw : Region.wanted o (yielded ops a.tmps) = true := by simp [Region.wanted, hgd]
  rw [if_pos hw]
  obtain ⟨i0, hi0, hz0, hz1, hz2⟩ := info_parts info_u8
  refine wp_append_own w s x 28 ho B 5 i0 _ 1 1 Tryz.underlying28 hi0 hz0 hz1 hz2 rfl (by decide) v l.length (byts l) hs hown ⟨g, 0, none⟩ k.length c (byts k) hx (by rw [byts_len]; omega) ?_ (byts_one k) (by unfold maxLen; omega) (by omega) hB ?_
  · intro j u hj
    have ha : (⟨g, 0, none⟩ : Addr).add j = ⟨g, j, none⟩ := by unfold Addr.add; split <;> simp_all
    rw [ha, hg.cell]
    simpa using hj
  · intro v' w' h1 h2 _
    refine h v' w' ?_ (Bt.grown hown hB ((Kept.refl w _).grown h2 fun j hj _ => hj))
    show w'.ownsRow B 5 1 v' (l ++ k).length (byts (l ++ k))
    rw [List.length_append, byts_app]
    exact h1
theorem can_head {a : Ac} (h : headOf a = true) : a.it.length ≤ 3 ∧ a.ps.length ≤ 32 ∧ inP a.ps = true ∧ 64 ≤ a.b ∨ a.k = 3 := by
  unfold headOf at h
  simp only [Bool.and_eq_true] at h
  obtain ⟨h1, h2, h3⟩ := h
  have h2 := (bet_bd h2).2
  have h5 := (bare_le a.it).2
  unfold arep at h3
  simp only [Bool.and_eq_true, decide_eq_true_eq] at h3
  by_cases hk : a.k = 3
  · exact .inr hk
  · rw [fin4 hk] at h1
    simp at h1
    exact .inl ⟨by omega, h3.2.1, h3.1, h1.1⟩
theorem can_text {a : Ac} (h : textOf a = true) : a.tx.length ≤ 1024 := by
  unfold textOf at h
  simp only [Bool.and_eq_true, decide_eq_true_eq] at h
  exact h.2
theorem cbt_4 {a : Ac} (hk : a.k = 4) : cbt a = headOf a := by unfold cbt; rw [if_neg (by omega), if_neg (by omega), if_neg (by omega), if_pos hk]
theorem cbt_5 {a : Ac} (hk : a.k = 5) : cbt a = textOf a := by unfold cbt; rw [if_neg (by omega), if_neg (by omega), if_neg (by omega), if_neg (by omega), if_pos hk]
theorem cbt_6 {a : Ac} (hk : a.k = 6) : cbt a = (headOf a && textOf a) := by unfold cbt; rw [if_neg (by omega), if_neg (by omega), if_neg (by omega), if_neg (by omega), if_neg (by omega), if_pos hk]
theorem prn_4 {a : Ac} (hk : a.k = 4) : prn a = 27 :: 91 :: headB a := by unfold prn; rw [if_neg (by omega), if_neg (by omega), if_neg (by omega), if_pos hk]
theorem prn_5 {a : Ac} (hk : a.k = 5) : prn a = 27 :: 93 :: (a.tx ++ [7]) := by unfold prn; rw [if_neg (by omega), if_neg (by omega), if_neg (by omega), if_neg (by omega), if_pos hk]
theorem prn_6 {a : Ac} (hk : a.k = 6) : prn a = 27 :: 80 :: (headB a ++ a.tx ++ [27, 92]) := by unfold prn; rw [if_neg (by omega), if_neg (by omega), if_neg (by omega), if_neg (by omega), if_neg (by omega), if_pos hk]
/-- Two bytes' own new block. -/
theorem bytes2_new (w : World) {x y : Int} (h0 : 0 ≤ x) (h1 : x ≤ 255) (h2 : 0 ≤ y) (h3 : y ≤ 255) : Blk (w.alloc (.cells #[.int .u8 x, .int .u8 y] 5)) w.heap.size 5 (byts [byt x, byt y]).toArray := by
  have e : (byts [byt x, byt y]).toArray = #[.int .u8 x, .int .u8 y] := by unfold byts; simp [byt_nat h0 h1, byt_nat h2 h3]
  rw [e]; exact Blk.new _ _ _
theorem headB_len {a : Ac} (hit : a.it.length ≤ 3) (hps : a.ps.length ≤ 32) (hpz : inP a.ps = true) : (headB a).length ≤ 200 := by
  have h1 := nums_len hpz
  have h2 := congrArg List.length (mark_bare a.it).1
  rw [List.length_append] at h2
  unfold headB
  simp only [List.length_append, List.length_singleton]
  omega
section
variable (a : Ac) (A : Option Addr) (c : Nat) (w : World) (B : Nat) (v : Value) (l : Tx)
end
end Go.Proofs.YtjklnnklgkihlaaGreatDoor.Vt
namespace Go.Proofs.YtjklnnklgkihlaaGreatDoor.Vt
open Go.RowKit
open Cel (Blk Kept Tabs low Owns At good enc)

theorem rune_cells {r : Int} (h : good r) : Lib.runeCells r = byts (enc r) := by
  unfold Lib.runeCells
  have hg := h
  unfold good at hg
  rcases Cel.enc_form h with ⟨h1, a, e, ha⟩ | ⟨h1, h2, a, b, e, ha, hb⟩ | ⟨h1, h2, a, b, c, e, ha, hb, hc⟩ | ⟨h1, h2, a, b, c, d, e, ha, hb, hc, hd⟩
  · rw [Lib.encodeRuneZ_one (by omega) (by omega), e]; simp [byts, ha]
  · rw [Lib.encodeRuneZ_two (by omega) (by omega), e]; simp [byts, ha, hb]
  · rw [Lib.encodeRuneZ_three (by omega), e]; simp [byts, ha, hb, hc]
  · rw [Lib.encodeRuneZ_four (by omega) (by omega), e]; simp [byts, ha, hb, hc, hd]
theorem valid_good {r : Int} (h : Utf8.valid r = true) : good r := by
  rw [validRune_eq] at h; unfold validRune at h; unfold good; simp at h; omega
section
variable (a : Ac) (w : World) (B : Nat) (v : Value) (l : Tx)
end
end Go.Proofs.YtjklnnklgkihlaaGreatDoor.Vt
namespace Go.Proofs.YtjklnnklgkihlaaGreatDoor.Vt
open Go.RowKit
open Cel (Blk Kept Tabs low Owns At good enc)

section
variable (a : Ac) (A : Option Addr) (c : Nat) (w : World) (B : Nat) (v : Value) (l : Tx)
theorem cbt_k (hc : cbt a = true) : a.k = 1 ∨ a.k = 2 ∨ a.k = 3 ∨ a.k = 4 ∨ a.k = 5 ∨ a.k = 6 := by
  unfold cbt at hc
  by_cases h1 : a.k = 1
  · exact .inl h1
  by_cases h2 : a.k = 2
  · exact .inr (.inl h2)
  by_cases h3 : a.k = 3
  · exact .inr (.inr (.inl h3))
  by_cases h4 : a.k = 4
  · exact .inr (.inr (.inr (.inl h4)))
  by_cases h5 : a.k = 5
  · exact .inr (.inr (.inr (.inr (.inl h5))))
  by_cases h6 : a.k = 6
  · exact .inr (.inr (.inr (.inr (.inr h6))))
  rw [if_neg h1, if_neg h2, if_neg h3, if_neg h4, if_neg h5, if_neg h6] at hc
  cases hc
theorem prn_len (hc : cbt a = true) : (prn a).length ≤ 2000 := by
  rcases cbt_k a hc with hk | hk | hk | hk | hk | hk
  · have hr : good a.r := by
      unfold cbt at hc
      rw [if_pos hk] at hc
      simp only [Bool.and_eq_true] at hc
      exact valid_good hc.2.2
    have := (Cel.enc_length hr).2
    unfold prn; rw [if_pos hk]; omega
  · unfold prn; rw [if_neg (by omega), if_pos hk]; simp
  · unfold cbt at hc
    rw [if_neg (by omega), if_neg (by omega), if_pos hk] at hc
    simp only [Bool.and_eq_true] at hc
    have := (bet_bd hc.2.1).2
    unfold prn; rw [if_neg (by omega), if_neg (by omega), if_pos hk]; simp; omega
  · rw [cbt_4 hk] at hc
    obtain ⟨q1, q2, q3, _⟩ := (can_head hc).resolve_right (by omega)
    have := headB_len q1 q2 q3
    rw [prn_4 hk]; simp; omega
  · rw [cbt_5 hk] at hc
    have := can_text hc
    rw [prn_5 hk]; simp; omega
  · rw [cbt_6 hk, Bool.and_eq_true] at hc
    obtain ⟨q1, q2, q3, _⟩ := (can_head hc.1).resolve_right (by omega)
    have := headB_len q1 q2 q3
    have := can_text hc.2
    rw [prn_6 hk]; simp; omega
end
end Go.Proofs.YtjklnnklgkihlaaGreatDoor.Vt
namespace Go.Proofs.YtjklnnklgkihlaaGreatDoor.Vt
open Go.RowKit
open Cel (Blk Kept Tabs low Owns At good enc)

/-- Actions that can be read, below a floor. -/
def RdA (B : Nat) (w : World) (A : Option Addr) (l : List To) : Prop :=
  ∀ k (hk : k < l.length), (∃ g o, A = some ⟨g, o, none⟩ ∧ g < B ∧ ∀ i, i < 6 → w.cell? ⟨g, o + k * 6 + i, none⟩ = (acL l[k])[i]?) ∧ ∃ A2 c2, l[k].2 = .slice A2 l[k].1.ps.length c2 ∧ RdB B w A2 l[k].1.ps
/-- Actions of bytes and texts that can be. -/
def Ok (l : List To) : Prop := ∀ t ∈ l, Fitly t.1 ∧ 0 ≤ t.1.b ∧ t.1.b ≤ 255
theorem prnO_len (a : Ac) : (prnO a).length ≤ 2000 := by
  unfold prnO
  split
  · rename_i h; exact prn_len a h
  · simp
theorem prnAll_len : ∀ l : List Ac, (prnAll l).length ≤ 2000 * l.length
  | [] => by simp [prnAll]
  | a :: l => by
    have h1 := prnO_len a
    have h2 := prnAll_len l
    unfold prnAll at h2 ⊢
    rw [List.flatMap_cons, List.length_append, List.length_cons]
    omega
theorem prn_take {l : List To} {k : Nat} (hk : k < l.length) : prnAll (outs (l.take (k + 1))) = prnAll (outs (l.take k)) ++ prnO l[k].1 := by
  rw [List.take_succ_eq_append_getElem hk, outs_app, prnAll_app]
  show _ ++ prnAll [l[k].1] = _
  rw [prnAll_one]
end Go.Proofs.YtjklnnklgkihlaaGreatDoor.Vt
/- The walk of the examples. -/
namespace Go.Proofs.YtjklnnklgkihlaaGreatDoor.Vt
open Go.RowKit
open Cel (Blk Kept Tabs low Owns At good enc)

/-! ### Lists that were told -/
/-- A list of actions at hand. -/
def Lst (w : World) (B : Nat) (ov : Value) (out : List To) : Prop := w.ownsRow B 65 6 ov out.length (flat out) ∧ ∀ t ∈ out, Ints w B t.2 t.1.ps
/-- It is none of a parser's numbers. -/
def Apt (pv : Value) (out : List To) : Prop := ∀ t ∈ out, ∀ k, t.2.ownBlock = some k → pv.ownBlock ≠ some k
section
variable {w w' : World} {B B' pb db : Nat} {pv tv pv' tv' ov : Value} {S : Ps} {out : List To} {p : Nat → Prop}
theorem Lst.keep (h : Lst w B ov out) (k : Kept w w' p) (h1 : ∀ i, ov.ownBlock = some i → ¬ p i) (h2 : ∀ t ∈ out, ∀ i, t.2.ownBlock = some i → ¬ p i) : Lst w' B ov out :=
  ⟨k.owns h.1 h1, fun t ht => k.owns (h.2 t ht) (h2 t ht)⟩
theorem Lst.below (h : Lst w B ov out) (hb : Below w.heap.size w w') : Lst w' B ov out := h.keep (Cel.below_kept hb fun _ => False) (fun _ _ h => h) fun _ _ _ _ h => h
theorem mine_far (P : PAt w B' pb db pv tv S) {t : To} (ht : Ints w B t.2 t.1.ps) (hap : ∀ k, t.2.ownBlock = some k → pv.ownBlock ≠ some k) : ∀ i, t.2.ownBlock = some i → ¬ mine pb db pv tv i := fun i hi => by
  rintro (q | q | q | q)
  · exact own_far ht P.par (by decide) (by rw [hi, q])
  · exact own_far ht P.dec (by decide) (by rw [hi, q])
  · exact hap i hi q
  · exact own_apart ht P.txt (by decide) i hi q
theorem mine_far' (P : PAt w B' pb db pv tv S) {n : Nat} {xs : List Value} (h : w.ownsRow B 65 6 ov n xs) : ∀ i, ov.ownBlock = some i → ¬ mine pb db pv tv i := fun i hi => by
  rintro (q | q | q | q)
  · exact own_far h P.par (by decide) (by rw [hi, q])
  · exact own_far h P.dec (by decide) (by rw [hi, q])
  · exact own_apart h P.prm (by decide) i hi q
  · exact own_apart h P.txt (by decide) i hi q
/-- A list behind one more Feed of a parser. -/
theorem Lst.fed (h : Lst w B ov out) (P : PAt w B' pb db pv tv S) (hap : Apt pv out) (k : Kept w w' (mine pb db pv tv)) : Lst w' B ov out :=
  h.keep k (mine_far' P h.1) fun t ht => mine_far P (h.2 t ht) (hap t ht)
theorem Apt.fed (hap : Apt pv out) (h : Lst w B ov out) (P : PAt w B' pb db pv tv S) (hm : ∀ k, mine pb db pv' tv' k → mine pb db pv tv k ∨ w.heap.size ≤ k) : Apt pv' out := fun t ht i hi q => by
  rcases hm i (.inr (.inr (.inl q))) with q2 | q2
  · exact mine_far P (h.2 t ht) (hap t ht) i hi q2
  · have := ((h.2 t ht).lt i hi).2; omega
end
/-- A list that stands in a block of its own. -/
theorem own_blk {w : World} {g B : Nat} {t : TypeId} {n size : Nat} {cs : Array Value} {xs : List Value} (h : Blk w g t cs) (hB : B ≤ g) (e : cs.toList = xs) (hn : xs.length = n * size) (hm : n ≤ 1000000) : w.ownsRow B t size (.slice (some ⟨g, 0, none⟩) n n) n xs :=
  ⟨hn, .inr ⟨g, n, cs, rfl, hB, h, Nat.le_refl _, by unfold maxLen; omega, by rw [← Array.length_toList, e, hn], by rw [e, List.take_of_length_le (by omega)]⟩⟩
theorem inb_blk {w : World} {g : Nat} {l : Tx} {cs : Array Value} (h : Blk w g 5 cs) (e : cs.toList = byts l) : InB w (some ⟨g, 0, none⟩) l := fun i hi => by
  refine ⟨g, 0, cs, (0, 0), rfl, h, ?_⟩
  rw [Nat.zero_add, ← Array.getElem?_toList, e]
  simp [byts, List.getElem?_eq_getElem hi, List.getD_eq_getElem?_getD]
/-- What one Feed leaves, seen from the world in which its bytes were laid. -/
def FedL (w : World) (B pb db : Nat) (pv tv : Value) (S : Ps) (l : Tx) (e : Ending) (w' : World) : Prop :=
  ∃ ov out pv' tv', e = .returned ov ∧ PAt w' B pb db pv' tv' (run S l).1 ∧ Lst w' w.heap.size ov out ∧ outs out = (run S l).2 ∧ Apt pv' out ∧ Kept w w' (mine pb db pv tv) ∧ (∀ k, mine pb db pv' tv' k → mine pb db pv tv k ∨ w.heap.size ≤ k)
theorem feed_in {w w1 : World} {B pb db : Nat} {pv tv : Value} {S : Ps} (P : PAt w B pb db pv tv S) (ht : Tabs w) (hlow : low ≤ B) (k : Kept w w1 (fun _ => False)) (A : Option Addr) (c : Nat) (l : Tx) (hin : InB w1 A l) (hnew : ∀ g o, A = some ⟨g, o, none⟩ → w.heap.size ≤ g) (hll : l.length ≤ 1073741824) :
    Calls Tryz.prog 24 #[ptr pb, .slice A l.length c] w1 (FedL w B pb db pv tv S l) := by
  have hB := P.lt pb (.inl rfl)
  have P1 : PAt w1 B pb db pv tv S := P.keep k fun _ _ h => h
  have ht1 : Tabs w1 := ht.kept k (fun _ _ h => h) (by omega)
  refine (Feed_any P1 ht1 hlow A c l hin hll fun _ g o e q => ?_).mono ?_
  · have h1 := hnew g o e
    have h2 := (P.lt g (.inr (.inr (.inr q)))).2
    omega
  · rintro e w' ⟨ov, out, pv', tv', rfl, P', ho, hout, htold, hap, hk, hm⟩
    have hs := k.size
    refine ⟨ov, out, pv', tv', rfl, P', ⟨own_raise ho fun i hi => Nat.le_trans hs (ho.lt i hi).1, fun t h => own_raise (htold t h) fun i hi => Nat.le_trans hs ((htold t h).lt i hi).1⟩, hout, hap, ?_, fun i hi => (hm i hi).imp id fun h => Nat.le_trans hs h⟩
    exact (k.more fun _ h => h.elim).trans hk fun _ _ h => h
theorem kept_below {w w' : World} {B pb db : Nat} {pv tv : Value} {S : Ps} (P : PAt w B pb db pv tv S) (k : Kept w w' (mine pb db pv tv)) : Below B w w' := k.below (Nat.le_of_lt (Nat.lt_of_le_of_lt (P.lt pb (.inl rfl)).1 (P.lt pb (.inl rfl)).2)) fun i hi h => by have := (P.lt i h).1; omega
theorem ps_of {out : List To} {L : List Ac} (h : outs out = L) {n : Nat} (hL : ∀ a ∈ L, a.ps.length ≤ n) : ∀ t ∈ out, t.1.ps.length ≤ n := fun t ht => hL _ (h ▸ List.mem_map.2 ⟨t, ht, rfl⟩)
/-- A list that was told can be read. -/
theorem Lst.rd {w : World} {B : Nat} {A : Option Addr} {m c : Nat} {l : List To} (h : Lst w B (.slice A m c) l) : RdA w.heap.size w A l := fun k hk => by
  refine ⟨?_, ?_⟩
  · obtain ⟨g, rfl⟩ := own_addr h.1 (by omega)
    exact ⟨g, 0, rfl, (h.1.lt g rfl).2, fun i hi => by rw [Nat.zero_add]; exact acts_cell h.1 k hk i hi⟩
  · have h2 := h.2 l[k] (List.getElem_mem hk)
    obtain ⟨A2, c2, e⟩ := own_slice h2
    refine ⟨A2, c2, e, fun j hj => ?_⟩
    rw [e] at h2
    obtain ⟨g, rfl⟩ := own_addr h2 (by omega)
    exact ⟨g, 0, rfl, (h2.lt g rfl).2, by rw [Nat.zero_add]; exact intsN_cell h2 j hj⟩
theorem ok_of {out : List To} {L : List Ac} (h : outs out = L) (hL : ∀ a ∈ L, Fitly a ∧ 0 ≤ a.b ∧ a.b ≤ 255) : Ok out := fun t ht => hL _ (h ▸ List.mem_map.2 ⟨t, ht, rfl⟩)
/-- The document's examples. -/
def ex1 : Tx := [27, 91, 63, 50, 53, 59, 104]
def ex2 : Tx := [97, 10, 195]
def ex3 : Tx := [169, 27, 93, 48, 59, 104, 105, 7]
def ac1 : Ac := ⟨4, 0, 104, [25, -1], [63], []⟩
def ac5 : Ac := ⟨5, 0, 0, [], [], [48, 59, 104, 105]⟩
theorem run_ex1 : run ps0 ex1 = (ps0, [ac1]) := by kernel_rfl
theorem run_ex2 : (run ps0 ex2).2 = [prt 97, ctl 10] := by kernel_rfl
theorem run_ex3 : (run (run ps0 ex2).1 ex3).2 = [prt 233, ac5] := by kernel_rfl
theorem prn_ex1 : prnAll [ac1] = ex1 := by kernel_rfl
theorem nm_ground : nm ps0.s = { data := #[103, 114, 111, 117, 110, 100] } := rfl
theorem convert_const (w : World) (C : Array Value) (n c : Nat) : (convert 28 28 (.slice (some ⟨w.heap.size, 0, none⟩) n c)).run Tryz.prog (w.alloc (.cells C 5)) = .ok (.slice (some ⟨w.heap.size, 0, none⟩) n c) (w.alloc (.cells C 5 (C.size, C.size + 1))) :=
  Lib.run_convert_bytes_const (P := Tryz.prog) w 28 5 C n c Tryz.underlying28 Tryz.underlying5
theorem inb_const (w : World) {C : Array Value} {l : Tx} (fr : Nat × Nat) (e : C.toList = byts l) : InB (w.alloc (.cells C 5 fr)) (some ⟨w.heap.size, 0, none⟩) l := fun i hi => by
  refine ⟨w.heap.size, 0, C, fr, rfl, heap_alloc_new w _, ?_⟩
  rw [Nat.zero_add, ← Array.getElem?_toList, e]
  simp [byts, List.getElem?_eq_getElem hi, List.getD_eq_getElem?_getD]
end Go.Proofs.YtjklnnklgkihlaaGreatDoor.Vt
