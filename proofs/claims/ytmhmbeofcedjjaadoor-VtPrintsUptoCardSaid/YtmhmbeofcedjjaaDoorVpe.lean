/- The walk of a head's bytes, put behind a row of bytes of the call's own. The walk of a head's bytes, put behind a row of bytes of the call's own. -/
import Derived.Test.YtmhmbeofcedjjaaDoorVpc
import Derived.Test.YtmhmbeofcedjjaaDoorVpu
import Derived.Lib.AppendStr
import Derived.Lib.OthersKept
namespace Go.Proofs.YtmhmbeofcedjjaaDoor.Vt
open Go.RowKit
open Cel (Blk Kept Tabs low Owns At)

/-- What a call leaves that writes to a row of bytes of the caller's: what lay below B, and all that are no bytes. -/
def Bt (B : Nat) (w w' : World) : Prop := Below B w w' ∧ Lib.OthersKept 5 none w w'
section
variable {B : Nat} {w w1 w2 : World}
theorem Bt.refl (B : Nat) (w : World) : Bt B w w := ⟨Below.refl _ _, Lib.OthersKept.refl _ _ _⟩
theorem Bt.trans (h : Bt B w w1) (k : Bt B w1 w2) : Bt B w w2 := ⟨h.1.trans k.1, h.2.trans k.2⟩
theorem Bt.alloc (h : Bt B w w1) (o : Obj) (hB : B ≤ w1.heap.size) : Bt B w (w1.alloc o) := ⟨h.1.alloc hB o, h.2.alloc o⟩
theorem Bt.drew (h : Bt B w w1) : Bt B w w1.drew := ⟨⟨h.1.os, h.1.tape, h.1.output, h.1.size, h.1.block⟩, h.2⟩
theorem Bt.drewN (h : Bt B w w1) (n : Nat) : Bt B w (w1.drewN n) := ⟨below_drewN h.1 n, h.2⟩
theorem Bt.blk {g : Nat} {t : TypeId} {cs : Array Value} (h : Bt B w w1) (hb : Blk w g t cs) (ht : t ≠ 5) : Blk w1 g t cs := h.2 g _ hb (by simp) fun c fz e => by injection e with _ e; exact ht e
theorem Bt.of_below (h : Below w.heap.size w w1) (hB : B ≤ w.heap.size) : Bt B w w1 := ⟨h.mono hB, fun k _ hk _ _ => (h.block k (Array.getElem?_eq_some_iff.1 hk).1).trans hk⟩
theorem Bt.grown {v : Value} {l : Tx} (hown : Byts w B v l) (hB : B ≤ w.heap.size) (k : Kept w w1 (fun i => v.ownBlock = some i)) : Bt B w w1 := by
  refine ⟨⟨k.os, k.tape, k.output, k.size, fun i hi => k.block i (by omega) fun e => by have := (hown.lt i e).1; omega⟩, fun i o hi _ ho => ?_⟩
  · have hlt := (Array.getElem?_eq_some_iff.1 hi).1
    rw [k.block i hlt fun e => ?_]
    · exact hi
    · rcases hown.2 with ⟨rfl, _⟩ | ⟨g, cap, cur, rfl, _, hh, _⟩
      · cases e
      · injection e with e
        subst e
        rw [hi] at hh
        injection hh with hh
        exact ho _ _ hh
end

/-! ### Bytes put behind a row -/
theorem byts_cells (k : Tx) : Lib.strCells (bs k) = byts k := by unfold Lib.strCells byts; rw [bs_list]
section
variable {ops : Array Oper} {rest : List Oper} {op : Oper} {a : Act} {w : World} {Q : Exit → Act → World → Prop}
theorem wpList_append_byts (hgd : op.guard = none) (s x : Operand) (ho : op.op = .call { callee := .builtin .append, args := #[s, x], argTypes := #[24, 24] })
    (B : Nat) (v : Value) (l k : Tx) (hs : a.eval s = v) (hown : Byts w B v l) (g c : Nat) (hx : a.eval x = .slice (some ⟨g, 0, none⟩) k.length c) (hg : Blk w g 5 (byts k).toArray) (hB : B ≤ w.heap.size) (hn : l.length + k.length ≤ 140737488355328)
    (h : ∀ v' w', Byts w' B v' (l ++ k) → Bt B w w' → wpList Tryd.prog ops Q rest (a.put op.dst v') w') :
    wpList Tryd.prog ops Q (op :: rest) a w := by
  obtain ⟨i0, hi0, hz0, hz1, hz2⟩ := info_parts info_u8
  refine wpList_append_own _ hgd s x 24 ho B 5 i0 _ 1 1 Tryd.underlying24 hi0 hz0 hz1 hz2 rfl (by decide) v l.length (byts l) hs hown ⟨g, 0, none⟩ k.length c (byts k) hx (by rw [byts_len]; omega) ?_ (byts_one k) (by unfold maxLen; omega) (by omega) hB ?_
  · intro j u hj
    have ha : (⟨g, 0, none⟩ : Addr).add j = ⟨g, j, none⟩ := by unfold Addr.add; split <;> simp_all
    rw [ha, hg.cell]
    simpa using hj
  · intro v' w' h1 h2 _
    refine h v' w' ?_ (Bt.grown hown hB ((Kept.refl w _).grown h2 fun j hj _ => hj))
    show w'.ownsRow B 5 1 v' (l ++ k).length (byts (l ++ k))
    rw [List.length_append, byts_app]
    exact h1
theorem wpList_append_btext (hgd : op.guard = none) (s x : Operand) (ho : op.op = .call { callee := .builtin .append, args := #[s, x], argTypes := #[24, 9] })
    (B : Nat) (v : Value) (l k : Tx) (hs : a.eval s = v) (hown : Byts w B v l) (X : ByteArray) (hX : bs k = X) (hx : a.eval x = .string X) (hB : B ≤ w.heap.size) (hn : l.length + k.length ≤ 140737488355328)
    (h : ∀ v' w', Byts w' B v' (l ++ k) → Bt B w w' → wpList Tryd.prog ops Q rest (a.put op.dst v') w') :
    wpList Tryd.prog ops Q (op :: rest) a w := by
  subst hX
  obtain ⟨i0, hi0, hz0, hz1, hz2⟩ := info_parts info_u8
  have hz := bs_size k
  refine Lib.wpList_append_own_string w hgd s x 24 9 ho B 5 i0 Tryd.underlying24 Tryd.underlying9 hi0 hz0 hz1 hz2 v l.length (byts l) hs hown (bs k) hx (by unfold maxLen; omega) (by omega) hB ?_
  intro v' w' h1 h2 _
  refine h v' w' ?_ (Bt.grown hown hB ((Kept.refl w _).grown h2 fun j hj _ => hj))
  show w'.ownsRow B 5 1 v' (l ++ k).length (byts (l ++ k))
  rw [List.length_append, byts_app, ← byts_cells, ← byts_cells, ← hz]
  rw [byts_cells] at *
  exact h1
end
/-- A byte's own new block. -/
theorem byte_new (w : World) {x : Int} (h0 : 0 ≤ x) (h1 : x ≤ 255) : Blk (w.alloc (.cells #[.int .u8 x] 5)) w.heap.size 5 (byts [byt x]).toArray := by
  have e : (byts [byt x]).toArray = #[.int .u8 x] := by unfold byts; simp [byt_nat h0 h1]
  rw [e]; exact Blk.new _ _ _

/-! ### Numbers as bytes -/
theorem digits_len : ∀ (k n : Nat), n < 10 ^ (k + 1) → (Lib.decDigits n).length ≤ k + 1
  | 0, n, h => by rw [Lib.decDigits, dif_pos (by omega)]; simp
  | k + 1, n, h => by
    rw [Lib.decDigits]
    split
    · simp
    · have := digits_len k (n / 10) (by rw [Nat.pow_succ] at h; omega)
      simp; omega
theorem num1_len {p : Int} (h0 : -1 ≤ p) (h1 : p ≤ 9999) : (num1 p).length ≤ 4 := by
  unfold num1
  split
  · simp
  · unfold Lib.itoa
    rw [if_neg (by omega)]
    exact digits_len 3 _ (by omega)
theorem nums1_app (l : List Int) (p : Int) : nums1 (l ++ [p]) = nums1 l ++ 59 :: num1 p := by
  induction l with
  | nil => simp [nums1]
  | cons q l ih => simp [nums1, ih]
theorem nums_app (l : List Int) (p : Int) : nums (l ++ [p]) = if l = [] then num1 p else nums l ++ 59 :: num1 p := by
  cases l with
  | nil => simp [nums, nums1]
  | cons q l => simp [nums, nums1_app]
theorem nums_len {l : List Int} (h : inP l = true) : (nums l).length ≤ 5 * l.length := by
  have h' : ∀ p ∈ l, -1 ≤ p ∧ p ≤ 9999 := by
    unfold inP at h
    simpa using h
  have h1 : ∀ l : List Int, (∀ p ∈ l, -1 ≤ p ∧ p ≤ 9999) → (nums1 l).length ≤ 5 * l.length := by
    intro l hl
    induction l with
    | nil => simp [nums1]
    | cons p l ih =>
      have hp := hl p (by simp)
      have := num1_len hp.1 hp.2
      have := ih fun x hx => hl x (by simp [hx])
      simp [nums1]; omega
  cases l with
  | nil => simp [nums]
  | cons p l =>
    have hp := h' p (by simp)
    have := num1_len hp.1 hp.2
    have := h1 l fun x hx => h' x (by simp [hx])
    simp [nums]; omega
/-- A table below. -/
theorem tabs_under {w : World} {B : Nat} (h : Tabs w) (hB : low ≤ B) : Lib.TabBelow Tryd.prog B w "internal/strconv.uint64pow10" .u64 Lib.pow10Tab := fun _ hb => (h.below hb hB).tabIs
theorem run_slice_to (w : World) (l : Tx) (m : Nat) (hm : m ≤ l.length) : (Instr.slice 9 (.string (bs l)) none (some (.int .i64 (m : Int))) none).run Tryd.prog w = .ok (.string (bs (l.take m))) w := by
  have hs := bs_size l
  rw [run_slice_string_to_if w 9 (bs l) .i64 (m : Int) Tryd.underlying9, if_pos ⟨by omega, by omega⟩]
  have e : (bs l).extract 0 (m : Int).toNat = bs (l.take m) := by
    refine ByteArray.ext ?_
    apply Array.ext'
    rw [Lib.extract_data]
    simp [bs]
  rw [e]
end Go.Proofs.YtmhmbeofcedjjaaDoor.Vt
namespace Go.Proofs.YtmhmbeofcedjjaaDoor.Vt
open Go.RowKit
open Cel (Blk Kept Tabs low Owns At)

/-- Numbers that can be read, below a floor. -/
def RdB (B : Nat) (w : World) (A : Option Addr) (l : List Int) : Prop := ∀ k (hk : k < l.length), ∃ g o, A = some ⟨g, o, none⟩ ∧ g < B ∧ w.cell? ⟨g, o + k, none⟩ = some (.int .i64 l[k])
theorem RdB.rd {B : Nat} {w : World} {A : Option Addr} {l : List Int} (h : RdB B w A l) (hB : B ≤ w.heap.size) : RdI w A l := fun k hk => by
  obtain ⟨g, o, e, hg, hc⟩ := h k hk
  exact ⟨g, o, e, by omega, hc⟩
theorem RdB.below {B : Nat} {w w' : World} {A : Option Addr} {l : List Int} (h : RdB B w A l) (hb : Below B w w') : RdB B w' A l := fun k hk => by
  obtain ⟨g, o, e, hg, hc⟩ := h k hk
  exact ⟨g, o, e, hg, (hb.cell (p := ⟨g, o + k, none⟩) hg).trans hc⟩
/-- What a call leaves that put k behind the row. -/
def Putted (B : Nat) (w : World) (l : Tx) (e : Ending) (w' : World) : Prop := ∃ v', e = .returned v' ∧ Byts w' B v' l ∧ Bt B w w'
theorem nums_take {l : List Int} {k : Nat} (hk : k < l.length) : nums (l.take (k + 1)) = nums (l.take k) ++ (if 0 < k then [59] else []) ++ num1 l[k] := by
  rw [List.take_succ_eq_append_getElem hk, nums_app]
  by_cases h0 : 0 < k
  · rw [if_pos h0, if_neg (by intro e; have := congrArg List.length e; rw [List.length_take, List.length_nil] at this; omega)]
    simp
  · obtain rfl : k = 0 := by omega
    simp [nums]
theorem inP_sub {l : List Int} (h : inP l = true) (k : Nat) : inP (l.take k) = true := by
  unfold inP at h ⊢
  rw [List.all_eq_true] at h ⊢
  exact fun p hp => h p (List.mem_of_mem_take hp)
theorem inP_mem {l : List Int} (h : inP l = true) {k : Nat} (hk : k < l.length) : -1 ≤ l[k] ∧ l[k] ≤ 9999 := by
  unfold inP at h
  rw [List.all_eq_true] at h
  have := h _ (List.getElem_mem hk)
  simpa using this
theorem appendInt_any (B : Nat) (v : Value) (l : Tx) (z : Int) (w : World) (hown : Byts w B v l) (hB : B ≤ w.heap.size) (hl : l.length ≤ 140737488355000) (ht : Tabs w) (hlow : low ≤ B) (h0 : 0 ≤ z) (h1 : z ≤ 9999) :
    Calls Tryd.prog 52 #[v, .int .i64 z, .int .i64 10] w (Putted B w (l ++ num1 z)) := by
  refine (Tryd.strconv_AppendInt_10 B l.length z (by omega) (by omega) v (byts l) w hown hB (by omega) (tabs_under ht hlow)).mono ?_
  rintro e w' ⟨v', rfl, ho, hb, hk⟩
  refine ⟨v', rfl, ?_, hb, hk⟩
  have e : num1 z = Lib.itoa z := by unfold num1; rw [if_neg (by omega)]
  show w'.ownsRow B 5 1 v' (l ++ num1 z).length (byts (l ++ num1 z))
  rw [List.length_append, byts_app, e]
  exact ho
def HdRel (B : Nat) (w1 : World) (l0 : Tx) (ps : List Int) (k : Nat) (v : Value) (wr : World) : Prop := Byts wr B v (l0 ++ nums (ps.take k)) ∧ Bt B w1 wr
set_option maxRecDepth 100000 in
set_option maxHeartbeats 4000000 in
theorem appendHead_any (a : Ac) (A : Option Addr) (c : Nat) (w : World) (B : Nat) (v : Value) (l : Tx) (hown : Byts w B v l) (hB : B ≤ w.heap.size) (ht : Tabs w) (hlow : low ≤ B) (h : RdB B w A a.ps)
    (hit : a.it.length ≤ 3) (hps : a.ps.length ≤ 32) (hpz : inP a.ps = true) (hb0 : 0 ≤ a.b) (hb1 : a.b ≤ 255) (hl : l.length ≤ 140737488350000) :
    Calls Tryd.prog 33 #[v, acV a (.slice A a.ps.length c)] w (Putted B w (l ++ headB a)) := by
  have hbl := bare_le a.it
  have h1 := unmarked_any a.it (by omega)
  have hsl := fun (w : World) => run_slice_to w a.it (a.it.length - (bare a.it).length) (by omega)
  have HM : Hid (bs (a.it.take (a.it.length - (bare a.it).length)) = bs (mark a.it)) := by show _ = _; rfl
  rw [HM.out] at hsl
  have HH : Hid (l ++ headB a = ((l ++ mark a.it) ++ nums (a.ps.take a.ps.length)) ++ bare a.it ++ [byt a.b]) := by show _ = _; unfold headB; simp
  have z1 : (bs a.it).size = a.it.length := bs_size _
  have z2 : (bs (bare a.it)).size = (bare a.it).length := bs_size _
  have hml : (mark a.it).length ≤ 3 := by unfold mark; rw [List.length_take]; omega
  obtain ⟨mk, hmk⟩ : ∃ m : Nat, m = a.it.length - (bare a.it).length := ⟨_, rfl⟩
  have HK : Hid ((a.it.length : Int) - ((bare a.it).length : Int) = (mk : Int)) := by show _ = _; omega
  rw [← hmk] at hsl
  have hmk3 : mk ≤ 3 := by omega
  clear hmk
  have kB : Bt B w (acW w a.k a.r a.b (.slice A a.ps.length c) (bs a.it) (bs a.tx)) := (Bt.refl B w).alloc _ hB
  have hbk : Blk (acW w a.k a.r a.b (.slice A a.ps.length c) (bs a.it) (bs a.tx)) w.heap.size 38 #[.int .i64 a.k, .int .i32 a.r, .int .u8 a.b, .slice A a.ps.length c, .string (bs a.it), .string (bs a.tx)] := Blk.new w _ _
  have ho1 : Byts (acW w a.k a.r a.b (.slice A a.ps.length c) (bs a.it) (bs a.tx)) B v l := hown.alloc _
  have hr1 : RdB B (acW w a.k a.r a.b (.slice A a.ps.length c) (bs a.it) (bs a.tx)) A a.ps := h.below kB.1
  have ht1 : Tabs (acW w a.k a.r a.b (.slice A a.ps.length c) (bs a.it) (bs a.tx)) := ht.below kB.1 hlow
  have hz1 : w.heap.size + 1 ≤ (acW w a.k a.r a.b (.slice A a.ps.length c) (bs a.it) (bs a.tx)).heap.size := by simp
  clear ht h hown
  unfold acV
  have HZ1 := Lib.hid z1
  have HZ2 := Lib.hid z2
  have HBL := Lib.hid hbl
  clear z1 z2 hbl
  have hbl2 : (bare a.it).length ≤ 3 := by have := HBL.out; omega
  have HHB : Hid (∀ w1 w2, acW w a.k a.r a.b (.slice A a.ps.length c) (bs a.it) (bs a.tx) = w1 → Bt B w1 w2 → Bt B w w2) := fun w1 w2 e k => (e ▸ kB).trans k
  clear kB
  generalize hR : headB a = R at *
  clear hR
  generalize a.it = it at *
  generalize bs it = X at *
  generalize a.tx = tx at *
  generalize bs tx = Z at *
  generalize a.ps = ps at *
  generalize a.k = k1 at *
  generalize a.r = r1 at *
  generalize a.b = b1 at *
  clear a
  generalize hw1 : acW w k1 r1 b1 (.slice A ps.length c) X Z = w1 at *
  have HW1 := Lib.hid (HHB.out w1 · rfl)
  have HW : Hid (w.alloc (.cells #[.int .i64 k1, .int .i32 r1, .int .u8 b1, .slice A ps.length c, .string X, .string Z] 38) = w1) := hw1
  clear hw1 HHB
  go_enter Tryd.func33, Tryd.ntmps33
  go_wp2_with fail
  rw [HW.out]
  have c4 : w1.cell? ⟨w.heap.size, 4, none⟩ = some (.string X) := hbk.cell 4
  have e1 := HZ1.out
  have e2 := HZ2.out
  have e3 := HK.out
  have hml2 : l.length + (mark it).length ≤ 140737488355328 := by omega
  have hB1 : B ≤ w1.heap.size := by omega
  generalize hy : bs (bare it) = Y at *
  go_wp2_with (first | (go_at_call 49; refine (h1 _).mono ?_; rintro e w' ⟨rfl, rfl⟩) | (at_builtin; refine wpList_append_btext rfl (.tmp 18) (.tmp 22) rfl B v l (mark it) rfl ho1 (bs (mark it)) rfl rfl hB1 hml2 ?_; intro v2 w2 ho2 hb2; have hbk2 := hb2.blk hbk (by decide); have c3 : w2.cell? ⟨w.heap.size, 3, none⟩ = some (.slice A ps.length c) := hbk2.cell 3))
  clear e1 e2 e3 hsl c4 hbk ho1
  have hlb : (l ++ mark it).length ≤ 140737488350003 := by rw [List.length_append]; omega
  have hB2 : B ≤ w2.heap.size := Nat.le_trans hB1 hb2.1.size
  have ht2 := ht1.below hb2.1 hlow
  have hr2 := hr1.below hb2.1
  clear ht1 hr1
  have HB2 := Lib.hid hb2
  clear hb2
  go_loopw [0, 7, 8, 27] (fun v _ _ i wr => ∃ k : Nat, k ≤ ps.length ∧ i = .int .i64 k ∧ HdRel B w2 (l ++ mark it) ps k v wr) (fun _ _ _ i _ => ps.length - (intOf i).toNat)
  case atStart => exact ⟨0, Nat.zero_le _, rfl, by rw [List.take_zero]; show Byts _ _ _ (_ ++ []); rw [List.append_nil]; exact ho2, Bt.refl _ _⟩
  case round =>
    obtain ⟨k, hk, rfl, ho3, hb3⟩ := hrel
    have hB3 : B ≤ wr.heap.size := Nat.le_trans hB2 hb3.1.size
    have hln := nums_len (inP_sub hpz k)
    have hlk : (ps.take k).length ≤ 32 := by rw [List.length_take]; omega
    have hl3 : (l ++ mark it ++ nums (ps.take k)).length ≤ 140737488352000 := by rw [List.length_append]; omega
    by_cases hlt : k < ps.length
    · have ht3 := ht2.below hb3.1 hlow
      obtain ⟨g, o, rfl, _, hcell⟩ := (hr2.below hb3.1) k hlt
      have hz := inP_mem hpz hlt
      have HN := Lib.hid (nums_take hlt)
      generalize ps[k] = z at *
      obtain ⟨L, hL⟩ : ∃ L, L = l ++ mark it ++ nums (ps.take k) := ⟨_, rfl⟩
      rw [← hL] at ho3 hl3
      have HL := Lib.hid hL
      clear hL hln hlk
      by_cases h0 : 0 < k
      · have hB4 : B ≤ (wr.alloc (.cells #[.int .u8 59] 5)).heap.size := by simp; omega
        have ho4 : Byts (wr.alloc (.cells #[.int .u8 59] 5)) B u0 L := ho3.alloc _
        have hb4 : Bt B w2 (wr.alloc (.cells #[.int .u8 59] 5)) := hb3.alloc _ hB3
        have hg4 : Blk (wr.alloc (.cells #[.int .u8 59] 5)) wr.heap.size 5 (byts [byt 59]).toArray := byte_new wr (by omega) (by omega)
        have hl4 : L.length + [byt 59].length ≤ 140737488355328 := by simp; omega
        by_cases hm : z = -1
        · subst hm
          go_wp2_with (at_builtin; refine wpList_append_byts rfl (.tmp 34) (.tmp 35) rfl B u0 L [byt 59] rfl ho4 wr.heap.size 1 rfl hg4 hB4 hl4 ?_; intro v5 w5 ho5 hb5)
          go_roundw
          case rel =>
            refine ⟨k + 1, by omega, by go_num, ?_, hb4.trans hb5⟩
            rw [HN.out, if_pos h0]
            rw [HL.out] at ho5
            simpa [num1, byt] using ho5
          case measure => simp [intOf]; omega
        · have hm1 : (z != -1) = true := by simpa using hm
          have hz0 : 0 ≤ z := by omega
          clear hm
          go_wp2_with (at_builtin; refine wpList_append_byts rfl (.tmp 34) (.tmp 35) rfl B u0 L [byt 59] rfl ho4 wr.heap.size 1 rfl hg4 hB4 hl4 ?_; intro v5 w5 ho5 hb5; have hB5 : B ≤ w5.heap.size := Nat.le_trans hB4 hb5.1.size; have ht5 := ht2.below (hb4.trans hb5).1 hlow; have hai := appendInt_any B v5 (L ++ [byt 59]) z w5 ho5 hB5 (by rw [List.length_append]; simp; omega) ht5 hlow hz0 hz.2)
          refine hai.mono ?_
          rintro e w6 ⟨v6, rfl, ho6, hb6⟩
          go_wp2
          go_roundw
          case rel =>
            refine ⟨k + 1, by omega, by go_num, ?_, (hb4.trans hb5).trans hb6⟩
            rw [HN.out, if_pos h0]
            rw [HL.out] at ho6
            simpa [byt] using ho6
          case measure => simp [intOf]; omega
      · obtain rfl : k = 0 := by omega
        have hcell0 : wr.cell? ⟨g, o, none⟩ = some (.int .i64 z) := hcell
        clear hcell
        by_cases hm : z = -1
        · subst hm
          go_wp2
          go_roundw
          case rel =>
            refine ⟨1, by omega, by go_num, ?_, hb3⟩
            rw [HN.out, if_neg h0]
            rw [HL.out] at ho3
            simpa [num1] using ho3
          case measure => simp [intOf]; omega
        · have hm1 : (z != -1) = true := by simpa using hm
          have hz0 : 0 ≤ z := by omega
          have hai := appendInt_any B u0 L z wr ho3 hB3 (by omega) ht3 hlow hz0 hz.2
          clear hm
          go_wp2_with fail
          refine hai.mono ?_
          rintro e w6 ⟨v6, rfl, ho6, hb6⟩
          go_wp2
          go_roundw
          case rel =>
            refine ⟨1, by omega, by go_num, ?_, hb3.trans hb6⟩
            rw [HN.out, if_neg h0]
            rw [HL.out] at ho6
            simpa using ho6
          case measure => simp [intOf]; omega
    · obtain rfl : k = ps.length := by omega
      obtain ⟨L, hL⟩ : ∃ L, L = l ++ mark it ++ nums (ps.take ps.length) := ⟨_, rfl⟩
      rw [← hL] at ho3 hl3 HH
      clear hL
      have hlb2 : L.length + (bare it).length ≤ 140737488355328 := by omega
      have hlb3 : (L ++ bare it).length + [byt b1].length ≤ 140737488355328 := by simp; omega
      go_wp2_with (first
        | (at_builtin; refine wpList_append_btext rfl (.tmp 43) (.tmp 44) rfl B u0 L (bare it) rfl ho3 Y hy rfl hB3 hlb2 ?_; intro v6 w6 ho6 hb6; have hbk6 := hb6.blk (hb3.blk hbk2 (by decide)) (by decide); have c2 : w6.cell? ⟨w.heap.size, 2, none⟩ = some (.int .u8 b1) := hbk6.cell 2; have hB60 : B ≤ w6.heap.size := Nat.le_trans hB3 hb6.1.size; have hB6 : B ≤ (w6.alloc (.cells #[.int .u8 b1] 5)).heap.size := (by simp; omega); have ho7 : Byts (w6.alloc (.cells #[.int .u8 b1] 5)) B v6 (L ++ bare it) := ho6.alloc _; have hg7 := byte_new w6 hb0 hb1; have hb7 : Bt B w6 (w6.alloc (.cells #[.int .u8 b1] 5)) := (Bt.refl _ _).alloc _ hB60)
        | (at_builtin; refine wpList_append_byts rfl (.tmp 46) (.tmp 49) rfl B v6 (L ++ bare it) [byt b1] rfl ho7 w6.heap.size 1 rfl hg7 hB6 hlb3 ?_; intro v8 w8 ho8 hb8))
      go_ret
      refine ⟨v8, rfl, ?_, HW1.out _ ((((HB2.out.trans hb3).trans hb6).trans hb7).trans hb8)⟩
      rw [HH.out]
      exact ho8
end Go.Proofs.YtmhmbeofcedjjaaDoor.Vt
