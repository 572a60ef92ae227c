/- Feed of plain bytes. -/
import Derived.Test.YtjklnnklgkihlaaGreatDoorPad
import Derived.Test.YtjklnnklgkihlaaGreatDoorPNst
import Derived.Test.YtjklnnklgkihlaaGreatDoorPNne
namespace Go.Proofs.YtjklnnklgkihlaaGreatDoor.Scr
open Go.RowKit Cel Sty Grd

section
variable {ops : Array Oper} {rest : List Oper} {op : Oper} {a : Act} {w : World} {Q : Exit → Act → World → Prop}
/-- No bytes appended. -/
theorem wpList_append_nob (hgd : op.guard = none) (s x : Operand) (ho : op.op = .call { callee := .builtin .append, args := #[s, x], argTypes := #[28, 28] }) (base : Option Addr) (n c : Nat) (hs : a.eval s = .slice base n c) (hnc : n ≤ c) (hx : a.eval x = .slice none 0 0)
    (h : wpList Tryz.prog ops Q rest (a.put op.dst (.slice base n c)) w) : wpList Tryz.prog ops Q (op :: rest) a w := by
  refine wpList_plain hgd fun K hK => ?_
  have hrun : (Builtin.append_ #[28, 28] op.type #[.slice base n c, .slice none 0 0]).run Tryz.prog w = .ok (.slice base n c) w := by
    have hi : (Tryz.prog.info? 5).isSome = true := by kernel_rfl
    cases hq : Tryz.prog.info? 5 with
    | none => rw [hq] at hi; cases hi
    | some i => cases base <;> simp [Builtin.append_, run_underlying Tryz.underlying28, sizeOf, typeInfo, hq, Builtin.lenOf, Builtin.firstCells, hnc, storeCells]
  unfold Oper.wp
  simp [execOp, ho, resolve, invoke, builtin, hs, hx, hrun, Result.andThen]
  exact hK _ _ h
end
/-- Runes printed one after another. -/
def inkAll (c lim b : Nat) (M : MP) (l : List Int) : MP := l.foldl (inkP c lim b) M
theorem inkAll_fit {c lim b : Nat} (hc : 1 ≤ c) (l : List Int) : ∀ {M : MP}, Inky c b M → Inky c b (inkAll c lim b M l) := by
  induction l with
  | nil => exact fun h => h
  | cons r l ih => exact fun h => ih (ink_fit h hc r)
theorem inkAll_succ (c lim b : Nat) (M : MP) (l : List Int) (k : Nat) (hk : k < l.length) : inkP c lim b (inkAll c lim b M (l.take k)) l[k] = inkAll c lim b M (l.take (k + 1)) := by
  unfold inkAll
  rw [List.take_succ_eq_append_getElem hk, List.foldl_append]
  rfl
/-- A parser's blocks, as a list. -/
def mineL (pb db : Nat) (pv tp : Value) : List Nat := pb :: db :: (pv.ownBlock.toList ++ tp.ownBlock.toList)
theorem mem_mineL {pb db : Nat} {pv tp : Value} {x : Nat} : x ∈ mineL pb db pv tp ↔ Vt.mine pb db pv tp x := by
  unfold mineL Vt.mine
  simp [Option.mem_toList]
theorem mine_only {w w' : World} {pb db : Nat} {pv tp : Value} (h : Kept w w' (Vt.mine pb db pv tp)) : Only (mineL pb db pv tp) w w' := ⟨h.os, h.tape, h.output, h.size, fun k hk hn => h.block k hk fun hm => hn (mem_mineL.2 hm)⟩
/-- What a Feed of plain bytes leaves of a screen and of its parser. -/
def FedI (w w' : World) (sb g : Nat) (F : List Nat) (c lim B pb db : Nat) (tv : Value) (M : MP) : Prop :=
  ∃ F' pv' tp', SG w' sb g F' c lim M.past M.rows (ptrV pb) tv M.S ∧ Vt.PAt w' B pb db pv' tp' Vt.ps0 ∧ (∀ x ∈ sb :: F', x ∉ mineL pb db pv' tp') ∧ (∀ x ∈ F', x ∈ F ∨ w.heap.size ≤ x) ∧ Below B w w'
/-- The runes of bytes. -/
def runesI (l : List UInt8) : List Int := l.map fun u => (u.toNat : Int)
section
variable {w w1 : World} {sb g : Nat} {F : List Nat} {c lim b : Nat} {pv tp tv : Value} {M : MP} {B pb db : Nat}
set_option maxRecDepth 100000 in
set_option maxHeartbeats 4000000 in
theorem feed_ink (h : SG w sb g F c lim M.past M.rows (ptrV pb) tv M.S) (P : Vt.PAt w B pb db pv tp Vt.ps0) (ht : Grd.Tabs B w) (htv : Cel.Tabs w) (hlow : Cel.low ≤ B) (hF : ∀ x ∈ F, B ≤ x) (hsb : B ≤ sb) (hap : ∀ x ∈ sb :: F, x ∉ mineL pb db pv tp) (hI : Inky c b M)
    (l : List UInt8) (hl : ∀ u ∈ l, 32 ≤ u.toNat ∧ u.toNat ≤ 126 ∧ width (u.toNat : Int) = 1) (A : Option Addr) (cp : Nat) (hb1 : Below w.heap.size w w1) (hin : Vt.InB w1 A l) (hnew : ∀ g o, A = some ⟨g, o, none⟩ → w.heap.size ≤ g) (hll : l.length ≤ 1000000) :
    Calls Tryz.prog 8 #[ptrV sb, .slice A l.length cp] w1 fun e w' => e = .returned (.slice none 0 0) ∧ FedI w w' sb g F c lim B pb db tv (inkAll c lim b M (runesI l)) := by
  have hc := h.grd.bd.c1
  have hpl := P.lt pb (.inl rfl)
  have hsl := h.blk.lt
  have hFl := h.grd.lt
  have hs1 := hb1.size
  have hfeed := Vt.feed_in P htv hlow (Cel.below_kept hb1 fun _ => False) A cp l hin hnew (by omega)
  have hrun := run_plain l fun u hu => ⟨(hl u hu).1, (hl u hu).2.1⟩
  have c0 : w1.cell? ⟨sb, 0, none⟩ = some (.pointer (some ⟨pb, 0, none⟩)) := (h.below hb1).blk.cell 0
  have HFEED := Lib.hid hfeed
  have HRUN := Lib.hid hrun
  have HH := Lib.hid h
  have HT := Lib.hid ht
  have HI := Lib.hid hI
  have HL := Lib.hid hl
  have HAP := Lib.hid hap
  have HFB := Lib.hid hF
  have HFL := Lib.hid hFl
  have HP := Lib.hid P
  clear h ht hI hl hap hF hFl hfeed hrun hin hnew htv P
  unfold Vt.ptr at HFEED
  unfold ptrV
  go_enter Tryz.func8, Tryz.ntmps8
  go_wp2_with fail
  refine HFEED.out.mono ?_
  rintro _ w5 ⟨ov, out, pv', tp', rfl, P5, L5, ho5, ap5, k5, m5⟩
  have hBw := Nat.le_trans hpl.1 (Nat.le_of_lt hpl.2)
  have o5 := mine_only k5
  have hS5 := HH.out.only o5 (HAP.out sb (.head _)) (fun x hx => HAP.out x (.tail _ hx))
  have hs5 := o5.size
  have hBl5 : Below B w w5 := o5.below hBw fun x hx => (HP.out.lt x (mem_mineL.1 hx)).1
  have hap5 : ∀ x ∈ sb :: F, x ∉ mineL pb db pv' tp' := fun x hx hm => by
    rcases m5 x (mem_mineL.1 hm) with q | q
    · exact HAP.out x hx (mem_mineL.2 q)
    · rcases List.mem_cons.1 hx with rfl | hx
      · omega
      · have := HFL.out x hx
        omega
  rw [HRUN.out] at P5 ho5
  have hol : out.length = l.length := by
    have := congrArg List.length ho5
    simpa [Vt.outs] using this
  have hget : ∀ k (hk : k < out.length), ∃ r, out[k].1 = Vt.prt r ∧ (runesI l)[k]? = some r ∧ 32 ≤ r ∧ r ≤ 126 ∧ width r = 1 := fun k hk => by
    have hk2 : k < l.length := by omega
    have h1 := Vt.outs_get hk (by simpa [Vt.outs] using hk)
    simp only [ho5] at h1
    rw [List.getElem_map] at h1
    obtain ⟨a1, a2, a3⟩ := HL.out l[k] (List.getElem_mem hk2)
    exact ⟨(l[k].toNat : Int), h1.symm, by simp [runesI, hk2], by omega, by omega, a3⟩
  have hrl : (runesI l).length = out.length := by unfold runesI; rw [List.length_map, hol]
  obtain ⟨A1, c1, rfl⟩ := Vt.own_slice L5.1
  have hn : out.length ≤ 1000000 := by omega
  obtain ⟨R, hR⟩ : ∃ R, runesI l = R := ⟨_, rfl⟩
  rw [hR] at hget hrl
  have HR := Lib.hid hR
  clear hR
  have HG := Lib.hid hget
  have HS5 := Lib.hid hS5
  have HL5 := Lib.hid L5
  have HP5 := Lib.hid P5
  have HB5 := Lib.hid hBl5
  have HAP5 := Lib.hid hap5
  have HRL := Lib.hid hrl
  clear hget hS5 P5 hBl5 hap5 ho5 m5 ap5 HFEED HRUN HH HL HAP k5 o5 hol hll hrl L5
  go_wp2_with fail
  go_loopw [5, 17] (fun v i wr => ∃ k F', k ≤ out.length ∧ i = .int .i64 (k : Int) ∧ v = .slice none 0 0 ∧ SG wr sb g F' c lim (inkAll c lim b M (R.take k)).past (inkAll c lim b M (R.take k)).rows (ptrV pb) tv (inkAll c lim b M (R.take k)).S ∧ Went (sb :: F) (sb :: F') w5 wr) (fun _ i _ => out.length - (intOf i).toNat)
  case atStart => exact ⟨0, F, Nat.zero_le _, rfl, rfl, HS5.out, fun x hx => .inl hx, Only.refl _ _⟩
  case round =>
    obtain ⟨k, F', hk, rfl, rfl, hS, hW⟩ := hrel
    have hO := hW.only
    by_cases hlt : k < out.length
    · have hown : wr.ownsRow w.heap.size 65 6 (.slice A1 out.length c1) out.length (Vt.flat out) := (⟨hO.os, hO.tape, hO.output, hO.size, fun i hi hn => hO.block i hi hn⟩ : Kept w5 wr (· ∈ sb :: F)).owns HL5.out.1 fun i hi hm => by
        have := (HL5.out.1.lt i hi).1
        rcases List.mem_cons.1 hm with rfl | hm
        · omega
        · have := HFL.out i hm
          omega
      obtain ⟨g2, rfl⟩ := Vt.own_addr hown (by omega)
      obtain ⟨r, hr, hRk, r0, r1, r2⟩ := HG.out k hlt
      have hRl := HRL.out
      have hkR : k < R.length := by omega
      have hRe : R[k] = r := by rw [List.getElem?_eq_getElem hkR] at hRk; exact Option.some.inj hRk
      have e0 := Vt.acts_cell hown k hlt
      have hsl2 := Vt.own_slice (HL5.out.2 out[k] (List.getElem_mem hlt))
      generalize out[k] = t at *
      obtain ⟨a, u⟩ := t
      obtain rfl : a = Vt.prt r := hr
      simp only at hsl2
      generalize (Vt.prt r).ps.length = n2 at hsl2
      obtain ⟨A2, c2, rfl⟩ := hsl2
      have x0 : wr.cell? ⟨g2, k * 6, none⟩ = some (.int .i64 1) := e0 0 (by omega)
      have x1 : wr.cell? ⟨g2, k * 6 + 1, none⟩ = some (.int .i32 r) := e0 1 (by omega)
      have x2 : wr.cell? ⟨g2, k * 6 + 2, none⟩ = some (.int .u8 0) := e0 2 (by omega)
      have x3 : wr.cell? ⟨g2, k * 6 + 3, none⟩ = some (.slice A2 n2 c2) := e0 3 (by omega)
      have x4 : wr.cell? ⟨g2, k * 6 + 4, none⟩ = some (.string (Vt.bs [])) := e0 4 (by omega)
      have x5 : wr.cell? ⟨g2, k * 6 + 5, none⟩ = some (.string (Vt.bs [])) := e0 5 (by omega)
      have i1 : (0 : Int) ≤ (k : Int) := by omega
      have i2 : (k : Int) < (out.length : Int) := by omega
      generalize Vt.bs [] = X at *
      have hBF : ∀ x ∈ sb :: F, B ≤ x := fun x hx => by
        rcases List.mem_cons.1 hx with rfl | hx
        · exact hsb
        · exact HFB.out x hx
      have hB5 : B ≤ w5.heap.size := by omega
      have hV : Below wr.heap.size wr (wr.alloc (.cells #[.int .i64 1, .int .i32 r, .int .u8 0, .slice A2 n2 c2, .string X, .string X] 65)) := (Below.refl _ _).alloc (Nat.le_refl _) _
      have hr5 := hO.size
      have hBwr : B ≤ wr.heap.size := Nat.le_trans hB5 hr5
      have hBV := (HB5.out.trans (hO.below hB5 hBF)).trans (hV.mono hBwr)
      have hF' : ∀ x ∈ F', B ≤ x := fun x hx => by
        rcases hW.foot x (.tail _ hx) with q | q
        · exact hBF x q
        · omega
      have hdo := do_ink (hS.below hV) (HT.out.below hBV (Nat.le_refl _)) (Nat.le_trans hBwr hV.size) hF' hsb (inkAll_fit hc (R.take k) HI.out) r r0 r1 r2 0 A2 n2 c2 X X
      have hsu := inkAll_succ c lim b M R k hkR
      rw [hRe] at hsu
      rw [hsu] at hdo
      have hWV : Went (sb :: F) (sb :: F') w5 (wr.alloc (.cells #[.int .i64 1, .int .i32 r, .int .u8 0, .slice A2 n2 c2, .string X, .string X] 65)) := hW.trans ⟨fun x hx => .inl hx, Only.of_below hV⟩
      have HDO := Lib.hid hdo
      have HWV := Lib.hid hWV
      clear e0 hdo hWV hW hS hO hown hV hBV hF' hsu hBF
      go_wp2_with fail
      refine HDO.out.mono ?_
      rintro _ w7 ⟨rfl, F7, hS7, hW7⟩
      have HS7 := Lib.hid hS7
      have HW7 := Lib.hid (HWV.out.trans hW7)
      clear hS7 hW7
      go_wp2_with (at_builtin; refine wpList_append_nob rfl (.tmp 21) (.tmp 24) rfl none 0 0 rfl (Nat.le_refl _) rfl ?_)
      go_roundw
      case rel => exact ⟨k + 1, F7, by omega, by go_num, rfl, HS7.out, HW7.out⟩
      case measure => simp [intOf]; omega
    · have e : k = out.length := by omega
      have hRt : R.take k = R := by rw [e, ← HRL.out, List.take_length]
      rw [hRt] at hS
      have i3 : ¬ (k : Int) < (out.length : Int) := by omega
      have s0 : wr.cell? ⟨sb, 0, none⟩ = some (.pointer (some ⟨pb, 0, none⟩)) := hS.blk.cell 0
      have sf := hS.blk.frozen 0
      have hbk : scB (wr.setCell ⟨sb, 0, none⟩ (.pointer (some ⟨pb, 0, none⟩))) sb (ptrV pb) g none tv (inkAll c lim b M R).S := hS.blk.set_ 0 (.pointer (some ⟨pb, 0, none⟩))
      have hos := one_set wr sb 0 (.pointer (some ⟨pb, 0, none⟩))
      have hSf := hS.turn hbk hos
      have hBF : ∀ x ∈ sb :: F, B ≤ x := fun x hx => by
        rcases List.mem_cons.1 hx with rfl | hx
        · exact hsb
        · exact HFB.out x hx
      have hB5 : B ≤ w5.heap.size := by omega
      have hr5 := hO.size
      have hPf := (HP5.out.keep (only_kept hO) (fun i hi hm => HAP5.out i hm (mem_mineL.2 hi))).keep (only_kept hos) (fun i hi hm => HAP5.out i (by rw [List.mem_singleton] at hm; rw [hm]; exact .head _) (mem_mineL.2 hi))
      have hdis : ∀ x ∈ sb :: F', x ∉ mineL pb db pv' tp' := fun x hx hm => by
        rcases hW.foot x hx with q | q
        · exact HAP5.out x q hm
        · have := (HP5.out.lt x (mem_mineL.1 hm)).2
          omega
      have hft : ∀ x ∈ F', x ∈ F ∨ w.heap.size ≤ x := fun x hx => by
        rcases hW.foot x (.tail _ hx) with q | q
        · rcases List.mem_cons.1 q with rfl | q
          · exact absurd hx hS.far
          · exact .inl q
        · right; omega
      have hBf := (HB5.out.trans (hO.below hB5 hBF)).trans (hos.below (Nat.le_trans hB5 hr5) (by simpa using hsb))
      have hfin : FedI w (wr.setCell ⟨sb, 0, none⟩ (.pointer (some ⟨pb, 0, none⟩))) sb g F c lim B pb db tv (inkAll c lim b M (runesI l)) := by
        rw [HR.out]
        exact ⟨F', pv', tp', hSf, hPf, hdis, hft, hBf⟩
      have HFIN := Lib.hid hfin
      clear hfin hSf hPf hdis hft hBf hos hbk hS hW hO hBF
      go_wp2_with fail
      go_ret
      exact ⟨rfl, HFIN.out⟩
end
end Go.Proofs.YtjklnnklgkihlaaGreatDoor.Scr
