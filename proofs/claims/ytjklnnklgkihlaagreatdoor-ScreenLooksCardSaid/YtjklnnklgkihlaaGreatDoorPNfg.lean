/- Feed, where what each action does is known. -/
import Derived.Test.YtjklnnklgkihlaaGreatDoorPNst
import Derived.Test.YtjklnnklgkihlaaGreatDoorPNfd
namespace Go.Proofs.YtjklnnklgkihlaaGreatDoor.Scr
open Go.RowKit Cel Sty Grd

section
variable {ops : Array Oper} {rest : List Oper} {op : Oper} {a : Act} {w : World} {Q : Exit → Act → World → Prop}
theorem info_u8' : ∃ i0, Tryz.prog.info? 5 = some i0 ∧ i0.zero = some (.int .u8 0) ∧ i0.size = 1 ∧ i0.bytes = 1 := by
  have hi := info_u8
  cases hq : Tryz.prog.info? 5 with
  | none => simp [hq] at hi
  | some i =>
    simp only [hq, Option.map_some, Option.some.injEq, Prod.mk.injEq] at hi
    exact ⟨i, rfl, hi.1, hi.2.1, hi.2.2⟩
theorem bytV_one (l : List UInt8) : ∀ u ∈ bytV l, u.oneCell' = true := fun u hu => by
  unfold bytV at hu
  obtain ⟨t, _, rfl⟩ := List.mem_map.1 hu
  rfl
theorem bytV_len (l : List UInt8) : (bytV l).length = l.length := by simp [bytV]
theorem bytV_app (l k : List UInt8) : bytV (l ++ k) = bytV l ++ bytV k := by simp [bytV]
set_option maxRecDepth 100000 in
/-- Bytes of the call's own appended to such. -/
theorem wpList_append_bb (hgd : op.guard = none) (s x : Operand) (ho : op.op = .call { callee := .builtin .append, args := #[s, x], argTypes := #[28, 28] })
    (base base' : Nat) (v u : Value) (l k : List UInt8) (hs : a.eval s = v) (hown : w.ownsRow base 5 1 v l.length (bytV l)) (hx : a.eval x = u) (hu : w.ownsRow base' 5 1 u k.length (bytV k)) (hbase : base ≤ w.heap.size) (hn : l.length + k.length ≤ 1000000)
    (h : ∀ v' w', w'.ownsRow base 5 1 v' (l ++ k).length (bytV (l ++ k)) → Kept w w' (fun j => v.ownBlock = some j) → (v'.ownBlock = v.ownBlock ∨ ∃ j, v'.ownBlock = some j ∧ w.heap.size ≤ j) → wpList Tryz.prog ops Q rest (a.put op.dst v') w') :
    wpList Tryz.prog ops Q (op :: rest) a w := by
  obtain ⟨i0, hi0, hz0, hz1, hz2⟩ := info_u8'
  by_cases hk : k = []
  · subst hk
    rcases hu.2 with ⟨rfl, _⟩ | ⟨g, cap, cur, rfl, _, hh, _⟩
    · refine wpList_append_own_none hgd s x 28 ho base 5 i0 1 Tryz.underlying28 hi0 v l.length (bytV l) hs hown hx ?_
      exact h v w (by rw [List.append_nil]; exact hown) (Kept.refl _ _) (.inl rfl)
    · refine wpList_append_own_at _ hgd s x 28 ho base 5 i0 _ 1 1 Tryz.underlying28 hi0 hz0 hz1 hz2 rfl (by decide) v l.length (bytV l) hs hown ⟨g, 0, none⟩ 0 cap [] hx rfl (by intro j u hj; simp at hj)
        (by intro u hu; simp at hu) (by unfold maxLen; simp at hn; omega) (by simp at hn; omega) hbase ?_
      intro v' w' h1 h2 _ h4
      refine h v' w' ?_ ((Kept.refl w _).grown h2 fun j hj _ => hj) ?_
      · rw [List.append_nil]
        simpa using h1
      · rcases h4 with h4 | h4
        · exact .inl h4
        · exact .inr ⟨_, h4, Nat.le_refl _⟩
  · rcases hu.2 with ⟨rfl, h0⟩ | ⟨g, cap, cur, rfl, _, hh, _⟩
    · exact absurd (List.eq_nil_of_length_eq_zero h0) hk
    · refine wpList_append_own_at _ hgd s x 28 ho base 5 i0 _ 1 1 Tryz.underlying28 hi0 hz0 hz1 hz2 rfl (by decide) v l.length (bytV l) hs hown ⟨g, 0, none⟩ k.length cap (bytV k) hx (by rw [bytV_len, Nat.mul_one]) (hu.cells (g := g) rfl)
        (bytV_one k) (by unfold maxLen; omega) (by omega) hbase ?_
      intro v' w' h1 h2 _ h4
      refine h v' w' ?_ ((Kept.refl w _).grown h2 fun j hj _ => hj) ?_
      · rw [List.length_append, bytV_app]
        exact h1
      · rcases h4 with h4 | h4
        · exact .inl h4
        · exact .inr ⟨_, h4, Nat.le_refl _⟩
end
theorem feed_in2 {w w1 : World} {B pb db : Nat} {pv tv : Value} {S : Vt.Ps} (P : Vt.PAt w B pb db pv tv S) (ht : Cel.Tabs w) (hlow : Cel.low ≤ B) (k : Kept w w1 (fun _ => False)) (A : Option Addr) (c : Nat) (l : Vt.Tx) (hin : Vt.InB w1 A l) (hnew : ∀ g o, A = some ⟨g, o, none⟩ → tv.ownBlock ≠ some g) (hll : l.length ≤ 1073741824) :
    Calls Tryz.prog 24 #[Vt.ptr pb, .slice A l.length c] w1 (Vt.FedL w B pb db pv tv S l) := by
  have hB := P.lt pb (.inl rfl)
  have P1 : Vt.PAt w1 B pb db pv tv S := P.keep k fun _ _ h => h
  have ht1 : Cel.Tabs w1 := ht.kept k (fun _ _ h => h) (by omega)
  refine (Vt.Feed_any P1 ht1 hlow A c l hin hll fun _ g o e => hnew g o e).mono ?_
  rintro e w' ⟨ov, out, pv', tv', rfl, P', ho, hout, htold, hap, hk, hm⟩
  have hs := k.size
  refine ⟨ov, out, pv', tv', rfl, P', ⟨Vt.own_raise ho fun i hi => Nat.le_trans hs (ho.lt i hi).1, fun t h => Vt.own_raise (htold t h) fun i hi => Nat.le_trans hs ((htold t h).lt i hi).1⟩, hout, hap, ?_, fun i hi => (hm i hi).imp id fun h => Nat.le_trans hs h⟩
  exact (k.more fun _ h => h.elim).trans hk fun _ _ h => h
/-- A block that is newer than the parser holds no text of it. -/
theorem new_apart {w : World} {B pb db : Nat} {pv tv : Value} {S : Vt.Ps} (P : Vt.PAt w B pb db pv tv S) {g : Nat} (h : w.heap.size ≤ g) : tv.ownBlock ≠ some g := fun q => by
  have := (P.lt g (.inr (.inr (.inr q)))).2
  omega
/-- What has been answered by k actions. -/
def catP (an : Nat → List UInt8) (k : Nat) : List UInt8 := (List.range k).flatMap an
theorem catP_succ (an : Nat → List UInt8) (k : Nat) : catP an k ++ an k = catP an (k + 1) := by
  unfold catP
  rw [List.range_succ, List.flatMap_append]
  simp
/-- What a Feed leaves of a screen, of its parser, of what it answered. -/
def FedG (w w' : World) (sb g : Nat) (F : List Nat) (c lim B pb db : Nat) (pv tp tv : Value) (M : MP) (S1 : Vt.Ps) (ov : Value) (t : List UInt8) : Prop :=
  AnsAt w' w.heap.size ov t ∧ Only (sb :: F ++ mineL pb db pv tp) w w' ∧ ∃ F' pv' tp', SG w' sb g F' c lim M.past M.rows (ptrV pb) tv M.S ∧ Vt.PAt w' B pb db pv' tp' S1 ∧ (∀ x ∈ sb :: F', x ∉ mineL pb db pv' tp') ∧ (∀ x ∈ F', x ∈ F ∨ w.heap.size ≤ x) ∧ Below B w w'
section
variable {w w1 : World} {sb g : Nat} {F : List Nat} {c lim : Nat} {pv tp tv : Value} {B pb db : Nat}
set_option maxRecDepth 100000 in
set_option maxHeartbeats 4000000 in
theorem feed_gen {S0 S1 : Vt.Ps} (Ms : Nat → MP) (an : Nat → List UInt8) (h : SG w sb g F c lim (Ms 0).past (Ms 0).rows (ptrV pb) tv (Ms 0).S) (P : Vt.PAt w B pb db pv tp S0) (ht : Grd.Tabs B w) (hta : TabA B w) (htv : Cel.Tabs w) (hlow : Cel.low ≤ B) (hF : ∀ x ∈ F, B ≤ x) (hsb : B ≤ sb) (hap : ∀ x ∈ sb :: F, x ∉ mineL pb db pv tp)
    (l : List UInt8) (told : List Vt.Ac) (hrun : Vt.run S0 l = (S1, told)) (hdo : ∀ k (hk : k < told.length), DoIs B sb g c lim (ptrV pb) tv (Ms k) (Ms (k + 1)) told[k] (an k)) (hcat : ∀ k, k ≤ told.length → (catP an k).length ≤ 500000) (hant : ∀ k, k < told.length → (an k).length ≤ 500000) (htl : told.length ≤ 1000000)
    (A : Option Addr) (cp : Nat) (hb1 : Below w.heap.size w w1) (hin : Vt.InB w1 A l) (hnew : ∀ g o, A = some ⟨g, o, none⟩ → tp.ownBlock ≠ some g) (hll : l.length ≤ 1000000) :
    Calls Tryz.prog 8 #[ptrV sb, .slice A l.length cp] w1 fun e w' => ∃ ov, e = .returned ov ∧ FedG w w' sb g F c lim B pb db pv tp tv (Ms told.length) S1 ov (catP an told.length) := by
  have hpl := P.lt pb (.inl rfl)
  have hsl := h.blk.lt
  have hFl := h.grd.lt
  have hs1 := hb1.size
  have hfeed := feed_in2 P htv hlow (Cel.below_kept hb1 fun _ => False) A cp l hin hnew (by omega)
  have c0 : w1.cell? ⟨sb, 0, none⟩ = some (.pointer (some ⟨pb, 0, none⟩)) := (h.below hb1).blk.cell 0
  have HFEED := Lib.hid hfeed
  have HRUN := Lib.hid hrun
  have HH := Lib.hid h
  have HT := Lib.hid ht
  have HTA := Lib.hid hta
  have HDO := Lib.hid hdo
  have HAP := Lib.hid hap
  have HFB := Lib.hid hF
  have HFL := Lib.hid hFl
  have HP := Lib.hid P
  have HCAT := Lib.hid hcat
  have HANT := Lib.hid hant
  clear h ht hta hdo hap hF hFl hfeed hrun hin hnew htv P hcat hant
  unfold Vt.ptr at HFEED
  unfold ptrV
  go_enter Tryz.func8, Tryz.ntmps8
  go_wp2_with fail
  refine HFEED.out.mono ?_
  rintro _ w5 ⟨ov, out, pv', tp', rfl, P5, L5, ho5, ap5, k5, m5⟩
  have hBw := Nat.le_trans hpl.1 (Nat.le_of_lt hpl.2)
  have o5 := mine_only k5
  have hS5 := HH.out.only o5 (HAP.out sb (.head _)) (fun x hx => HAP.out x (.tail _ hx))
  have hs5 := o5.size
  have hBl5 : Below B w w5 := o5.below hBw fun x hx => (HP.out.lt x (mem_mineL.1 hx)).1
  have hap5 : ∀ x ∈ sb :: F, x ∉ mineL pb db pv' tp' := fun x hx hm => by
    rcases m5 x (mem_mineL.1 hm) with q | q
    · exact HAP.out x hx (mem_mineL.2 q)
    · rcases List.mem_cons.1 hx with rfl | hx
      · omega
      · have := HFL.out x hx
        omega
  rw [HRUN.out] at P5 ho5
  have hol : out.length = told.length := by
    have := congrArg List.length ho5
    simpa [Vt.outs] using this
  have hget : ∀ k (hk : k < out.length) (hk2 : k < told.length), out[k].1 = told[k] := fun k hk hk2 => by
    have h1 := Vt.outs_get hk (by simpa [Vt.outs] using hk)
    simp only [ho5] at h1
    exact h1.symm
  obtain ⟨A1, c1, rfl⟩ := Vt.own_slice L5.1
  have hn : out.length ≤ 1000000 := by omega
  have HO5 : Hid (Only (sb :: F ++ mineL pb db pv tp) w w5) := Lib.hid (o5.mono fun x hx => List.mem_append_right _ hx)
  have HG := Lib.hid hget
  have HS5 := Lib.hid hS5
  have HL5 := Lib.hid L5
  have HP5 := Lib.hid P5
  have HB5 := Lib.hid hBl5
  have HAP5 := Lib.hid hap5
  have HOL := Lib.hid hol
  clear hget hS5 P5 hBl5 hap5 ho5 m5 ap5 HFEED HRUN HH HAP k5 o5 hol hll L5 htl
  go_wp2_with fail
  go_loopw [5, 17] (fun v i wr => ∃ k F', k ≤ out.length ∧ i = .int .i64 (k : Int) ∧ AnsAt wr w5.heap.size v (catP an k) ∧ (∀ b, v.ownBlock = some b → b ∉ sb :: F' ∧ b < wr.heap.size) ∧ SG wr sb g F' c lim (Ms k).past (Ms k).rows (ptrV pb) tv (Ms k).S ∧ Went (sb :: F) (sb :: F') w5 wr) (fun _ i _ => out.length - (intOf i).toNat)
  case atStart => exact ⟨0, F, Nat.zero_le _, rfl, World.ownsRow_nil _ _ _ _, (fun b hb => by cases hb), HS5.out, fun x hx => .inl hx, Only.refl _ _⟩
  case round =>
    obtain ⟨k, F', hk, rfl, hAv, hvb, hS, hW⟩ := hrel
    obtain ⟨Av, cv, rfl⟩ := Vt.own_slice hAv
    have hO := hW.only
    by_cases hlt : k < out.length
    · have hkt : k < told.length := by have := HOL.out; omega
      have hown : wr.ownsRow w.heap.size 65 6 (.slice A1 out.length c1) out.length (Vt.flat out) := (⟨hO.os, hO.tape, hO.output, hO.size, fun i hi hn => hO.block i hi hn⟩ : Kept w5 wr (· ∈ sb :: F)).owns HL5.out.1 fun i hi hm => by
        have := (HL5.out.1.lt i hi).1
        rcases List.mem_cons.1 hm with rfl | hm
        · omega
        · have := HFL.out i hm
          omega
      obtain ⟨g2, rfl⟩ := Vt.own_addr hown (by omega)
      have hgk := HG.out k hlt hkt
      have e0 := Vt.acts_cell hown k hlt
      have hI5 := HL5.out.2 out[k] (List.getElem_mem hlt)
      have hIr : Vt.Ints wr w.heap.size out[k].2 out[k].1.ps := ints_only hI5 hO fun i hi hm => by
        have := (hI5.lt i hi).1
        rcases List.mem_cons.1 hm with rfl | hm
        · omega
        · have := HFL.out i hm
          omega
      generalize out[k] = t at *
      obtain ⟨a, u⟩ := t
      simp only at hgk hIr
      subst hgk
      obtain ⟨A2, c2, rfl⟩ := Vt.own_slice hIr
      have hdk := HDO.out k hkt
      generalize told[k] = a at *
      have x0 : wr.cell? ⟨g2, k * 6, none⟩ = some (.int .i64 a.k) := e0 0 (by omega)
      have x1 : wr.cell? ⟨g2, k * 6 + 1, none⟩ = some (.int .i32 a.r) := e0 1 (by omega)
      have x2 : wr.cell? ⟨g2, k * 6 + 2, none⟩ = some (.int .u8 a.b) := e0 2 (by omega)
      have x3 : wr.cell? ⟨g2, k * 6 + 3, none⟩ = some (.slice A2 a.ps.length c2) := e0 3 (by omega)
      have x4 : wr.cell? ⟨g2, k * 6 + 4, none⟩ = some (.string (Vt.bs a.it)) := e0 4 (by omega)
      have x5 : wr.cell? ⟨g2, k * 6 + 5, none⟩ = some (.string (Vt.bs a.tx)) := e0 5 (by omega)
      have i1 : (0 : Int) ≤ (k : Int) := by omega
      have i2 : (k : Int) < (out.length : Int) := by omega
      have hBF : ∀ x ∈ sb :: F, B ≤ x := fun x hx => by
        rcases List.mem_cons.1 hx with rfl | hx
        · exact hsb
        · exact HFB.out x hx
      have hB5 : B ≤ w5.heap.size := by omega
      have hr5 := hO.size
      have hBwr : B ≤ wr.heap.size := Nat.le_trans hB5 hr5
      have hF' : ∀ x ∈ F', B ≤ x := fun x hx => by
        rcases hW.foot x (.tail _ hx) with q | q
        · exact hBF x q
        · omega
      have hBV := HB5.out.trans (hO.below hB5 hBF)
      have hV : Below wr.heap.size wr (wr.alloc (.cells #[.int .i64 a.k, .int .i32 a.r, .int .u8 a.b, .slice A2 a.ps.length c2, .string (Vt.bs a.it), .string (Vt.bs a.tx)] 65)) := (Below.refl _ _).alloc (Nat.le_refl _) _
      have hrd : Ready B sb g c lim (ptrV pb) tv (Ms k) a wr F' (.slice A2 a.ps.length c2) w.heap.size := ⟨hS, HT.out.below hBV (Nat.le_refl _), HTA.out.below hBV (Nat.le_refl _), hBwr, hF', hsb, hIr⟩
      have hdo := hdk _ F' _ _ (hrd.below hV)
      have hWV : Went (sb :: F) (sb :: F') w5 (wr.alloc (.cells #[.int .i64 a.k, .int .i32 a.r, .int .u8 a.b, .slice A2 a.ps.length c2, .string (Vt.bs a.it), .string (Vt.bs a.tx)] 65)) := hW.trans ⟨fun x hx => .inl hx, Only.of_below hV⟩
      have hAV : AnsAt (wr.alloc (.cells #[.int .i64 a.k, .int .i32 a.r, .int .u8 a.b, .slice A2 a.ps.length c2, .string (Vt.bs a.it), .string (Vt.bs a.tx)] 65)) w5.heap.size (.slice Av (catP an k).length cv) (catP an k) := own_only hAv (F := []) (Only.of_below hV) (by simp)
      have hVs : wr.heap.size ≤ (wr.alloc (.cells #[.int .i64 a.k, .int .i32 a.r, .int .u8 a.b, .slice A2 a.ps.length c2, .string (Vt.bs a.it), .string (Vt.bs a.tx)] 65)).heap.size := hV.size
      have HDO2 := Lib.hid hdo
      have HWV := Lib.hid hWV
      have HAV := Lib.hid hAV
      have HVB := Lib.hid hvb
      have hc1 := HCAT.out k (by omega)
      have hc2 := HANT.out k hkt
      clear e0 hdo hWV hW hS hO hown hBV hF' hBF hdk hIr hI5 hAv hAV hvb hrd hV
      go_wp2_with fail
      generalize wr.alloc (.cells #[.int .i64 a.k, .int .i32 a.r, .int .u8 a.b, .slice A2 a.ps.length c2, .string (Vt.bs a.it), .string (Vt.bs a.tx)] 65) = V at *
      refine HDO2.out.mono ?_
      rintro _ w7 ⟨av, rfl, hA7, F7, hS7, hW7⟩
      obtain ⟨A7, c7, rfl⟩ := Vt.own_slice hA7
      have hF7 := hS7.grd.lt
      have hs7 := hS7.blk.lt
      have hV7 := hW7.only.size
      have hAw : w7.ownsRow w5.heap.size 5 1 (.slice Av (catP an k).length cv) (catP an k).length (bytV (catP an k)) := own_only HAV.out hW7.only fun b hb => (HVB.out b hb).1
      have hb7 : w5.heap.size ≤ w7.heap.size := Nat.le_trans hr5 (Nat.le_trans hVs hV7)
      have hl7 : (catP an k).length + (an k).length ≤ 1000000 := by omega
      have hA7' : w7.ownsRow V.heap.size 5 1 (.slice A7 (an k).length c7) (an k).length (bytV (an k)) := hA7
      have hfoot : ∀ x ∈ F7, x ∈ F' ∨ wr.heap.size ≤ x := fun x hx => by
        rcases hW7.foot x (.tail _ hx) with q | q
        · rcases List.mem_cons.1 q with rfl | q
          · exact absurd hx hS7.far
          · exact .inl q
        · right; omega
      have HS7 := Lib.hid hS7
      have HW7 := Lib.hid (HWV.out.trans hW7)
      have HF7 := Lib.hid hF7
      have HFO := Lib.hid hfoot
      clear hS7 hW7 hA7 hF7 hfoot
      go_wp2_with (at_builtin; refine wpList_append_bb rfl (.tmp 21) (.tmp 24) rfl w5.heap.size V.heap.size (.slice Av (catP an k).length cv) (.slice A7 (an k).length c7) (catP an k) (an k) rfl hAw rfl hA7' hb7 hl7 ?_; intro v8 w8 hown8 hk8 hat8; rw [catP_succ] at hown8)
      have hK : Only ((Value.slice Av (catP an k).length cv).ownBlock.toList) w7 w8 := ⟨hk8.os, hk8.tape, hk8.output, hk8.size, fun i hi hn => hk8.block i hi fun e => hn (by rw [e]; simp)⟩
      have hKm : ∀ x, x ∈ (Value.slice Av (catP an k).length cv).ownBlock.toList → (Value.slice Av (catP an k).length cv).ownBlock = some x := fun x hx => by simpa [Option.mem_toList] using hx
      have hS8 := HS7.out.only hK (fun hx => (HVB.out sb (hKm sb hx)).1 (.head _)) (fun x hx hx2 => by
        obtain ⟨v1, v2⟩ := HVB.out x (hKm x hx2)
        rcases HFO.out x hx with q | q
        · exact v1 (.tail _ q)
        · omega)
      have hW8 : Went (sb :: F) (sb :: F7) w5 w8 := ⟨HW7.out.foot, HW7.out.only.trans2 hK fun x hx => .inr (hAw.lt x (hKm x hx)).1⟩
      have hv8 : ∀ b, v8.ownBlock = some b → b ∉ sb :: F7 ∧ b < w8.heap.size := fun b hb => by
        refine ⟨fun hm => ?_, (hown8.lt b hb).2⟩
        rcases hat8 with q | ⟨j, q, hj⟩
        · rw [hb] at q
          obtain ⟨v1, v2⟩ := HVB.out b q.symm
          rcases List.mem_cons.1 hm with rfl | hm
          · exact v1 (.head _)
          · rcases HFO.out b hm with q2 | q2
            · exact v1 (.tail _ q2)
            · omega
        · rw [hb] at q
          obtain rfl := Option.some.inj q
          rcases List.mem_cons.1 hm with rfl | hm
          · omega
          · have := HF7.out b hm
            omega
      have HS8 := Lib.hid hS8
      have HW8 := Lib.hid hW8
      have HV8 := Lib.hid hv8
      have HO8 := Lib.hid hown8
      clear hS8 hW8 hv8 hown8 hK hKm hat8 hk8
      go_wp2_with fail
      go_roundw
      case rel => exact ⟨k + 1, F7, by omega, by go_num, HO8.out, HV8.out, HS8.out, HW8.out⟩
      case measure => simp [intOf]; omega
    · have e : k = out.length := by omega
      have hkt : k = told.length := by have := HOL.out; omega
      subst hkt
      have i3 : ¬ (told.length : Int) < (out.length : Int) := by omega
      clear e
      have s0 : wr.cell? ⟨sb, 0, none⟩ = some (.pointer (some ⟨pb, 0, none⟩)) := hS.blk.cell 0
      have sf := hS.blk.frozen 0
      have hbk : scB (wr.setCell ⟨sb, 0, none⟩ (.pointer (some ⟨pb, 0, none⟩))) sb (ptrV pb) g none tv (Ms told.length).S := hS.blk.set_ 0 (.pointer (some ⟨pb, 0, none⟩))
      have hos := one_set wr sb 0 (.pointer (some ⟨pb, 0, none⟩))
      have hSf := hS.turn hbk hos
      have hBF : ∀ x ∈ sb :: F, B ≤ x := fun x hx => by
        rcases List.mem_cons.1 hx with rfl | hx
        · exact hsb
        · exact HFB.out x hx
      have hB5 : B ≤ w5.heap.size := by omega
      have hr5 := hO.size
      have hPf := (HP5.out.keep (only_kept hO) (fun i hi hm => HAP5.out i hm (mem_mineL.2 hi))).keep (only_kept hos) (fun i hi hm => HAP5.out i (by rw [List.mem_singleton] at hm; rw [hm]; exact .head _) (mem_mineL.2 hi))
      have hdis : ∀ x ∈ sb :: F', x ∉ mineL pb db pv' tp' := fun x hx hm => by
        rcases hW.foot x hx with q | q
        · exact HAP5.out x q hm
        · have := (HP5.out.lt x (mem_mineL.1 hm)).2
          omega
      have hft : ∀ x ∈ F', x ∈ F ∨ w.heap.size ≤ x := fun x hx => by
        rcases hW.foot x (.tail _ hx) with q | q
        · rcases List.mem_cons.1 q with rfl | q
          · exact absurd hx hS.far
          · exact .inl q
        · right; omega
      have hBf := (HB5.out.trans (hO.below hB5 hBF)).trans (hos.below (Nat.le_trans hB5 hr5) (by simpa using hsb))
      have hAf : AnsAt (wr.setCell ⟨sb, 0, none⟩ (.pointer (some ⟨pb, 0, none⟩))) w.heap.size (.slice Av (catP an told.length).length cv) (catP an told.length) := by
        have h1 := own_only hAv hos fun b hb hm => (hvb b hb).1 (by rw [List.mem_singleton] at hm; rw [hm]; exact .head _)
        exact ⟨h1.1, h1.2.imp id fun ⟨g1, c1, u1, e1, e2, e3⟩ => ⟨g1, c1, u1, e1, by omega, e3⟩⟩
      have hOf : Only (sb :: F ++ mineL pb db pv tp) w (wr.setCell ⟨sb, 0, none⟩ (.pointer (some ⟨pb, 0, none⟩))) := (HO5.out.trans (hO.mono fun x hx => List.mem_append_left _ hx)).trans (hos.mono fun x hx => by rw [List.mem_singleton] at hx; rw [hx]; simp)
      have hfin : FedG w (wr.setCell ⟨sb, 0, none⟩ (.pointer (some ⟨pb, 0, none⟩))) sb g F c lim B pb db pv tp tv (Ms told.length) S1 (.slice Av (catP an told.length).length cv) (catP an told.length) := ⟨hAf, hOf, F', pv', tp', hSf, hPf, hdis, hft, hBf⟩
      have HFIN := Lib.hid hfin
      clear hfin hSf hPf hdis hft hBf hos hbk hS hW hO hBF hAf hAv hvb hOf
      go_wp2_with fail
      go_ret
      exact ⟨_, rfl, HFIN.out⟩
/-- A plain rune, done. -/
theorem do_rune {b : Nat} {M : MP} (hI : Inky c b M) (r : Int) (hr0 : 32 ≤ r) (hr1 : r ≤ 126) (hwd : width r = 1) : DoIs B sb g c lim (ptrV pb) tv M (inkP c lim b M r) (Vt.prt r) [] := by
  intro V F2 pv2 B2 h
  obtain ⟨A, cA, rfl⟩ := Vt.own_slice h.nums
  refine (do_ink h.scr h.tab h.base h.far h.own hI r hr0 hr1 hwd 0 A _ cA (Vt.bs []) (Vt.bs [])).mono ?_
  rintro e w' ⟨he, F', hS, hW⟩
  exact ⟨_, he, World.ownsRow_nil _ _ _ _, F', hS, hW⟩
theorem catP_none (k : Nat) : catP (fun _ => []) k = [] := by
  unfold catP
  simp
/-- Feed of plain bytes. -/
theorem feed_runes {b : Nat} {M : MP} (h : SG w sb g F c lim M.past M.rows (ptrV pb) tv M.S) (P : Vt.PAt w B pb db pv tp Vt.ps0) (ht : Grd.Tabs B w) (hta : TabA B w) (htv : Cel.Tabs w) (hlow : Cel.low ≤ B) (hF : ∀ x ∈ F, B ≤ x) (hsb : B ≤ sb) (hap : ∀ x ∈ sb :: F, x ∉ mineL pb db pv tp) (hI : Inky c b M)
    (l : List UInt8) (hl : ∀ u ∈ l, 32 ≤ u.toNat ∧ u.toNat ≤ 126 ∧ width (u.toNat : Int) = 1) (A : Option Addr) (cp : Nat) (hb1 : Below w.heap.size w w1) (hin : Vt.InB w1 A l) (hnew : ∀ g o, A = some ⟨g, o, none⟩ → tp.ownBlock ≠ some g) (hll : l.length ≤ 1000000) :
    Calls Tryz.prog 8 #[ptrV sb, .slice A l.length cp] w1 fun e w' => ∃ ov, e = .returned ov ∧ FedG w w' sb g F c lim B pb db pv tp tv (inkAll c lim b M (runesI l)) Vt.ps0 ov [] := by
  have hc := h.grd.bd.c1
  have hrl : (runesI l).length = l.length := List.length_map _
  have hrun := run_plain l fun u hu => ⟨(hl u hu).1, (hl u hu).2.1⟩
  have htl : (l.map fun u => Vt.prt (u.toNat : Int)).length = l.length := List.length_map _
  refine (feed_gen (fun k => inkAll c lim b M ((runesI l).take k)) (fun _ => []) (by simpa [inkAll] using h) P ht hta htv hlow hF hsb hap l _ hrun (fun k hk => ?_) (fun k _ => by rw [catP_none]; simp) (fun k _ => by simp) (by rw [htl]; exact hll) A cp hb1 hin hnew hll).mono ?_
  · rw [htl] at hk
    rw [List.getElem_map]
    obtain ⟨a1, a2, a3⟩ := hl l[k] (List.getElem_mem hk)
    have hs := inkAll_succ c lim b M (runesI l) k (by rw [hrl]; exact hk)
    have hg : (runesI l)[k]'(by rw [hrl]; exact hk) = (l[k].toNat : Int) := by unfold runesI; rw [List.getElem_map]
    rw [hg] at hs
    show DoIs B sb g c lim (ptrV pb) tv (inkAll c lim b M ((runesI l).take k)) (inkAll c lim b M ((runesI l).take (k + 1))) (Vt.prt (l[k].toNat : Int)) []
    rw [← hs]
    exact do_rune (inkAll_fit hc _ hI) _ (by omega) (by omega) a3
  · rintro e w' ⟨ov, he, hG⟩
    rw [catP_none, htl, show (runesI l).take l.length = runesI l from by rw [← hrl, List.take_length]] at hG
    exact ⟨ov, he, hG⟩
end
end Go.Proofs.YtjklnnklgkihlaaGreatDoor.Scr
