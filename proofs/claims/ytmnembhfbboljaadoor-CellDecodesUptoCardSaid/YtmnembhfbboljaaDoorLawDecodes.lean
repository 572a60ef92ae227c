/- CellDecodes, for texts of bulk at most 1048576: bytes fed one by one, ended, and more bytes, and each text at once, are the runes of the document; the program's tables are tied to its text. -/
import Derived.Test.YtmnembhfbboljaaDoorApp
import Derived.Test.YtmnembhfbboljaaDoorLaid
import Derived.Test.YtmnembhfbboljaaDoorPost
import Derived.ShutString
namespace Go.Proofs.YtmnembhfbboljaaDoor.Cel
open Go.RowKit Go.ChangeShapes Go.WideShapes Go.ChangeAt
open Go.ChangeMaps (open_string)

/-- A rune of a list of the call's own, written over. -/
theorem Owns.store {w : World} {base : Nat} {v : Value} {l : List Int} (h : Owns w base v l) {j : Nat} (hj : j < l.length) (x : Int) :
    ∃ g c, v = .slice (some ⟨g, 0, none⟩) l.length c ∧ v.ownBlock = some g ∧ w.cell? ⟨g, j, none⟩ = some (.int .i32 (l.getD j 0)) ∧ w.frozen? ⟨g, j, none⟩ = false ∧ Owns (w.setCell ⟨g, j, none⟩ (.int .i32 x)) base v (l.set j x) := by
  have hc := h
  rcases h.2 with ⟨rfl, h0⟩ | ⟨g, cap, cur, rfl, hg, hh, hn, hm, hs, ht⟩
  · omega
  · have hcell := hc.cells (g := g) rfl j (.int .i32 (l.getD j 0)) (by simp [zs, List.getD, List.getElem?_eq_getElem hj])
    have e2 : (⟨g, 0, none⟩ : Addr).add j = ⟨g, j, none⟩ := by unfold Addr.add; split <;> simp_all
    rw [e2] at hcell
    refine ⟨g, cap, rfl, rfl, hcell, by simp [World.frozen?, hh], ?_⟩
    have hlen : (l.set j x).length = l.length := by simp
    show World.ownsRow _ _ _ _ _ (l.set j x).length _
    rw [hlen]
    refine ⟨by simp [zs], .inr ⟨g, cap, cur.setIfInBounds j (.int .i32 x), rfl, hg, by simp [World.setCell, Array.getElem?_modify, hh], hn, hm, by simpa using hs, ?_⟩⟩
    rw [Nat.mul_one] at ht ⊢
    rw [Array.toList_setIfInBounds, List.take_set, ht]
    simp [zs, List.map_set]

theorem pending_zero (db : Nat) (w : World) (hd : At w db zero) :
    Calls Tryd.prog 11 #[.pointer (some ⟨db, 0, none⟩)] w fun e w' => e = .returned (.int .i64 0) ∧ w = w' := pending_any db zero w hd
theorem lost_facts {d : Dec} (h : 0 ≤ d.p) : (d.p = 0 ∧ lost d = []) ∨ (0 < d.p ∧ lost d = [65533]) := by
  by_cases hp : d.p = 0
  · exact .inl ⟨hp, by unfold lost; rw [if_pos hp]⟩
  · exact .inr ⟨by omega, by unfold lost; rw [if_neg hp]⟩

set_option maxRecDepth 100000 in
set_option maxHeartbeats 4000000 in
theorem lawDecodes_walk (s more : ByteArray) (w : World) (ht : Tabs w) (hlow : low ≤ w.heap.size) (hs : s.size ≤ 1048576) (hm : more.size ≤ 1048576) :
    Calls Tryd.prog 3 #[.string s, .string more] w fun e w' => e = .returned (.bool true) ∧ Below w.heap.size w w' := by
  go_enter Tryd.func3, Tryd.ntmps3
  go_wp2_with fail
  refine (shown_any w ht hlow).mono ?_
  rintro e w1 ⟨rfl, hb1⟩
  have hs1 := hb1.size
  go_wp2_with fail
  refine (new_any w1).mono ?_
  rintro e w2 ⟨rfl, hw2⟩
  have hd2 : At (w1.alloc (.cells zero.cells 45)) w1.heap.size zero := Blk.new _ _ _
  have hb2 : Below w.heap.size w (w1.alloc (.cells zero.cells 45)) := hb1.alloc hs1 _
  have hz2 : (w1.alloc (.cells zero.cells 45)).heap.size = w1.heap.size + 1 := by simp
  rw [hw2] at hd2 hb2 hz2
  clear hw2
  have hs2 := hb2.size
  go_wp2_with fail
  refine (pending_zero w1.heap.size w2 hd2).mono ?_
  rintro e w2' ⟨rfl, rfl⟩
  have hD : w1.heap.size < w2.heap.size := by omega
  have HZ2 := Lib.hid hz2
  clear hz2
  go_wp2_with fail
  have hT0 : Blk (w2.alloc (.cells #[.string s, .string more] 9)) w2.heap.size 9 #[.string s, .string more] := Blk.new _ _ _
  go_loopw [8] (fun k wr => ∃ i : Nat, i ≤ 2 ∧ k = .int .i64 i ∧ At wr w1.heap.size zero ∧ Blk wr w2.heap.size 9 #[.string s, .string more] ∧ Below w.heap.size w wr) (fun k _ => 2 - (intOf k).toNat)
  case atStart => exact ⟨0, by omega, rfl, hd2.alloc _, hT0, hb2.alloc hs2 _⟩
  case round =>
    obtain ⟨k, hk, rfl, hd, hT, hb⟩ := hrel
    obtain ⟨wo, rfl⟩ : ∃ wo : World, wo = wr := ⟨_, rfl⟩
    have hbs := hb.size
    have hTl := hT.lt
    by_cases hlt : k < 2
    · obtain ⟨t, hct, htz⟩ : ∃ t : ByteArray, wo.cell? ⟨w2.heap.size, k, none⟩ = some (.string t) ∧ t.size ≤ 1048576 := by
        have hk2 : k = 0 ∨ k = 1 := by omega
        rcases hk2 with rfl | rfl
        · exact ⟨s, hT.cell 0, hs⟩
        · exact ⟨more, hT.cell 1, hm⟩
      have htlen : t.data.toList.length = t.size := by rw [Array.length_toList]; rfl
      have KL := Lib.hid htlen
      clear htlen
      have i1 : (0 : Int) ≤ (k : Int) := by omega
      have i2 : (k : Int) < 2 := by omega
      go_wp2_with fail
      go_loopw [9, 11] (fun v i wr => ∃ j : Nat, j ≤ t.size ∧ i = .int .i64 j ∧ At wr w1.heap.size (run zero (t.data.toList.take j)).1 ∧ Owns wr wo.heap.size v (run zero (t.data.toList.take j)).2 ∧ Kept wo wr (fun q => q = w1.heap.size)) (fun _ i _ => t.size - (intOf i).toNat)
      case atStart => exact ⟨0, Nat.zero_le _, rfl, hd, owns_nil _ _, Kept.refl _ _⟩
      case round =>
        obtain ⟨j, hj, rfl, hat, ho, hkj⟩ := hrel
        obtain ⟨wi, rfl⟩ : ∃ wi : World, wi = wr := ⟨_, rfl⟩
        have hti := run_inv (t.data.toList.take j) zero inv_zero
        have htc := run_count (t.data.toList.take j) zero inv_zero
        have htl : (t.data.toList.take j).length ≤ j := List.length_take_le _ _
        have hp0 : pend zero = 0 := by simp [pend, zero]
        have hbj : Below w.heap.size w wi := hb.trans (hkj.below hbs fun q hq hh => by omega)
        have htrj : Tabs wi := ht.below hbj hlow
        have hsj := hkj.size
        by_cases hjs : j < t.size
        · have hby := byte_le t[j]
          have HT : Hid (run zero (t.data.toList.take (j + 1)) = ((step (run zero (t.data.toList.take j)).1 (t[j].toNat : Int)).1, (run zero (t.data.toList.take j)).2 ++ (step (run zero (t.data.toList.take j)).1 (t[j].toNat : Int)).2)) := by
            show _ = _
            rw [take_succ_bytes t j hjs, run_snoc]
          have hsc := step_count (run zero (t.data.toList.take j)).1 (t[j].toNat : Int)
          have hpd : pend (run zero (t.data.toList.take j)).1 ≤ 1 := by unfold pend; split <;> omega
          have hg := feed_any _ hti.1 w1.heap.size (t[j].toNat : Int) wi htrj hat (Nat.le_trans hlow hbj.size) (Nat.le_trans hlow hs1) hby.1 hby.2
          have hstl : (step (run zero (t.data.toList.take j)).1 (t[j].toNat : Int)).2.length ≤ 2 := by omega
          have hrl : (run zero (t.data.toList.take j)).2.length ≤ 1099511627000 := by omega
          clear hti htc htl hp0 hsc hpd
          generalize step (run zero (t.data.toList.take j)).1 (t[j].toNat : Int) = q at *
          generalize (run zero (t.data.toList.take j)).2 = R at *
          obtain ⟨d', o'⟩ := q
          simp only at hg hstl HT
          go_wp2_with fail
          refine hg.mono ?_
          rintro e w4 ⟨v4, rfl, h1, h2, h3⟩
          obtain ⟨A4, c4, rfl, _, _⟩ := Owns.rd h2
          have hs4 := h3.size
          have ho4 := h3.owns ho fun q hq hh => by have := (ho.lt q hq).1; omega
          have hlen2 : R.length + o'.length ≤ 1099511627776 := by omega
          go_wp2_with (at_builtin; refine wpList_append_list rfl (.tmp 57) (.tmp 58) rfl wo.heap.size _ _ (.slice A4 o'.length c4) R o' rfl ho4 rfl h2 (Nat.le_trans hsj hs4) hlen2 ?_; intro v5 w5 ho5 hk5 hat5)
          have hat5' := hk5.blk h1 fun hh => by have := (ho4.lt _ hh).1; omega
          have h25 := hk5.owns h2 fun q hq hh => by
            have e1 := (h2.lt q hq).1
            have e2 := (ho.lt q hh).2
            omega
          have hk15 : Kept wo w5 (fun q => q = w1.heap.size) := (hkj.trans h3 fun q _ hh => hh).trans hk5 fun q hq hh => by have := (ho4.lt q hh).1; omega
          have hne : ∀ q, (Value.slice A4 o'.length c4).ownBlock = some q → wi.heap.size ≤ q ∧ q < w4.heap.size ∧ v5.ownBlock ≠ some q := fun q hq => by
            have e1 := h2.lt q hq
            refine ⟨e1.1, e1.2, fun hh => ?_⟩
            rcases hat5 with h | ⟨z, h, hz⟩
            · rw [h] at hh
              have e2 := (ho.lt q hh).2
              omega
            · rw [h] at hh
              injection hh with hh
              omega
          have HNE := Lib.hid hne
          clear hne h2 ho4 hat5 hk5 h1 h3 hg
          have hs5 := hk15.size
          go_loopw [13] (fun i wr => ∃ (m : Nat) (X : List Int), m ≤ o'.length ∧ i = .int .i64 m ∧ Hid (X.length = o'.length) ∧ Owns wr wi.heap.size (.slice A4 o'.length c4) X ∧ Kept w5 wr (fun q => (Value.slice A4 o'.length c4).ownBlock = some q)) (fun i _ => o'.length - (intOf i).toNat)
          case atStart => exact ⟨0, o', Nat.zero_le _, rfl, rfl, h25, Kept.refl _ _⟩
          case round =>
            obtain ⟨m, X, hm', rfl, HX, hoX, hkX⟩ := hrel
            by_cases hmo : m < o'.length
            · obtain ⟨g, c', hv, hvb, hcell, hfrz, hst⟩ := hoX.store (show m < X.length by rw [HX.out]; exact hmo) 120
              injection hv with hA _ _
              subst hA
              have hkS := hkX.setCell (a := ⟨g, m, none⟩) rfl (.int .i32 120)
              have i3 : (0 : Int) ≤ (m : Int) := by omega
              have i4 : (m : Int) < (o'.length : Int) := by omega
              clear hvb
              go_wp2_with fail
              go_roundw
              case rel => exact ⟨m + 1, X.set m 120, by omega, by go_num, by show _ = _; rw [List.length_set, HX.out], hst, hkS⟩
              case measure => simp [intOf]; omega
            · go_wp2_with fail
              go_roundw
              case rel =>
                refine ⟨j + 1, by omega, by go_num, ?_, ?_, hk15.trans hkX fun q hq hh => by have := HNE.out q hh; omega⟩
                · rw [HT.out]
                  exact hkX.blk hat5' fun hh => by have := HNE.out _ hh; omega
                · rw [HT.out]
                  exact hkX.owns ho5 fun q hq hh => (HNE.out q hh).2.2 hq
              case measure => simp [intOf]; omega
        · have HT : Hid (t.data.toList.take j = t.data.toList) := by show _ = _; exact List.take_of_length_le (by rw [KL.out]; omega)
          rw [HT.out] at hat ho hti
          have hiv := hti.1
          have hp := hiv.bd.p0
          have hpf := lost_facts hp
          have hwh := whole_any t wi (by omega)
          have hrl : (run zero t.data.toList).2.length ≤ 1099511627000 := by rw [HT.out] at htc htl; omega
          have hrunes : (runes t.data.toList).length ≤ 1099511627776 := by have h1 := runes_length t.data.toList; have h2 := KL.out; omega
          clear hti htc htl hp0 hj
          generalize hrz : run zero t.data.toList = q at *
          clear hrz
          obtain ⟨d', R⟩ := q
          simp only at hat ho hiv hp hpf hwh hrl
          have hlowi := Nat.le_trans hlow hbj.size
          go_wp2_with fail
          refine hwh.mono ?_
          rintro e w5 ⟨v5, rfl, ho5, h5⟩
          have hoR := (below_kept h5 fun _ => False).owns ho fun _ _ h => h
          go_wp2_with fail
          refine (same_owned _ _ _ _ R R w5 hoR ho5 (by omega) true (by simp)).mono ?_
          rintro e w6 ⟨rfl, h6⟩
          have h56 := h5.trans (h6.mono h5.size)
          have hat6 := hat.below h56 hat.lt
          go_wp2_with fail
          refine (pending_any w1.heap.size d' w6 hat6).mono ?_
          rintro e w6' ⟨rfl, rfl⟩
          go_wp2_with fail
          refine (end_any d' hiv w1.heap.size w6 hat6).mono ?_
          rintro e w7 ⟨v7, rfl, hat7, ho7, hk7⟩
          have hk17 : Kept wo w7 (fun q => q = w1.heap.size) := (hkj.trans (below_kept h56 fun q => q = w1.heap.size) fun q _ hh => hh).trans hk7 fun q _ hh => hh
          have hb7 : Below w.heap.size w w7 := hb.trans (hk17.below hbs fun q hq hh => by omega)
          have hpend := pending_zero w1.heap.size w7 hat7
          have hrA := runes_any t w7 (ht.below hb7 hlow) (Nat.le_trans hlow hb7.size) (by omega)
          have hrB := fun w8 => runesRef_any t w8 (by omega)
          have HRA := Lib.hid hrA
          have HRB := Lib.hid hrB
          have HP := Lib.hid hpend
          clear hrA hrB hpend hwh hoR ho5 h5 h6
          have fin : ∀ w8, Below w7.heap.size w7 w8 → At w8 w1.heap.size zero ∧ Blk w8 w2.heap.size 9 #[.string s, .string more] ∧ Below w.heap.size w w8 := fun w8 h8 => by
            refine ⟨hat7.below h8 hat7.lt, ?_, hb7.trans (h8.mono hb7.size)⟩
            have hT7 := hk17.blk hT fun hh => by omega
            exact hT7.below h8 hT7.lt
          have FIN := Lib.hid fin
          clear fin
          rcases hpf with ⟨hp1, hlo⟩ | ⟨hp1, hlo⟩
          · rw [hlo] at ho7
            obtain ⟨A7, c7, rfl, _, _⟩ := Owns.rd ho7
            have hpb : (d'.p == 0) = true := by simp [hp1]
            have hpn : ¬ 0 < d'.p := by omega
            clear ho7 hlo
            go_wp2_with fail
            refine HP.out.mono ?_
            rintro e w7' ⟨rfl, rfl⟩
            go_wp2_with fail
            refine HRA.out.mono ?_
            rintro e w8 ⟨v8, rfl, ho8, h8⟩
            go_wp2_with fail
            refine (HRB.out w8).mono ?_
            rintro e w9 ⟨v9, rfl, ho9, h9⟩
            have h79 := h8.trans (h9.mono h8.size)
            have ho89 := (below_kept h9 fun _ => False).owns ho8 fun _ _ h => h
            go_wp2_with fail
            refine (same_owned v8 v9 _ _ _ _ w9 ho89 ho9 hrunes true (by simp)).mono ?_
            rintro e w10 ⟨rfl, h10⟩
            have F := FIN.out w10 (h79.trans (h10.mono h79.size))
            clear h79 h10 ho89 ho8 ho9 h8 h9
            go_wp2_with fail
            go_roundw
            case rel => exact ⟨k + 1, by omega, by go_num, F.1, F.2.1, F.2.2⟩
            case measure => simp [intOf]; omega
          · rw [hlo] at ho7
            have h77 := ho7.store (show 0 < [(65533 : Int)].length by simp) 0
            obtain ⟨g7, c7, rfl, _, hc7, _, _⟩ := h77
            clear ho7 hlo
            go_wp2_with fail
            refine HP.out.mono ?_
            rintro e w7' ⟨rfl, rfl⟩
            go_wp2_with fail
            refine HRA.out.mono ?_
            rintro e w8 ⟨v8, rfl, ho8, h8⟩
            go_wp2_with fail
            refine (HRB.out w8).mono ?_
            rintro e w9 ⟨v9, rfl, ho9, h9⟩
            have h79 := h8.trans (h9.mono h8.size)
            have ho89 := (below_kept h9 fun _ => False).owns ho8 fun _ _ h => h
            go_wp2_with fail
            refine (same_owned v8 v9 _ _ _ _ w9 ho89 ho9 hrunes true (by simp)).mono ?_
            rintro e w10 ⟨rfl, h10⟩
            have F := FIN.out w10 (h79.trans (h10.mono h79.size))
            clear h79 h10 ho89 ho8 ho9 h8 h9
            go_wp2_with fail
            go_roundw
            case rel => exact ⟨k + 1, by omega, by go_num, F.1, F.2.1, F.2.2⟩
            case measure => simp [intOf]; omega
    · go_wp2
      go_ret
      exact ⟨rfl, hb⟩

namespace LawCellDecodes
theorem contract (H : Type) (enc : TypeId × Value → H) (W : World) (base : Nat) (args : Array Value) (ds gs : List (DataW H)) (before : List MemPlace)
    (hval : ∀ (j : Nat) t v, Tryd.f3.params[j]? = some t → args[j]? = some v → Value.okWide Tryd.prog W .any base t v)
    (hW : DataW.Whole enc Tryd.prog Tryd.f3.params.toList Rows.cellDecodesSpec.vars false W args.toList ds gs before) (hL : laidMetH Tryd.prog Rows.cellDecodesRow.laid W) (hk : Rows.uptoSmall H (ds ++ gs) = true) :
    Calls Tryd.prog 3 args W fun e W' => ∃ v, e = .returned v ∧ Rows.cellDecodesSpec.post enc Tryd.prog Tryd.f3 false true false false W args v W' := by
  have hW' := hW
  obtain ⟨p, q, hA0, hV, hbefore, hfz, hnd⟩ := hW
  have hA : DataW.TrodAll enc Tryd.prog W 0 (fun _ => true) true Tryd.f3.params.toList args.toList ds p := hA0
  rw [Tryd.params3] at hA hval
  obtain ⟨v0, vs0, d0, ds0, p0, q0, hargs, rfl, rfl, h0, r0⟩ := trodAll_cons hA
  obtain ⟨v1, vs1, d1, ds1, p1, q1, rfl, rfl, rfl, h1, r1⟩ := trodAll_cons r0
  obtain ⟨rfl, rfl, rfl⟩ := trodAll_nil r1
  obtain rfl : args = #[v0, v1] := by cases args; simp_all
  obtain ⟨rfl, rfl⟩ := trodVars_none hV
  have fin : ∀ W' : World, Below W.heap.size W W' → Rows.cellDecodesSpec.post enc Tryd.prog Tryd.f3 false true false false W #[v0, v1] (.bool true) W' := fun W' hb =>
    Post.law_post (by kernel_rfl) (by kernel_rfl) rfl (by kernel_rfl) Tryd.underlying4 hW' rfl hb
  obtain ⟨s, rfl, rfl, rfl, hsm⟩ := open_string Tryd.underlying9 (hval 0 9 v0 rfl rfl) h0
  obtain ⟨m, rfl, rfl, rfl, hmm⟩ := open_string Tryd.underlying9 (hval 1 9 v1 rfl rfl) h1
  have hsz : s.size ≤ 1048576 ∧ m.size ≤ 1048576 := by
    have h : Rows.uptoBulkAll ([DataW.lit (H := H) (.string s.data.toList), .lit (.string m.data.toList)] ++ []) ≤ 1048576 := of_decide_eq_true hk
    simp only [List.append_nil, Rows.uptoBulkAll, Rows.uptoBulk] at h
    have e : s.data.toList.length = s.size := by rw [Array.length_toList]; rfl
    have e2 : m.data.toList.length = m.size := by rw [Array.length_toList]; rfl
    omega
  clear hA0 hA
  refine (lawDecodes_walk s m W (tabs_of hL).1 (tabs_of hL).2 hsz.1 hsz.2).mono fun e W' ⟨he, hg⟩ => ?_
  subst he
  exact ⟨_, rfl, fin W' hg⟩

theorem laid_met (os : Os) : laidMet Tryd.prog Rows.cellDecodesRow.laid ((laidWorld os).forCall (fun _ _ => 0) ⟨#[], #[Value.string .empty, Value.string .empty], []⟩).memory :=
  laidMet_of_run' 8 (by kernel_rfl) (by kernel_rfl)
theorem reads (os : Os) {H : Type} (enc : TypeId × Value → H) : ∃ places, DataW.whole enc Tryd.prog ((laidWorld os).forCall (fun _ _ => 0) ⟨#[], #[Value.string .empty, Value.string .empty], []⟩).memory Tryd.f3.params.toList Rows.cellDecodesSpec.vars false #[Value.string .empty, Value.string .empty].toList 8 = some ([.lit (.string []), .lit (.string [])], [], places) :=
  ⟨[], by kernel_rfl⟩

set_option maxRecDepth 100000 in
theorem lifted (os : Os) (started : os.Started) (H : Type) (enc : TypeId × Value → H) (F : Stop.Interp) :
    ReturnsInHanded {} Tryd.checked os 3 .any ((Rows.OpenSpec.upto Rows.cellDecodesSpec).preRow enc Tryd.prog Tryd.f3 Rows.cellDecodesUptoRow.domain false Rows.cellDecodesUptoRow.laid) (((Rows.OpenSpec.upto Rows.cellDecodesSpec).at F).post enc Tryd.prog Tryd.f3 false true false false) := by
  obtain ⟨places, hx⟩ := reads os enc
  refine returnsInHanded_of_row (C := Tryd.checked) (s := Rows.OpenSpec.upto Rows.cellDecodesSpec) own started (by kernel_rfl) Tryd.func3
    (witness_row_at (enc := enc) (C := Tryd.checked) false (laidWorld os) #[Value.string .empty, Value.string .empty] rfl (by kernel_rfl) (by kernel_rfl) (by kernel_rfl)
      (OpenSpec.preRow_of_cond 8 hx (by kernel_rfl) (fun k hk => by cases hk; kernel_rfl) (by kernel_rfl) (laid_met os))) ?_
  intro W base args ds gs before hval hW _ hcond _ hL _ _
  exact contract H enc W base args ds gs before hval hW hL (hcond _ rfl)

theorem said : Rows.CellDecodesUptoSaid :=
  OpenClaim.holds_of_cond 3 Tryd.f3 rfl rfl rfl rfl rfl rfl rfl ⟨rfl, rfl, rfl, rfl, rfl⟩ rfl rfl rfl rfl rfl (by kernel_rfl) Tryd.func3 (by kernel_rfl)
    (of_decide_eq_true (by kernel_rfl)) (by unfold Func.isWrapper; first | (rw [if_pos (by decide +kernel)]; kernel_rfl) | (rw [if_neg (by decide +kernel)]; exact ⟨rfl, rfl⟩))
    (fun os started H enc _ F => by rw [OpenClaim.pre_eq_preRow]; exact lifted os started H enc F)

/-- No parameter wants a stand-in; the program's own looks are off. -/
theorem plain (f : FuncId) (fn : Func) (hf : Tryd.pinned.checked.prog.funcNamed Rows.cellDecodesRow.func = some f) (hfn : Tryd.pinned.checked.prog.funcs[f]? = some fn) :
    false = Tryd.pinned.checked.prog.looks [] ∧ ∀ (j : Nat) t, fn.params[j]? = some t → Tryd.pinned.checked.prog.wantsStandIn t = false := by
  obtain rfl : f = 3 := Option.some.inj ((show Tryd.prog.funcNamed Rows.cellDecodesRow.func = some 3 by kernel_rfl).symm.trans hf) |>.symm
  obtain rfl : fn = Tryd.f3 := (Option.some.inj (Tryd.func3.symm.trans hfn)).symm
  refine ⟨by kernel_rfl, fun j t ht => ?_⟩
  rw [Tryd.params3] at ht
  have hm : t ∈ [9, 9] := by simpa using Array.mem_of_getElem? ht
  have hall : ([9, 9].all fun u => !Tryd.prog.wantsStandIn u) = true := by kernel_rfl
  exact (show Tryd.prog.wantsStandIn t = false by simpa using List.all_eq_true.1 hall t hm)

theorem card : Rows.CellDecodesUptoCardSaid :=
  Claim7.holds_tied_plain_at .later [] _ _ _ _ said (fun _ h => by cases h) (by kernel_rfl) (fun _ h => by cases h) cellDecodesUpto_row_tie rfl ⟨rfl, rfl⟩ (by kernel_rfl) rfl plain (by kernel_rfl)
end LawCellDecodes
end Go.Proofs.YtmnembhfbboljaaDoor.Cel
