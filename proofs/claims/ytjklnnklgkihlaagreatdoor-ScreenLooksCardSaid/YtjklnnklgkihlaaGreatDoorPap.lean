/- The walk of a Feed's test if a byte may stand where it stands. -/
import Derived.Test.YtjklnnklgkihlaaGreatDoorPao
import Derived.Laws.Runes
import Derived.ScopeJumps
import Derived.WalkMore
namespace Go.Proofs.YtjklnnklgkihlaaGreatDoor.Vt
open Go.RowKit
open Cel (Blk Kept Tabs low Owns At)

set_option maxRecDepth 100000 in
theorem fits_any {K : Ctx} {w : World} {C : Cfg} (hS : Sys K w C) : Calls Tryz.prog 105 #[ptr K.fb] w fun e w' => e = .returned (.bool (fits C.S C.x)) ∧ Sys K w' C ∧ Fr K w C w' C := by
  have c0 : w.cell? ⟨K.fb, 0, none⟩ = some (ptr K.pb) := hS.fee.cell 0
  have hp   := hS.P.par
  have hr : w.rangeAt K.pb 2 [.int .i64 C.S.k, .int .i32 0, .int .u8 C.S.b, C.pv, .string (bs C.S.it), .string (bs [])] := fun j v hj => by
    rw [hp.cell]
    have hj6 : j < 6 := (List.getElem?_eq_some_iff.1 hj).1
    rw [← hj]
    match j, hj6 with
    | 0, _ => rfl
    | 1, _ => rfl
    | 2, _ => rfl
    | 3, _ => rfl
    | 4, _ => rfl
    | 5, _ => rfl
    | n + 6, h => exact absurd h (by omega)
  obtain ⟨A, c, hpv⟩ := own_slice hS.P.prm
  have hpl   := hS.P.bd.pl
  have hil := hS.P.bd.il
  obtain ⟨o, ho⟩ : ∃ o, o = Obj.cells #[.int .i64 C.S.k, .int .i32 0, .int .u8 C.S.b, C.pv, .string (bs C.S.it), .string (bs [])] 65 := ⟨_, rfl⟩
  have hbg : Blk (w.alloc o) w.heap.size 65 #[.int .i64 C.S.k, .int .i32 0, .int .u8 C.S.b, C.pv, .string (bs C.S.it), .string (bs [])] := by rw [ho]; exact Blk.new _ _ _
  rw [hpv] at hr hbg ho
  have d4 := hbg.cell 4
  have d3 := hbg.cell 3
  simp at d3 d4
  have c3 : (w.alloc o).cell? ⟨K.fb, 3, none⟩ = some (.int .u8 C.x) := (hS.fee.alloc o).cell 3
  have hS1 := hS.alloc o
  have hun := unmarked_any C.S.it (by omega) (w.alloc o)
  have hbt := isBetween_any C.x (w.alloc o)
  have hmk := isMark_any C.x (w.alloc o)
  have hbs := bs_size (bare C.S.it)
  have hbl := (bare_le C.S.it).1
  have HO := Lib.hid ho
  have HPV := Lib.hid hpv
  have lf := (hS.lt K.fb (.inr (.inl rfl))).2
  clear hpv hp ho hbg
  have hfr : Fr K w C (w.alloc o) C := Fr.same (p := fun _ => False) ((Kept.refl w _).alloc o) fun _ hf => hf.elim
  clear hS
  cases hb : isBet C.x with
  | true =>
    rw [hb] at hbt
    by_cases hlt : (bare C.S.it).length < 2
    all_goals
      first
        | have HF : Hid (fits C.S C.x = true) := (by show _ = _; unfold fits; rw [if_pos hb]; exact decide_eq_true hlt)
        | have HF : Hid (fits C.S C.x = false) := (by show _ = _; unfold fits; rw [if_pos hb]; exact decide_eq_false hlt)
      rw [HF.out]
      generalize bs (bare C.S.it) = X at *
      generalize (bare C.S.it).length = n at *
      clear hb HF
      go_enter Tryz.func105, Tryz.ntmps105
      go_wp2_with (refine wpList_load_mid rfl 65 (.tmp 11) rfl K.pb 2 rfl _ _ hr Tryz.underlying65 rfl (by show _ = some 6; kernel_rfl) ?_)
      rw [← HO.out]
      refine hun.mono ?_
      rintro e w1 ⟨rfl, rfl⟩
      go_wp2_with fail
      refine hbt.mono ?_
      rintro e w1 ⟨rfl, rfl⟩
      go_wp2
      go_ret
      refine ⟨?_, hS1, hfr⟩
      show Ending.returned (Value.bool _) = _
      first | rfl | (congr 2; simp only [decide_eq_true_eq, decide_eq_false_iff_not]; omega) | (congr 2; simp; omega)
  | false =>
    rw [hb] at hbt
    cases hm : isMk C.x with
    | true =>
      rw [hm] at hmk
      by_cases hit : C.S.it = []
      · rw [hit, bs_nil] at d4
        by_cases hps : C.S.ps.length = 0
        all_goals
          first
            | have HF : Hid (fits C.S C.x = true) := (by show _ = _; unfold fits; rw [if_neg (by rw [hb]; decide), if_pos hm, hit, List.eq_nil_of_length_eq_zero hps]; rfl)
            | have HF : Hid (fits C.S C.x = false) := (by show _ = _; unfold fits; rw [if_neg (by rw [hb]; decide), if_pos hm, hit]; cases hq : C.S.ps with | nil => exact absurd (by rw [hq]; rfl) hps | cons => rfl)
          rw [HF.out]
          generalize bs (bare C.S.it) = X at *
          try rw [hps] at hr d3 HO
          try generalize C.S.ps.length = n at *
          clear hb HF hm hit
          go_enter Tryz.func105, Tryz.ntmps105
          go_wp2_with (refine wpList_load_mid rfl 65 (.tmp 11) rfl K.pb 2 rfl _ _ hr Tryz.underlying65 rfl (by show _ = some 6; kernel_rfl) ?_)
          rw [← HO.out]
          refine hun.mono ?_
          rintro e w1 ⟨rfl, rfl⟩
          go_wp2_with fail
          refine hbt.mono ?_
          rintro e w1 ⟨rfl, rfl⟩
          go_wp2_with fail
          refine hmk.mono ?_
          rintro e w1 ⟨rfl, rfl⟩
          go_wp2
          go_ret
          refine ⟨?_, hS1, hfr⟩
          show Ending.returned (Value.bool _) = _
          first | rfl | (congr 2; simp only [decide_eq_true_eq, decide_eq_false_iff_not]; omega) | (congr 2; simp; omega)
      · have he1 : (bs C.S.it).toList.isEmpty = false := by rw [bs_tl]; cases hq : C.S.it with | nil => exact absurd hq hit | cons => rfl
        have he2 : ((bs C.S.it).toList == []) = false := by rw [bs_tl]; cases hq : C.S.it with | nil => exact absurd hq hit | cons => rfl
        have HF : Hid (fits C.S C.x = false) := (by show _ = _; unfold fits; rw [if_neg (by rw [hb]; decide), if_pos hm]; cases hq : C.S.it with | nil => exact absurd hq hit | cons => rfl)
        rw [HF.out]
        generalize bs (bare C.S.it) = X at *
        clear hb HF hm hit
        go_enter Tryz.func105, Tryz.ntmps105
        go_wp2_with (refine wpList_load_mid rfl 65 (.tmp 11) rfl K.pb 2 rfl _ _ hr Tryz.underlying65 rfl (by show _ = some 6; kernel_rfl) ?_)
        rw [← HO.out]
        refine hun.mono ?_
        rintro e w1 ⟨rfl, rfl⟩
        go_wp2_with fail
        refine hbt.mono ?_
        rintro e w1 ⟨rfl, rfl⟩
        go_wp2_with fail
        refine hmk.mono ?_
        rintro e w1 ⟨rfl, rfl⟩
        go_wp2
        go_ret
        refine ⟨?_, hS1, hfr⟩
        show Ending.returned (Value.bool _) = _
        first | rfl | (congr 2; simp only [decide_eq_true_eq, decide_eq_false_iff_not]; omega) | (congr 2; simp; omega)
    | false =>
      rw [hm] at hmk
      by_cases hx : C.x = 58
      · have hx1 : (C.x != 58) = false := by simp [hx]
        have HF : Hid (fits C.S C.x = false) := (by show _ = _; unfold fits; rw [if_neg (by rw [hb]; decide), if_neg (by rw [hm]; decide), hx1]; rfl)
        rw [HF.out]
        generalize bs (bare C.S.it) = X at *
        clear hb HF hm hx
        go_enter Tryz.func105, Tryz.ntmps105
        go_wp2_with (refine wpList_load_mid rfl 65 (.tmp 11) rfl K.pb 2 rfl _ _ hr Tryz.underlying65 rfl (by show _ = some 6; kernel_rfl) ?_)
        rw [← HO.out]
        refine hun.mono ?_
        rintro e w1 ⟨rfl, rfl⟩
        go_wp2_with fail
        refine hbt.mono ?_
        rintro e w1 ⟨rfl, rfl⟩
        go_wp2_with fail
        refine hmk.mono ?_
        rintro e w1 ⟨rfl, rfl⟩
        go_wp2
        go_ret
        refine ⟨?_, hS1, hfr⟩
        show Ending.returned (Value.bool _) = _
        first | rfl | (congr 2; simp only [decide_eq_true_eq, decide_eq_false_iff_not]; omega) | (congr 2; simp; omega)
      · have hx1 : (C.x != 58) = true := by simp [hx]
        by_cases h0 : (bare C.S.it).length = 0
        all_goals
          first
            | have HF : Hid (fits C.S C.x = true) := (by show _ = _; unfold fits; rw [if_neg (by rw [hb]; decide), if_neg (by rw [hm]; decide), hx1, h0]; rfl)
            | have HF : Hid (fits C.S C.x = false) := (by show _ = _; unfold fits; rw [if_neg (by rw [hb]; decide), if_neg (by rw [hm]; decide), hx1]; simpa using h0)
          rw [HF.out]
          generalize bs (bare C.S.it) = X at *
          generalize (bare C.S.it).length = n at *
          clear hb HF hm hx
          go_enter Tryz.func105, Tryz.ntmps105
          go_wp2_with (refine wpList_load_mid rfl 65 (.tmp 11) rfl K.pb 2 rfl _ _ hr Tryz.underlying65 rfl (by show _ = some 6; kernel_rfl) ?_)
          rw [← HO.out]
          refine hun.mono ?_
          rintro e w1 ⟨rfl, rfl⟩
          go_wp2_with fail
          refine hbt.mono ?_
          rintro e w1 ⟨rfl, rfl⟩
          go_wp2_with fail
          refine hmk.mono ?_
          rintro e w1 ⟨rfl, rfl⟩
          go_wp2
          go_ret
          refine ⟨?_, hS1, hfr⟩
          show Ending.returned (Value.bool _) = _
          first | rfl | (congr 2; simp only [decide_eq_true_eq, decide_eq_false_iff_not]; omega) | (congr 2; simp; omega)
end Go.Proofs.YtjklnnklgkihlaaGreatDoor.Vt
/- The walk of a Feed's adding of a byte to a head. -/
namespace Go.Proofs.YtjklnnklgkihlaaGreatDoor.Vt
open Go.RowKit
open Cel (Blk Kept Tabs low Owns At)

theorem rune_bs (u : UInt8) (h : u.toNat < 128) : Utf8.encode (u.toNat : Int) = bs [u] := by
  have hv : Utf8.valid (u.toNat : Int) = true := by unfold Utf8.valid; simp; omega
  unfold Utf8.encode
  simp only [hv, if_true, Int.toNat_natCast, if_pos h]
  unfold bs
  simp
theorem it_end {K : Ctx} {w : World} {C : Cfg} {u : UInt8} (hS : Sys K w C) (hbd : Bd { C.S with it := C.S.it ++ [u] }) :
    Left K w C { C.S with it := C.S.it ++ [u] } [] (.returned (.tuple #[])) (w.drew.setCell ⟨K.pb, 6, none⟩ (.string (bs C.S.it ++ bs [u]))) := by
  have e : (parL C.S C.pv C.tv K.db).toArray.setIfInBounds 6 (.string (bs C.S.it ++ bs [u])) = (parL { C.S with it := C.S.it ++ [u] } C.pv C.tv K.db).toArray := by
    rw [bs_app]; unfold parL; generalize nm C.S.s = z; simp
  have hb : Blk w.drew K.pb 101 (parL C.S C.pv C.tv K.db).toArray := hS.P.par
  have hk : Kept w (w.drew.setCell ⟨K.pb, 6, none⟩ (.string (bs C.S.it ++ bs [u]))) (fun i => i = K.pb) := Kept.setCell (p := fun i => i = K.pb) (Kept.refl w _).drew (a := ⟨K.pb, 6, none⟩) rfl _
  obtain ⟨s, f⟩ := hS.setP hk { C.S with it := C.S.it ++ [u] } C.pv C.tv (blk_of (hb.set_ 6 _) e) rfl hbd (.inl ⟨rfl, rfl⟩) (.inl ⟨rfl, rfl⟩)
  exact ⟨rfl, _, s, f, rfl, rfl, rfl, (List.append_nil _).symm⟩
set_option maxRecDepth 100000 in
set_option maxHeartbeats 4000000 in
/-- A byte put to what stands between. -/
theorem add_it {K : Ctx} {w : World} {C : Cfg} (hS : Sys K w C) (u : UInt8) (hu : C.x = (u.toNat : Int)) (h1 : u.toNat < 128) (hb : isBet (u.toNat : Int) = true ∨ isMk (u.toNat : Int) = true) (hbd : Bd { C.S with it := C.S.it ++ [u] }) :
    Calls Tryz.prog 106 #[ptr K.fb] w (Left K w C { C.S with it := C.S.it ++ [u] } []) := by
  have c0 : w.cell? ⟨K.fb, 0, none⟩ = some (ptr K.pb) := hS.fee.cell 0
  have c3 : w.cell? ⟨K.fb, 3, none⟩ = some (.int .u8 C.x) := hS.fee.cell 3
  have c6 : w.cell? ⟨K.pb, 6, none⟩ = some (.string (bs C.S.it)) := hS.P.par.cell 6
  have f6 : w.frozen? ⟨K.pb, 6, none⟩ = false := hS.P.par.frozen 6
  have he : Utf8.encode (IntKind.i32.wrap C.x) = bs [u] := by rw [hu, show IntKind.i32.wrap (u.toNat : Int) = u.toNat by simp [IntKind.wrap, IntKind.signed, IntKind.bits]; omega]; exact rune_bs u h1
  have hz1 := bs_size C.S.it
  have hz2 : (bs [u]).size = 1 := bs_size [u]
  have hz3 := hS.P.bd.il
  have hz4 : ¬ 9223372036854775807 < C.S.it.length + 1 := by omega
  have hz5 : ¬ 9223372036854775807 < (bs C.S.it).size + (bs [u]).size := by omega
  have he2 : Utf8.encode (wrap32 C.x) = bs [u] := by rw [hu, show wrap32 (u.toNat : Int) = u.toNat by unfold wrap32; omega]; exact rune_bs u h1
  have hbt := isBetween_any C.x w
  have hmk := isMark_any C.x w
  have HB := Lib.hid hbd
  by_cases hb2 : isBet (u.toNat : Int) = true
  · rw [← hu] at hb2
    rw [hb2] at hbt
    clear hb hbd h1 hu hmk hb2
    go_enter Tryz.func106, Tryz.ntmps106
    go_wp2_with fail
    refine hbt.mono ?_
    rintro e w1 ⟨rfl, rfl⟩
    go_wp2_with fail
    go_region
    all_goals
      go_wp2
      go_end0
      exact it_end hS HB.out
  · have hb : isMk (u.toNat : Int) = true := hb.resolve_left hb2
    have hb2 := Bool.eq_false_iff.2 hb2
    rw [← hu] at hb hb2
    rw [hb2] at hbt
    rw [hb] at hmk
    clear hb hbd h1 hu hb2
    go_enter Tryz.func106, Tryz.ntmps106
    go_wp2_with fail
    refine hbt.mono ?_
    rintro e w1 ⟨rfl, rfl⟩
    go_wp2_with fail
    refine hmk.mono ?_
    rintro e w1 ⟨rfl, rfl⟩
    go_wp2_with fail
    go_region
    all_goals
      go_wp2
      go_end0
      exact it_end hS HB.out
end Go.Proofs.YtjklnnklgkihlaaGreatDoor.Vt
/- The walk of a Feed's adding of a byte to the numbers. -/
namespace Go.Proofs.YtjklnnklgkihlaaGreatDoor.Vt
open Go.RowKit
open Cel (Blk Kept Tabs low Owns At)

theorem num_end {K : Ctx} {w w2 : World} {C : Cfg} {v : Value} {x : Int} (hS : Sys K w C) (hbd : Bd { C.S with ps := withB C.S.ps x }) (hl : C.S.ps.length ≤ 33) (h1 : Ints w2 K.B v (withB C.S.ps x)) (h2 : Kept w.drew w2 (fun i => C.pv.ownBlock = some i)) (h3 : ∀ i, v.ownBlock = some i → C.pv.ownBlock = some i ∨ w.drew.heap.size ≤ i) :
    Left K w C { C.S with ps := withB C.S.ps x } [] (.returned (.tuple #[])) (w2.setCell ⟨K.pb, 5, none⟩ v) := by
  obtain ⟨s, f⟩ := hS.setN ((Kept.refl w _).drew.trans h2 fun i _ h => h) v { C.S with ps := withB C.S.ps x } h1 h3 rfl (withB_len hl).2 hbd
  exact ⟨rfl, _, s, f, rfl, rfl, rfl, (List.append_nil _).symm⟩
set_option maxRecDepth 100000 in
set_option maxHeartbeats 4000000 in
/-- A digit or a semicolon put to the numbers. -/
theorem add_num {K : Ctx} {w : World} {C : Cfg} (hS : Sys K w C) (hx : 48 ≤ C.x) (hb1 : isBet C.x = false) (hb2 : isMk C.x = false) (hbd : Bd { C.S with ps := withB C.S.ps C.x }) :
    Calls Tryz.prog 106 #[ptr K.fb] w (Left K w C { C.S with ps := withB C.S.ps C.x } []) := by
  have c0 : w.cell? ⟨K.fb, 0, none⟩ = some (ptr K.pb) := hS.fee.cell 0
  have c3 : w.cell? ⟨K.fb, 3, none⟩ = some (.int .u8 C.x) := hS.fee.cell 3
  have c5 : w.cell? ⟨K.pb, 5, none⟩ = some C.pv := hS.P.par.cell 5
  have hbt := isBetween_any C.x w
  have hmk := isMark_any C.x w
  have hl := hS.P.bd.pl
  have hwb := withByte_any (w := w.drew) (B := K.B) (v := C.pv) (l := C.S.ps) (by have := (hS.lt K.fb (.inr (.inl rfl))); have e : w.drew.heap.size = w.heap.size := rfl; omega) hS.P.prm.drew hS.P.pnil hS.P.bd.pl hS.P.bd.pz (x := C.x) hx hS.x1
  have hpa : Blk w.drew K.pb 101 (parL C.S C.pv C.tv K.db).toArray := hS.P.par
  have hnp : ∀ i, C.pv.ownBlock = some i → i ≠ K.pb := fun i hi q => hS.sep.vp (by rw [hi, q])
  have hfe : Blk w.drew K.fb 95 (feeL K C).toArray := hS.fee
  have hnf : ∀ i, C.pv.ownBlock = some i → i ≠ K.fb := fun i hi q => hS.sep.vf (by rw [hi, q])
  obtain ⟨A, c, hpv⟩ := own_slice hS.P.prm
  have HP := Lib.hid hpv
  have HB := Lib.hid hbd
  have H1 := Lib.hid hb1
  rw [hb1] at hbt
  rw [hb2] at hmk
  clear hb1 hb2 hbd hpv
  go_enter Tryz.func106, Tryz.ntmps106
  go_wp2_with fail
  refine hbt.mono ?_
  rintro e w1 ⟨rfl, rfl⟩
  go_wp2_with fail
  refine hmk.mono ?_
  rintro e w1 ⟨rfl, rfl⟩
  clear hbt hmk
  go_wp2_with fail
  go_region_with (go_at_call 152; refine hwb.mono ?_; rintro e w3 ⟨v3, rfl, ho3, hk3, hg3⟩; obtain ⟨A3, m3, n3, rfl⟩ := own_slice3 ho3; have hp3 := hk3.blk hpa (fun e => hnp _ e rfl); have p3 : w3.cell? ⟨K.pb, 5, none⟩ = some C.pv := hp3.cell 5; have r3 : w3.cell? ⟨K.fb, 0, none⟩ = some (ptr K.pb) := (hk3.blk hfe (fun e => hnf _ e rfl)).cell 0; have p3f : w3.frozen? ⟨K.pb, 5, none⟩ = false := hp3.frozen 5)
  all_goals
    go_end0
    exact num_end hS HB.out hl ho3 hk3 hg3
/-- A byte that fits put to a head. -/
theorem add_any {K : Ctx} {w : World} {C : Cfg} (hS : Sys K w C) (u : UInt8) (hu : C.x = (u.toNat : Int)) (hf : fits C.S C.x = true) (hx : isBet C.x = true ∨ isMk C.x = true ∨ 48 ≤ C.x) :
    Calls Tryz.prog 106 #[ptr K.fb] w (Left K w C (add C.S u) []) := by
  rw [hu] at hf hx
  have hbd := add_bd hS.P.bd hf hx
  by_cases h1 : isBet (u.toNat : Int) = true ∨ isMk (u.toNat : Int) = true
  · have e : add C.S u = { C.S with it := C.S.it ++ [u] } := by unfold add; rw [if_pos (by rcases h1 with h | h <;> simp [h])]
    rw [e] at hbd ⊢
    refine add_it hS u hu ?_ h1 hbd
    rcases h1 with h | h
    · unfold isBet at h; simp at h; omega
    · unfold isMk at h; simp at h; omega
  · have e1 : isBet (u.toNat : Int) = false := Bool.eq_false_iff.2 fun h => h1 (.inl h)
    have e2 : isMk (u.toNat : Int) = false := Bool.eq_false_iff.2 fun h => h1 (.inr h)
    have e : add C.S u = { C.S with ps := withB C.S.ps (u.toNat : Int) } := by unfold add; rw [if_neg (by simp [e1, e2])]
    have h48 : 48 ≤ (u.toNat : Int) := by
      rcases hx with h | h | h
      · rw [e1] at h; cases h
      · rw [e2] at h; cases h
      · exact h
    rw [e] at hbd ⊢
    rw [← hu] at e1 e2 h48 hbd ⊢
    exact add_num hS h48 e1 e2 hbd
end Go.Proofs.YtjklnnklgkihlaaGreatDoor.Vt
/- The walk of a Feed's take: the next byte that a state itself has to do with. -/
namespace Go.Proofs.YtjklnnklgkihlaaGreatDoor.Vt
open Go.RowKit
open Cel (Blk Kept Tabs low Owns At)

/-- What all the rest comes to: the parser at the end, all that is told. -/
def Fu (K : Ctx) (C : Cfg) (S : Ps) (j : Nat) : Ps × List Ac := ((run S (K.l.drop j)).1, outs C.out ++ (run S (K.l.drop j)).2)
theorem fu_step {K : Ctx} {C C' : Cfg} {S S2 : Ps} {j : Nat} {u : UInt8} {a : List Ac} (hj : K.l[j]? = some u) (hs : step S u = (S2, a)) (ho : outs C'.out = outs C.out ++ a) : Fu K C' S2 (j + 1) = Fu K C S j := by
  obtain ⟨hl, hu⟩ := List.getElem?_eq_some_iff.1 hj
  unfold Fu
  rw [List.drop_eq_getElem_cons hl, hu, ho]
  simp only [run, hs, List.append_assoc]
theorem fu_alike {K : Ctx} {C C' : Cfg} {S S2 : Ps} {j : Nat} {u : UInt8} (hj : K.l[j]? = some u) (hs : step S2 u = step S u) (ho : outs C'.out = outs C.out) : Fu K C' S2 j = Fu K C S j := by
  obtain ⟨hl, hu⟩ := List.getElem?_eq_some_iff.1 hj
  unfold Fu
  rw [List.drop_eq_getElem_cons hl, hu, ho]
  simp only [run, hs]
theorem fu_out {K : Ctx} {C C' : Cfg} {S : Ps} {j : Nat} (ho : outs C'.out = outs C.out) : Fu K C' S j = Fu K C S j := by unfold Fu; rw [ho]
theorem fu_len {K : Ctx} {C : Cfg} {S : Ps} {j : Nat} {F : Ps × List Ac} (h : Fu K C S j = F) : C.out.length ≤ F.2.length := by
  rw [← h]; unfold Fu; rw [List.length_append, outs_len]; omega
/-- A byte that a state itself has to do with. -/
def live (st : Nat) (x : Int) : Prop := x ≠ 24 ∧ x ≠ 26 ∧ x ≠ 27 ∧ if isTx st then ¬ x < 32 ∨ (st = 1 ∧ x = 7) else ¬ x < 32 ∧ ¬ (127 < x ∧ isHd st = true) ∧ x ≠ 127
/-- What take leaves. -/
def Taken (K : Ctx) (w : World) (C : Cfg) (st : Nat) (F : Ps × List Ac) (e : Ending) (w' : World) : Prop :=
  ∃ (t : Bool) (C' : Cfg), e = .returned (.bool t) ∧ Sys K w' C' ∧ Fr K w C w' C' ∧
    ((t = true ∧ ∃ m u, C'.j = m + 1 ∧ C.j ≤ m ∧ K.l[m]? = some u ∧ C'.x = (u.toNat : Int) ∧ C'.S.s = st ∧ live st (u.toNat : Int) ∧ Fu K C' C'.S m = F) ∨
     (t = false ∧ Fu K C' C'.S C'.j = F ∧ C.j ≤ C'.j ∧ (C'.j = K.l.length ∨ C.j < C'.j ∨ (isHd st = true ∧ C'.S.s = 0))))

theorem Sys.setS {K : Ctx} {w : World} {C : Cfg} (h : Sys K w C) (st : Nat) (hst : st ≤ 7) :
    Sys K (w.setCell ⟨K.pb, 0, none⟩ (.string (nm st))) { C with S := { C.S with s := st } } ∧ Fr K w C (w.setCell ⟨K.pb, 0, none⟩ (.string (nm st))) { C with S := { C.S with s := st } } := by
  have hk : Kept w (w.setCell ⟨K.pb, 0, none⟩ (.string (nm st))) (fun i => i = K.pb) := Kept.setCell (p := fun i => i = K.pb) (Kept.refl w _) (a := ⟨K.pb, 0, none⟩) rfl _
  have hb := h.P.bd
  exact h.setP hk { C.S with s := st } C.pv C.tv (h.P.par.set_ 0 _) rfl ⟨hst, hb.k0, hb.k1, hb.b0, hb.b1, hb.pl, hb.pz, hb.il, hb.tl, hb.di⟩ (.inl ⟨rfl, rfl⟩) (.inl ⟨rfl, rfl⟩)
theorem Sys.setX {K : Ctx} {w : World} {C : Cfg} (h : Sys K w C) (u : UInt8) (j : Nat) (hj : j ≤ K.l.length) :
    Sys K ((w.setCell ⟨K.fb, 3, none⟩ (.int .u8 (u.toNat : Int))).setCell ⟨K.fb, 2, none⟩ (.int .i64 (j : Int))) { C with j := j, x := (u.toNat : Int) } ∧
    Fr K w C ((w.setCell ⟨K.fb, 3, none⟩ (.int .u8 (u.toNat : Int))).setCell ⟨K.fb, 2, none⟩ (.int .i64 (j : Int))) { C with j := j, x := (u.toNat : Int) } :=
  h.setF ((Kept.setCell (p := fun i => i = K.fb) (Kept.refl w _) (a := ⟨K.fb, 3, none⟩) rfl _).setCell (a := ⟨K.fb, 2, none⟩) rfl _) j (u.toNat : Int) ((h.fee.set_ 3 _).set_ 2 _) hj (u8_le u).1 (u8_le u).2
theorem Sys.drewN {K : Ctx} {w : World} {C : Cfg} (h : Sys K w C) (n : Nat) : Sys K (w.drewN n) C := h.same (p := fun _ => False) ((Kept.refl w _).drewN n) fun _ hf => hf.elim
theorem Sys.came {K : Ctx} {w : World} {C : Cfg} (h : Sys K w C) (n : Nat) (u : UInt8) (hj : C.j < K.l.length) :
    Sys K (((w.drewN n).setCell ⟨K.fb, 3, none⟩ (.int .u8 (u.toNat : Int))).setCell ⟨K.fb, 2, none⟩ (.int .i64 ((C.j : Int) + 1))) { C with j := C.j + 1, x := (u.toNat : Int) } ∧
    Fr K w C (((w.drewN n).setCell ⟨K.fb, 3, none⟩ (.int .u8 (u.toNat : Int))).setCell ⟨K.fb, 2, none⟩ (.int .i64 ((C.j : Int) + 1))) { C with j := C.j + 1, x := (u.toNat : Int) } := by
  obtain ⟨s, f⟩ := (h.drewN n).setX u (C.j + 1) hj
  have f0 : Fr K w C (w.drewN n) C := Fr.same (p := fun _ => False) ((Kept.refl w _).drewN n) fun _ hf => hf.elim
  exact ⟨s, f0.trans f⟩
/-- The byte is given back. -/
theorem Sys.back {K : Ctx} {w : World} {C : Cfg} (h : Sys K w C) (j : Nat) (hj : j ≤ K.l.length) :
    Sys K (w.setCell ⟨K.fb, 2, none⟩ (.int .i64 (j : Int))) { C with j := j } ∧ Fr K w C (w.setCell ⟨K.fb, 2, none⟩ (.int .i64 (j : Int))) { C with j := j } :=
  h.setF (Kept.setCell (p := fun i => i = K.fb) (Kept.refl w _) (a := ⟨K.fb, 2, none⟩) rfl _) j C.x (h.fee.set_ 2 _) hj h.x0 h.x1
theorem step_can {S : Ps} {u : UInt8} (h : (u.toNat : Int) = 24 ∨ (u.toNat : Int) = 26) : step S u = (ps0, []) := by unfold step; simp only [if_pos h]
theorem step_esc {S : Ps} {u : UInt8} (h : (u.toNat : Int) = 27) : step S u = (escP S, escA S) := by unfold step; simp only [if_neg (show ¬ ((u.toNat : Int) = 24 ∨ (u.toNat : Int) = 26) by omega), if_pos h]
theorem step_quiet {S : Ps} {u : UInt8} (h1 : (u.toNat : Int) ≠ 24) (h2 : (u.toNat : Int) ≠ 26) (h3 : (u.toNat : Int) ≠ 27) (ht : isTx S.s = true) (h4 : (u.toNat : Int) < 32) (h5 : ¬ (S.s = 1 ∧ (u.toNat : Int) = 7)) : step S u = (S, []) := by
  unfold step
  simp only [if_neg (show ¬ ((u.toNat : Int) = 24 ∨ (u.toNat : Int) = 26) by omega), if_neg h3, if_pos ht, if_neg h5, if_pos h4]
theorem step_ctl {S : Ps} {u : UInt8} (h1 : (u.toNat : Int) ≠ 24) (h2 : (u.toNat : Int) ≠ 26) (h3 : (u.toNat : Int) ≠ 27) (ht : isTx S.s = false) (h4 : (u.toNat : Int) < 32) : step S u = ({ S with d := Cel.zero }, (Cel.lost S.d).map prt ++ [ctl (u.toNat : Int)]) := by
  unfold step
  simp only [if_neg (show ¬ ((u.toNat : Int) = 24 ∨ (u.toNat : Int) = 26) by omega), if_neg h3, if_neg (show ¬ (isTx S.s = true) by rw [ht]; decide), if_pos h4]
theorem step_wide {S : Ps} {u : UInt8} (ht : isTx S.s = false) (h4 : 127 < (u.toNat : Int)) (h5 : isHd S.s = true) : step S u = ground ps0 (u.toNat : Int) := by
  unfold step
  simp only [if_neg (show ¬ ((u.toNat : Int) = 24 ∨ (u.toNat : Int) = 26) by omega), if_neg (show ¬ (u.toNat : Int) = 27 by omega), if_neg (show ¬ (isTx S.s = true) by rw [ht]; decide), if_neg (show ¬ (u.toNat : Int) < 32 by omega), if_pos (show 127 < (u.toNat : Int) ∧ isHd S.s = true from ⟨h4, h5⟩)]
theorem step_wide0 {u : UInt8} (h4 : 127 < (u.toNat : Int)) : step ps0 u = ground ps0 (u.toNat : Int) := by
  unfold step
  simp only [if_neg (show ¬ ((u.toNat : Int) = 24 ∨ (u.toNat : Int) = 26) by omega), if_neg (show ¬ (u.toNat : Int) = 27 by omega), if_neg (show ¬ (isTx ps0.s = true) by decide), if_neg (show ¬ (u.toNat : Int) < 32 by omega), if_neg (show ¬ (127 < (u.toNat : Int) ∧ isHd ps0.s = true) from fun h => absurd h.2 (by decide)), if_neg (show ¬ (u.toNat : Int) = 127 by omega), if_pos (show ps0.s = 0 from rfl)]
theorem step_del {S : Ps} {u : UInt8} (ht : isTx S.s = false) (h4 : (u.toNat : Int) = 127) : step S u = (S, []) := by
  unfold step
  simp only [if_neg (show ¬ ((u.toNat : Int) = 24 ∨ (u.toNat : Int) = 26) by omega), if_neg (show ¬ (u.toNat : Int) = 27 by omega), if_neg (show ¬ (isTx S.s = true) by rw [ht]; decide), if_neg (show ¬ (u.toNat : Int) < 32 by omega), if_neg (show ¬ (127 < (u.toNat : Int) ∧ isHd S.s = true) by omega), if_pos h4]
set_option maxRecDepth 100000 in
set_option maxHeartbeats 4000000 in
theorem take_any {K : Ctx} {w : World} {C : Cfg} (hS : Sys K w C) (st : Nat) (hst : st ≤ 7) (F : Ps × List Ac) (hF : Fu K C { C.S with s := st } C.j = F) (hn : F.2.length ≤ 4294967200) :
    Calls Tryz.prog 72 #[ptr K.fb, .string (nm st)] w (Taken K w C st F) := by
  have c0 : w.cell? ⟨K.fb, 0, none⟩ = some (ptr K.pb) := hS.fee.cell 0
  have p0 : w.cell? ⟨K.pb, 0, none⟩ = some (.string (nm C.S.s)) := hS.P.par.cell 0
  have p0f : w.frozen? ⟨K.pb, 0, none⟩ = false := hS.P.par.frozen 0
  obtain ⟨s1, f1⟩ := hS.setS st hst
  have HF := Lib.hid hF
  clear hF
  go_enter Tryz.func72, Tryz.ntmps72
  go_wp2
  go_loopw [] (fun wr => ∃ C', Sys K wr C' ∧ Fr K w C wr C' ∧ C.j ≤ C'.j ∧ C'.S.s = st ∧ Fu K C' C'.S C'.j = F) (fun wr => K.l.length - (intOf ((wr.cell? ⟨K.fb, 2, none⟩).getD (.int .i64 0))).toNat)
  case atStart => exact ⟨_, s1, f1, Nat.le_refl _, rfl, HF.out⟩
  case round =>
    obtain ⟨C', hs, hf, hj, he, hfu⟩ := hrel
    have hfn := fu_len hfu
    have q0 : wr.cell? ⟨K.fb, 0, none⟩ = some (ptr K.pb) := hs.fee.cell 0
    have q1 : wr.cell? ⟨K.fb, 1, none⟩ = some (.slice K.A K.l.length K.c) := hs.fee.cell 1
    have q2 : wr.cell? ⟨K.fb, 2, none⟩ = some (.int .i64 C'.j) := hs.fee.cell 2
    have q3 : wr.cell? ⟨K.fb, 3, none⟩ = some (.int .u8 C'.x) := hs.fee.cell 3
    have q2f : wr.frozen? ⟨K.fb, 2, none⟩ = false := hs.fee.frozen 2
    have q3f : wr.frozen? ⟨K.fb, 3, none⟩ = false := hs.fee.frozen 3
    have jl := hs.jl
    have ll := hs.ll
    by_cases hlt : C'.j < K.l.length
    · obtain ⟨g, o, cs, fr, hA, hg, hc⟩ := hs.inp C'.j hlt
      have hd : decide ((C'.j : Int) < (K.l.length : Int)) = true := by simpa using hlt
      rw [hA] at q1
      obtain ⟨u, hu⟩ : ∃ u, K.l[C'.j]? = some u := ⟨_, List.getElem?_eq_getElem hlt⟩
      have hcell : wr.cell? ⟨g, o + C'.j, none⟩ = some (.int .u8 (u.toNat : Int)) := by rw [cell_of_row wr g _ cs _ fr hg, hc, List.getD_eq_getElem?_getD, hu]; rfl
      have hu0 := u8_le u
      have hit := isText_any st hst
      have hih := isHead_any st hst
      have hic := isControl_any (u.toNat : Int)
      obtain ⟨_, n1, _⟩ := nm_is st hst
      have ms : ∀ W : World, W.cell? ⟨K.fb, 2, none⟩ = some (.int .i64 ((C'.j : Int) + 1)) → K.l.length - (intOf ((W.cell? ⟨K.fb, 2, none⟩).getD (.int .i64 0))).toNat < K.l.length - (intOf ((wr.cell? ⟨K.fb, 2, none⟩).getD (.int .i64 0))).toNat := by
        intro W hW
        rw [hW, q2]
        simp [intOf]
        omega
      have HM := Lib.hid ms
      have HU := Lib.hid hu
      have HFu := Lib.hid hfu
      clear hc hg ms hu hfu
      go_wp2_with fail
      go_quiet (fail)
      go_wp2_with fail
      go_region
      obtain ⟨s4, f4⟩ := hs.came (nq + 1) u hlt
      have fu1 := fun (C2 : Cfg) (S2 : Ps) (a : List Ac) (h1 : step C'.S u = (S2, a)) (h2 : outs C2.out = outs C'.out ++ a) => (fu_step HU.out h1 h2).trans HFu.out
      have hwide := fun (C2 : Cfg) (ht : isTx C'.S.s = false) (h4 : 127 < (u.toNat : Int)) (h5 : isHd C'.S.s = true) (h2 : outs C2.out = outs C'.out) => (fu_alike (S2 := ps0) HU.out ((step_wide0 h4).trans (step_wide ht h4 h5).symm) h2).trans HFu.out
      have hcan := @step_can C'.S u
      have hesc := @step_esc C'.S u
      have hqui := @step_quiet C'.S u
      have hctl := @step_ctl C'.S u
      have hdel := @step_del C'.S u
      have hff := hf.trans f4
      have hn4 : C'.out.length ≤ 4294967200 := by omega
      generalize hx : (u.toNat : Int) = x at *
      have HCan := Lib.hid hcan
      have HEsc := Lib.hid hesc
      have HQui := Lib.hid hqui
      have HCtl := Lib.hid hctl
      have HDel := Lib.hid hdel
      have HW := Lib.hid hwide
      have HX := Lib.hid hx
      have HF1 := Lib.hid fu1
      have HE := Lib.hid he
      have HJ := Lib.hid hj
      clear hcan hesc hqui hctl hdel hwide hx fu1 he hj
      have hdr := drop_any s4.P.par s4.P.dec s4.P.bd.di
      have hes := escape_any s4 (by show C'.out.length ≤ _; omega)
      have hco := control_left s4 (by show C'.out.length ≤ _; omega)
      generalize hW : ((wr.drewN (nq + 1)).setCell ⟨K.fb, 3, none⟩ (.int .u8 x)).setCell ⟨K.fb, 2, none⟩ (.int .i64 ((C'.j : Int) + 1)) = W at s4 f4 hff hdr hes hco
      have HWW := Lib.hid hW
      clear hW
      by_cases h24 : x = 24
      · have fu2 := HF1.out { C' with S := ps0, pv := nilV, tv := nilV, j := C'.j + 1, x := x } ps0 [] (HCan.out (.inl h24)) (List.append_nil _).symm
        have HF2 := Lib.hid fu2
        clear fu2
        have e24 : (x == 24) = true := by simp [h24]
        clear h24
        go_wp2_with fail
        rw [HWW.out]
        refine hdr.mono ?_
        rintro e w5 ⟨rfl, hb5, hd5, hk5⟩
        obtain ⟨s5, f5⟩ := s4.drop hk5 hb5 hd5
        go_wp2
        go_ret
        exact ⟨false, _, rfl, s5, hff.trans f5, .inr ⟨rfl, HF2.out, by show C.j ≤ C'.j + 1; have := HJ.out; omega, .inr (.inl (by show C.j < C'.j + 1; have := HJ.out; omega))⟩⟩
      · by_cases h26 : x = 26
        · have fu2 := HF1.out { C' with S := ps0, pv := nilV, tv := nilV, j := C'.j + 1, x := x } ps0 [] (HCan.out (.inr h26)) (List.append_nil _).symm
          have HF2 := Lib.hid fu2
          clear fu2
          have e24 : (x == 24) = false := by simp [h24]
          have e26 : (x == 26) = true := by simp [h26]
          clear h24 h26
          go_wp2_with fail
          rw [HWW.out]
          refine hdr.mono ?_
          rintro e w5 ⟨rfl, hb5, hd5, hk5⟩
          obtain ⟨s5, f5⟩ := s4.drop hk5 hb5 hd5
          go_wp2
          go_ret
          exact ⟨false, _, rfl, s5, hff.trans f5, .inr ⟨rfl, HF2.out, by show C.j ≤ C'.j + 1; have := HJ.out; omega, .inr (.inl (by show C.j < C'.j + 1; have := HJ.out; omega))⟩⟩
        · have e24 : (x == 24) = false := by simp [h24]
          have e26 : (x == 26) = false := by simp [h26]
          by_cases h27 : x = 27
          · have HS2 := Lib.hid (HEsc.out h27)
            have e27 : (x == 27) = true := by simp [h27]
            clear h24 h26 h27
            go_wp2_with fail
            rw [HWW.out]
            refine hes.mono ?_
            rintro e w5 ⟨rfl, C5, s5, f5, j5, x5, S5, o5⟩
            have HJ5 := Lib.hid j5
            have HS5 := Lib.hid S5
            have HO5 := Lib.hid o5
            clear j5 x5 S5 o5
            go_wp2
            go_ret
            refine ⟨false, C5, rfl, s5, hff.trans f5, .inr ⟨rfl, ?_, ?_, .inr (.inl ?_)⟩⟩
            · rw [HS5.out, HJ5.out]
              exact HF1.out C5 _ _ HS2.out HO5.out
            · rw [HJ5.out]; show C.j ≤ C'.j + 1; have := HJ.out; omega
            · rw [HJ5.out]; show C.j < C'.j + 1; have := HJ.out; omega
          · have e27 : (x == 27) = false := by simp [h27]
            cases ht : isTx st with
            | true =>
              simp only [ht] at hit
              by_cases h32 : x < 32
              · have d32 : decide (x < 32) = true := by simpa using h32
                by_cases hst1 : st = 1
                · have n1' : ((nm st).toList == [111, 115, 99]) = true := by rw [n1]; simpa using hst1
                  by_cases h7 : x = 7
                  · have e7 : (x == 7) = true := by simp [h7]
                    have HL : Hid (live st x) := by show live st x; unfold live; rw [ht]; exact ⟨h24, h26, h27, Or.inr ⟨hst1, h7⟩⟩
                    clear h24 h26 h27 h7 hst1 ht n1
                    go_wp2_with fail
                    refine (hit _).mono ?_
                    rintro e w5 ⟨rfl, rfl⟩
                    go_wp2_with fail
                    refine (hic _).mono ?_
                    rintro e w5 ⟨rfl, rfl⟩
                    go_wp2_with fail
                    go_ret
                    exact ⟨true, { C' with j := C'.j + 1, x := x }, rfl, HWW.out ▸ s4, HWW.out ▸ hff, .inl ⟨rfl, C'.j, u, rfl, HJ.out, HU.out, HX.out.symm, HE.out, by rw [HX.out]; exact HL.out, HFu.out⟩⟩
                  · have e7 : (x == 7) = false := by simp [h7]
                    have fu2 := HF1.out { C' with j := C'.j + 1, x := x } C'.S [] (HQui.out h24 h26 h27 (by rw [HE.out]; exact ht) h32 (by rintro ⟨_, h⟩; exact h7 h)) (List.append_nil _).symm
                    have HF2 := Lib.hid fu2
                    clear h24 h26 h27 h7 hst1 ht n1 fu2
                    go_wp2_with fail
                    refine (hit _).mono ?_
                    rintro e w5 ⟨rfl, rfl⟩
                    go_wp2_with fail
                    refine (hic _).mono ?_
                    rintro e w5 ⟨rfl, rfl⟩
                    go_wp2_with fail
                    go_roundw
                    case rel =>
                      have hh := HJ.out
                      have fu2 := HF2.out
                      rw [HWW.out]
                      exact ⟨_, s4, hff, by show C.j ≤ C'.j + 1; omega, HE.out, fu2⟩
                    case measure => exact HM.out _ (by rw [HWW.out]; exact s4.fee.cell 2)
                · have n1' : ((nm st).toList == [111, 115, 99]) = false := by rw [n1]; simpa using hst1
                  have fu2 := HF1.out { C' with j := C'.j + 1, x := x } C'.S [] (HQui.out h24 h26 h27 (by rw [HE.out]; exact ht) h32 (by rintro ⟨h, _⟩; rw [HE.out] at h; exact hst1 h)) (List.append_nil _).symm
                  have HF2 := Lib.hid fu2
                  clear h24 h26 h27 hst1 ht n1 fu2
                  go_wp2_with fail
                  refine (hit _).mono ?_
                  rintro e w5 ⟨rfl, rfl⟩
                  go_wp2_with fail
                  refine (hic _).mono ?_
                  rintro e w5 ⟨rfl, rfl⟩
                  go_wp2_with fail
                  go_roundw
                  case rel =>
                    have hh := HJ.out
                    have fu2 := HF2.out
                    rw [HWW.out]
                    exact ⟨_, s4, hff, by show C.j ≤ C'.j + 1; omega, HE.out, fu2⟩
                  case measure => exact HM.out _ (by rw [HWW.out]; exact s4.fee.cell 2)
              · have d32 : decide (x < 32) = false := by simpa using h32
                have HL : Hid (live st x) := by show live st x; unfold live; rw [ht]; exact ⟨h24, h26, h27, Or.inl h32⟩
                clear h24 h26 h27 ht n1
                go_wp2_with fail
                refine (hit _).mono ?_
                rintro e w5 ⟨rfl, rfl⟩
                go_wp2_with fail
                refine (hic _).mono ?_
                rintro e w5 ⟨rfl, rfl⟩
                go_wp2_with fail
                go_ret
                exact ⟨true, { C' with j := C'.j + 1, x := x }, rfl, HWW.out ▸ s4, HWW.out ▸ hff, .inl ⟨rfl, C'.j, u, rfl, HJ.out, HU.out, HX.out.symm, HE.out, by rw [HX.out]; exact HL.out, HFu.out⟩⟩
            | false =>
              simp only [ht] at hit
              by_cases h32 : x < 32
              · have d32 : decide (x < 32) = true := by simpa using h32
                have HS2 := Lib.hid (HCtl.out h24 h26 h27 (by rw [HE.out]; exact ht) h32)
                clear h24 h26 h27 ht n1
                go_wp2_with fail
                refine (hit _).mono ?_
                rintro e w5 ⟨rfl, rfl⟩
                go_wp2_with fail
                refine (hic _).mono ?_
                rintro e w5 ⟨rfl, rfl⟩
                go_wp2_with fail
                rw [HWW.out]
                refine hco.mono ?_
                rintro e w5 ⟨rfl, C5, s5, f5, j5, x5, S5, o5⟩
                have HJ5 := Lib.hid j5
                have HS5 := Lib.hid S5
                have HO5 := Lib.hid o5
                clear j5 x5 S5 o5
                go_wp2
                go_roundw
                case rel =>
                  refine ⟨C5, s5, hff.trans f5, ?_, ?_, ?_⟩
                  · rw [HJ5.out]; show C.j ≤ C'.j + 1; have := HJ.out; omega
                  · rw [HS5.out]; exact HE.out
                  · rw [HS5.out, HJ5.out]
                    exact HF1.out C5 _ _ HS2.out HO5.out
                case measure => exact HM.out _ (by have q := s5.fee.cell 2; have q2 : w5.cell? ⟨K.fb, 2, none⟩ = some (.int .i64 (C5.j : Int)) := q; rw [q2, HJ5.out]; rfl)
              · have d32 : decide (x < 32) = false := by simpa using h32
                by_cases h127 : 127 < x
                · have d127 : decide (127 < x) = true := by simpa using h127
                  cases hh : isHd st with
                  | true =>
                    simp only [hh] at hih
                    obtain ⟨s6, f6⟩ := s4.back C'.j jl
                    have hdr6 := drop_any s6.P.par s6.P.dec s6.P.bd.di
                    have fu2 := fun C2 h => HW.out C2 (by rw [HE.out]; exact ht) h127 (by rw [HE.out]; exact hh) h
                    have HF2 := Lib.hid fu2
                    have HH := Lib.hid hh
                    have z3 : W.cell? ⟨K.fb, 2, none⟩ = some (.int .i64 ((C'.j : Int) + 1)) := s4.fee.cell 2
                    clear h24 h26 h27 ht n1 fu2 hh
                    go_wp2_with fail
                    refine (hit _).mono ?_
                    rintro e w5 ⟨rfl, rfl⟩
                    go_wp2_with fail
                    refine (hic _).mono ?_
                    rintro e w5 ⟨rfl, rfl⟩
                    go_wp2_with fail
                    refine (hih _).mono ?_
                    rintro e w5 ⟨rfl, rfl⟩
                    go_wp2_with fail
                    rw [HWW.out]
                    refine hdr6.mono ?_
                    rintro e w5 ⟨rfl, hb5, hd5, hk5⟩
                    obtain ⟨s5, f5⟩ := s6.drop hk5 hb5 hd5
                    go_wp2
                    go_ret
                    exact ⟨false, _, rfl, s5, (hff.trans f6).trans f5, .inr ⟨rfl, HF2.out _ rfl, HJ.out, .inr (.inr ⟨HH.out, rfl⟩)⟩⟩
                  | false =>
                    simp only [hh] at hih
                    have e127 : (x != 127) = true := by simp; omega
                    have HL : Hid (live st x) := by show live st x; unfold live; rw [ht, hh]; exact ⟨h24, h26, h27, h32, (fun h => absurd h.2 (by decide)), by omega⟩
                    clear h24 h26 h27 ht n1 hh
                    go_wp2_with fail
                    refine (hit _).mono ?_
                    rintro e w5 ⟨rfl, rfl⟩
                    go_wp2_with fail
                    refine (hic _).mono ?_
                    rintro e w5 ⟨rfl, rfl⟩
                    go_wp2_with fail
                    refine (hih _).mono ?_
                    rintro e w5 ⟨rfl, rfl⟩
                    go_wp2_with fail
                    go_ret
                    exact ⟨true, { C' with j := C'.j + 1, x := x }, rfl, HWW.out ▸ s4, HWW.out ▸ hff, .inl ⟨rfl, C'.j, u, rfl, HJ.out, HU.out, HX.out.symm, HE.out, by rw [HX.out]; exact HL.out, HFu.out⟩⟩
                · have d127 : decide (127 < x) = false := by simpa using h127
                  by_cases h128 : x = 127
                  · have e127 : (x != 127) = false := by simp [h128]
                    have fu2 := HF1.out { C' with j := C'.j + 1, x := x } C'.S [] (HDel.out (by rw [HE.out]; exact ht) h128) (List.append_nil _).symm
                    have HF2 := Lib.hid fu2
                    clear h24 h26 h27 ht n1 fu2 h128
                    go_wp2_with fail
                    refine (hit _).mono ?_
                    rintro e w5 ⟨rfl, rfl⟩
                    go_wp2_with fail
                    refine (hic _).mono ?_
                    rintro e w5 ⟨rfl, rfl⟩
                    go_wp2_with fail
                    go_roundw
                    case rel =>
                      have hh := HJ.out
                      have fu2 := HF2.out
                      rw [HWW.out]
                      exact ⟨_, s4, hff, by show C.j ≤ C'.j + 1; omega, HE.out, fu2⟩
                    case measure => exact HM.out _ (by rw [HWW.out]; exact s4.fee.cell 2)
                  · have e127 : (x != 127) = true := by simp [h128]
                    have HL : Hid (live st x) := by show live st x; unfold live; rw [ht]; exact ⟨h24, h26, h27, h32, (fun h => absurd h.1 h127), h128⟩
                    clear h24 h26 h27 ht n1 h128
                    go_wp2_with fail
                    refine (hit _).mono ?_
                    rintro e w5 ⟨rfl, rfl⟩
                    go_wp2_with fail
                    refine (hic _).mono ?_
                    rintro e w5 ⟨rfl, rfl⟩
                    go_wp2_with fail
                    go_ret
                    exact ⟨true, { C' with j := C'.j + 1, x := x }, rfl, HWW.out ▸ s4, HWW.out ▸ hff, .inl ⟨rfl, C'.j, u, rfl, HJ.out, HU.out, HX.out.symm, HE.out, by rw [HX.out]; exact HL.out, HFu.out⟩⟩
    · have HFu := Lib.hid hfu
      have HJ := Lib.hid hj
      have hnd : decide ((C'.j : Int) < (K.l.length : Int)) = false := by simpa using hlt
      go_wp2_with fail
      go_quiet (fail)
      go_wp2_with fail
      go_ret
      exact ⟨false, C', rfl, hs.drewN _, hf.trans (Fr.same (p := fun _ => False) ((Kept.refl wr _).drewN _) fun _ hf => hf.elim), .inr ⟨rfl, HFu.out, HJ.out, .inl (by omega)⟩⟩
end Go.Proofs.YtjklnnklgkihlaaGreatDoor.Vt
/- The walk of a Feed's collect: the bytes of a head. -/
namespace Go.Proofs.YtjklnnklgkihlaaGreatDoor.Vt
open Go.RowKit
open Cel (Blk Kept Tabs low Owns At)

/-- As Fu, with what is still to be told. -/
def Fe (K : Ctx) (C : Cfg) (S2 : Ps) (a : List Ac) (j : Nat) : Ps × List Ac := ((run S2 (K.l.drop j)).1, outs C.out ++ a ++ (run S2 (K.l.drop j)).2)
theorem fe_of {K : Ctx} {C C' : Cfg} {S S2 : Ps} {m : Nat} {u : UInt8} {a : List Ac} {F : Ps × List Ac} (h : Fu K C S m = F) (hm : K.l[m]? = some u) (hs : step S u = (S2, a)) (ho : outs C'.out = outs C.out) : Fe K C' S2 a (m + 1) = F := by
  obtain ⟨hl, hu⟩ := List.getElem?_eq_some_iff.1 hm
  rw [← h]
  unfold Fu Fe
  rw [List.drop_eq_getElem_cons hl, hu, ho]
  simp only [run, hs, List.append_assoc]
theorem fe_end {K : Ctx} {C C' : Cfg} {S2 : Ps} {j : Nat} {a : List Ac} {F : Ps × List Ac} (h : Fe K C S2 a j = F) (ho : outs C'.out = outs C.out ++ a) : Fu K C' S2 j = F := by
  rw [← h]; unfold Fu Fe; rw [ho]
theorem fe_len {K : Ctx} {C : Cfg} {S2 : Ps} {j : Nat} {a : List Ac} {F : Ps × List Ac} (h : Fe K C S2 a j = F) : C.out.length + a.length ≤ F.2.length := by
  rw [← h]; unfold Fe; simp only [List.length_append, outs_len]; omega
theorem step_head {S : Ps} {u : UInt8} (hs : S.s = 4 ∨ S.s = 5 ∨ S.s = 6) (hl : live S.s (u.toNat : Int)) :
    step S u = if isFin S.k (u.toNat : Int) then ended { S with b := (u.toNat : Int) } (u.toNat : Int) else if fits S (u.toNat : Int) then (add S u, []) else ({ S with s := 7 }, []) := by
  obtain ⟨h1, h2, h3, h4⟩ := hl
  have ht : isTx S.s = false := by rcases hs with h | h | h <;> rw [h] <;> rfl
  rw [if_neg (by rw [ht]; decide)] at h4
  obtain ⟨h4, h5, h6⟩ := h4
  unfold step
  simp only [if_neg (show ¬ ((u.toNat : Int) = 24 ∨ (u.toNat : Int) = 26) by omega), if_neg h3, if_neg (show ¬ (isTx S.s = true) by rw [ht]; decide), if_neg h4, if_neg h5, if_neg h6, if_neg (show ¬ S.s = 0 by omega), if_neg (show ¬ S.s = 7 by omega)]
theorem step_ign {S : Ps} {u : UInt8} (hs : S.s = 7) (hl : live S.s (u.toNat : Int)) :
    step S u = if isFin S.k (u.toNat : Int) then (if S.k = 6 then { ps0 with s := 3 } else ps0, []) else (S, []) := by
  obtain ⟨h1, h2, h3, h4⟩ := hl
  have ht : isTx S.s = false := by rw [hs]; rfl
  rw [if_neg (by rw [ht]; decide)] at h4
  obtain ⟨h4, h5, h6⟩ := h4
  unfold step
  simp only [if_neg (show ¬ ((u.toNat : Int) = 24 ∨ (u.toNat : Int) = 26) by omega), if_neg h3, if_neg (show ¬ (isTx S.s = true) by rw [ht]; decide), if_neg h4, if_neg h5, if_neg h6, if_neg (show ¬ S.s = 0 by omega), if_pos hs]
/-- A byte that is no final one, and fits, is 48 at the least if it belongs to the numbers. -/
theorem fits_num {S : Ps} {x : Int} (hs : S.s = 4 ∨ S.s = 5 ∨ S.s = 6) (hl : live S.s x) : isBet x = true ∨ isMk x = true ∨ 48 ≤ x := by
  obtain ⟨h1, h2, h3, h4⟩ := hl
  have ht : isTx S.s = false := by rcases hs with h | h | h <;> rw [h] <;> rfl
  rw [if_neg (by rw [ht]; decide)] at h4
  by_cases h : 48 ≤ x
  · exact .inr (.inr h)
  · refine .inl ?_
    unfold isBet; simp; omega
theorem Sys.setB {K : Ctx} {w : World} {C : Cfg} (h : Sys K w C) :
    Sys K (w.drew.setCell ⟨K.pb, 4, none⟩ (.int .u8 C.x)) { C with S := { C.S with b := C.x } } ∧ Fr K w C (w.drew.setCell ⟨K.pb, 4, none⟩ (.int .u8 C.x)) { C with S := { C.S with b := C.x } } := by
  have hk : Kept w (w.drew.setCell ⟨K.pb, 4, none⟩ (.int .u8 C.x)) (fun i => i = K.pb) := Kept.setCell (p := fun i => i = K.pb) (Kept.refl w _).drew (a := ⟨K.pb, 4, none⟩) rfl _
  have hb := h.P.bd
  have hp : Blk w.drew K.pb 101 (parL C.S C.pv C.tv K.db).toArray := h.P.par
  have e : (parL C.S C.pv C.tv K.db).toArray.setIfInBounds 4 (.int .u8 C.x) = (parL { C.S with b := C.x } C.pv C.tv K.db).toArray := by
    unfold parL; generalize nm C.S.s = z; simp
  exact h.setP hk { C.S with b := C.x } C.pv C.tv (blk_of (hp.set_ 4 _) e) rfl ⟨hb.s1, hb.k0, hb.k1, h.x0, h.x1, hb.pl, hb.pz, hb.il, hb.tl, hb.di⟩ (.inl ⟨rfl, rfl⟩) (.inl ⟨rfl, rfl⟩)
/-- What collect leaves. -/
def Coll (K : Ctx) (w : World) (C : Cfg) (st : Nat) (F : Ps × List Ac) (e : Ending) (w' : World) : Prop :=
  ∃ (r : Int) (C' : Cfg), e = .returned (.int .i64 r) ∧ Sys K w' C' ∧ Fr K w C w' C' ∧
    ((r = 2 ∧ C.j < C'.j ∧ C'.S.s = st ∧ Fe K C' (ended C'.S C'.x).1 (ended C'.S C'.x).2 C'.j = F) ∨
     (r = 1 ∧ C.j < C'.j ∧ Fu K C' { C'.S with s := 7 } C'.j = F) ∨
     (r = 0 ∧ Fu K C' C'.S C'.j = F ∧ C.j ≤ C'.j ∧ (C'.j = K.l.length ∨ C.j < C'.j ∨ C'.S.s = 0)))
set_option maxRecDepth 100000 in
set_option maxHeartbeats 4000000 in
theorem collect_any {K : Ctx} {w : World} {C : Cfg} (hS : Sys K w C) (st : Nat) (hst : st = 4 ∨ st = 5 ∨ st = 6) (F : Ps × List Ac) (hF : Fu K C { C.S with s := st } C.j = F) (hn : F.2.length ≤ 4294967200) :
    Calls Tryz.prog 67 #[ptr K.fb, .string (nm st)] w (Coll K w C st F) := by
  have HF := Lib.hid hF
  clear hF
  go_enter Tryz.func67, Tryz.ntmps67
  go_wp2
  go_loopw [] (fun wr => ∃ C', Sys K wr C' ∧ Fr K w C wr C' ∧ C.j ≤ C'.j ∧ Fu K C' { C'.S with s := st } C'.j = F) (fun wr => K.l.length - (intOf ((wr.cell? ⟨K.fb, 2, none⟩).getD (.int .i64 0))).toNat)
  case atStart => exact ⟨_, hS, Fr.refl _ _ _, Nat.le_refl _, HF.out⟩
  case round =>
    obtain ⟨C', hs, hf, hj, hfu⟩ := hrel
    have q2 : wr.cell? ⟨K.fb, 2, none⟩ = some (.int .i64 C'.j) := hs.fee.cell 2
    have jl := hs.jl
    have ms : ∀ (W : World) (m : Nat), W.cell? ⟨K.fb, 2, none⟩ = some (.int .i64 (m : Int)) → C'.j < m → m ≤ K.l.length → K.l.length - (intOf ((W.cell? ⟨K.fb, 2, none⟩).getD (.int .i64 0))).toNat < K.l.length - (intOf ((wr.cell? ⟨K.fb, 2, none⟩).getD (.int .i64 0))).toNat := by
      intro W m hW h1 h2
      rw [hW, q2]
      simp [intOf]
      omega
    have HM := Lib.hid ms
    have tk := take_any hs st (by omega) F hfu hn
    have HJ := Lib.hid hj
    clear ms hfu hj
    go_wp2_with fail
    refine tk.mono ?_
    rintro e w2 ⟨t, C2, rfl, s2, f2, ⟨rfl, m, u, hm, hjm, hu, hx, hs2, hl, hfu2⟩ | ⟨rfl, hfu2, hj2, hc2⟩⟩
    · have hj3 : C.j < C2.j := by have := HJ.out; omega
      have hfin := final_any s2
      rw [← hs2] at hl
      have hst2 : C2.S.s = 4 ∨ C2.S.s = 5 ∨ C2.S.s = 6 := by rw [hs2]; exact hst
      have hstep := step_head hst2 hl
      have HM2 := Lib.hid hm
      have HX := Lib.hid hx
      have HU := Lib.hid hu
      have HL := Lib.hid hl
      have HF2 := Lib.hid hfu2
      have HS2 := Lib.hid hs2
      have HT := Lib.hid hst2
      have ff := hf.trans f2
      clear hm hx hu hl hfu2 hs2 hst2
      cases hfi : isFin C2.S.k C2.x with
      | true =>
        rw [hfi] at hfin
        have hstep2 : step C2.S u = ended { C2.S with b := (u.toNat : Int) } (u.toNat : Int) := by rw [hstep, if_pos (by rw [← HX.out]; exact hfi)]
        have HE := Lib.hid hstep2
        clear hstep hstep2 hfi
        go_wp2_with fail
        refine hfin.mono ?_
        rintro e w3 ⟨rfl, n, hw3⟩
        have s3 : Sys K w3 C2 := hw3 ▸ s2.drewN n
        have f3 : Fr K w2 C2 w3 C2 := hw3 ▸ Fr.same (p := fun _ => False) ((Kept.refl w2 _).drewN n) fun _ hf => hf.elim
        clear hw3 hfin
        have c0 : w3.cell? ⟨K.fb, 0, none⟩ = some (ptr K.pb) := s3.fee.cell 0
        have c3 : w3.cell? ⟨K.fb, 3, none⟩ = some (.int .u8 C2.x) := s3.fee.cell 3
        have c4 : w3.cell? ⟨K.pb, 4, none⟩ = some (.int .u8 C2.S.b) := s3.P.par.cell 4
        have g4 : w3.frozen? ⟨K.pb, 4, none⟩ = false := s3.P.par.frozen 4
        obtain ⟨s4, f4⟩ := s3.setB
        go_wp2_with fail
        go_region
        go_wp2
        go_ret
        refine ⟨2, _, rfl, s4, (ff.trans f3).trans f4, .inl ⟨rfl, hj3, HS2.out, ?_⟩⟩
        show Fe K _ (ended { C2.S with b := C2.x } C2.x).1 (ended { C2.S with b := C2.x } C2.x).2 C2.j = F
        rw [HX.out, HM2.out]
        exact fe_of HF2.out HU.out (by rw [HE.out]) rfl
      | false =>
        rw [hfi] at hfin
        have hft := fun (w : World) (s : Sys K w C2) => fits_any s
        cases hfs : fits C2.S C2.x with
        | false =>
          simp only [hfs] at hft
          have hstep2 : step C2.S u = ({ C2.S with s := 7 }, []) := by rw [hstep, if_neg (by rw [← HX.out, hfi]; decide), if_neg (by rw [← HX.out, hfs]; decide)]
          have HE := Lib.hid hstep2
          clear hstep hstep2 hfi hfs
          go_wp2_with fail
          refine hfin.mono ?_
          rintro e w3 ⟨rfl, n, hw3⟩
          have s3 : Sys K w3 C2 := hw3 ▸ s2.drewN n
          have f3 : Fr K w2 C2 w3 C2 := hw3 ▸ Fr.same (p := fun _ => False) ((Kept.refl w2 _).drewN n) fun _ hf => hf.elim
          clear hw3 hfin
          go_wp2_with fail
          refine (hft _ s3).mono ?_
          rintro e w4 ⟨rfl, s4, f4⟩
          go_wp2_with fail
          go_ret
          refine ⟨1, _, rfl, s4, (ff.trans f3).trans f4, .inr (.inl ⟨rfl, hj3, ?_⟩)⟩
          rw [HM2.out]
          exact (fu_step HU.out HE.out (List.append_nil _).symm).trans HF2.out
        | true =>
          have had := fun (w : World) (s : Sys K w C2) => add_any s u HX.out hfs (by have := fits_num HT.out HL.out; rw [HX.out]; exact this)
          simp only [hfs] at hft
          have hstep2 : step C2.S u = (add C2.S u, []) := by rw [hstep, if_neg (by rw [← HX.out, hfi]; decide), if_pos (by rw [← HX.out, hfs])]
          have HE := Lib.hid hstep2
          clear hstep hstep2 hfi hfs
          go_wp2_with fail
          refine hfin.mono ?_
          rintro e w3 ⟨rfl, n, hw3⟩
          have s3 : Sys K w3 C2 := hw3 ▸ s2.drewN n
          have f3 : Fr K w2 C2 w3 C2 := hw3 ▸ Fr.same (p := fun _ => False) ((Kept.refl w2 _).drewN n) fun _ hf => hf.elim
          clear hw3 hfin
          go_wp2_with fail
          refine (hft _ s3).mono ?_
          rintro e w4 ⟨rfl, s4, f4⟩
          go_wp2_with fail
          refine (had _ s4).mono ?_
          rintro e w5 ⟨rfl, C5, s5, f5, j5, x5, S5, o5⟩
          have HJ5 := Lib.hid j5
          have HS5 := Lib.hid S5
          have HO5 := Lib.hid o5
          clear j5 x5 S5 o5
          go_wp2
          go_roundw
          case rel =>
            refine ⟨C5, s5, ((ff.trans f3).trans f4).trans f5, by rw [HJ5.out]; omega, ?_⟩
            have e : { C5.S with s := st } = add C2.S u := by
              rw [HS5.out]
              have : (add C2.S u).s = st := by rw [← HS2.out]; unfold add; split <;> rfl
              rw [← this]
            rw [e, HJ5.out, HM2.out]
            exact (fu_step HU.out HE.out HO5.out).trans HF2.out
          case measure => exact HM.out _ C5.j (s5.fee.cell 2) (by rw [HJ5.out, HM2.out]; omega) s5.jl
    · have HC := Lib.hid hc2
      have HF2 := Lib.hid hfu2
      clear hc2 hfu2
      go_wp2_with fail
      go_ret
      refine ⟨0, C2, rfl, s2, hf.trans f2, .inr (.inr ⟨rfl, HF2.out, Nat.le_trans HJ.out hj2, ?_⟩)⟩
      have := HJ.out
      rcases HC.out with h | h | h
      · exact .inl h
      · exact .inr (.inl (by omega))
      · exact .inr (.inr h.2)
end Go.Proofs.YtjklnnklgkihlaaGreatDoor.Vt
/- A scope in which the run jumps to labels: unrolled, a jump a step. No word of the program but its name. -/
namespace Go.Proofs.YtjklnnklgkihlaaGreatDoor.Vt

/-- As Q; by a goto: the rest of the scope from that label on, with one jump fewer to go. -/
def Jn (P : Program) (c : Code) (Q : Exit → Act → World → Prop) : Nat → Exit → Act → World → Prop
  | n + 1, .goto l, a, w => ∃ rest, findLabel c l = some rest ∧ rest.wp P (Jn P c Q n) a w
  | 0, .goto _, _, _ => False
  | _, e, a, w => Q e a w
section
variable {P : Program} {a : Act} {w : World} {Q : Exit → Act → World → Prop} {c : Code}
theorem Jn.normal (n : Nat) : Jn P c Q n .normal a w = Q .normal a w := by cases n <;> rfl
theorem Jn.exit (n id : Nat) : Jn P c Q n (.exit id) a w = Q (.exit id) a w := by cases n <;> rfl
theorem Jn.ret (n : Nat) : Jn P c Q n .ret a w = Q .ret a w := by cases n <;> rfl
theorem Jn.panic (n : Nat) (ch : List PanicEntry) : Jn P c Q n (.panic ch) a w = Q (.panic ch) a w := by cases n <;> rfl
theorem Jn.outgrown (n : Nat) : Jn P c Q n .outgrown a w = Q .outgrown a w := by cases n <;> rfl
theorem Jn.go {n l : Nat} {rest : Code} (hf : findLabel c l = some rest) (h : rest.wp P (Jn P c Q n) a w) : Jn P c Q (n + 1) (.goto l) a w := ⟨rest, hf, h⟩
theorem wp_scope_unroll (n : Nat) (h : c.wp P (Jn P c Q n) a w) : (Code.scope c).wp P Q a w := by
  intro b k cs
  have key : ∀ n (c' : Code) a w, c'.wp P (Jn P c Q n) a w → ∃ e a' w', Q e a' w' ∧ Arrives P (lone (b.at a (.code c' :: .inScope c :: k)) cs w) b k cs e a' w' := by
    intro n
    induction n with
    | zero =>
      intro c' a w h
      obtain ⟨e, a₁, w₁, hq, harr⟩ := h b (.inScope c :: k) cs
      cases e with
      | normal => exact ⟨.normal, a₁, w₁, hq, Steps.trans harr (.one step_inScope)⟩
      | exit id => exact ⟨.exit id, a₁, w₁, hq, fun k' hk => harr k' (by simp [exitTo, hk])⟩
      | goto l => exact hq.elim
      | ret => exact ⟨_, a₁, w₁, hq, harr⟩
      | panic ch => exact ⟨_, a₁, w₁, hq, harr⟩
      | outgrown => exact ⟨_, a₁, w₁, hq, harr⟩
    | succ n ih =>
      intro c' a w h
      obtain ⟨e, a₁, w₁, hq, harr⟩ := h b (.inScope c :: k) cs
      cases e with
      | normal => exact ⟨.normal, a₁, w₁, hq, Steps.trans harr (.one step_inScope)⟩
      | exit id => exact ⟨.exit id, a₁, w₁, hq, fun k' hk => harr k' (by simp [exitTo, hk])⟩
      | goto l =>
        obtain ⟨rest, hf, hr⟩ := hq
        have hg : gotoIn l (.inScope c :: k) = some (.code rest :: .inScope c :: k) := by simp [gotoIn, hf]
        obtain ⟨e₂, a₂, w₂, hq₂, harr₂⟩ := ih rest a₁ w₁ hr
        exact ⟨e₂, a₂, w₂, hq₂, .of_steps (harr _ hg) harr₂⟩
      | ret => exact ⟨_, a₁, w₁, hq, harr⟩
      | panic ch => exact ⟨_, a₁, w₁, hq, harr⟩
      | outgrown => exact ⟨_, a₁, w₁, hq, harr⟩
  obtain ⟨e, a', w', hq, harr⟩ := key n c a w h
  refine ⟨e, a', w', hq, ?_⟩
  exact .of_steps (.one step_scope) harr
end
end Go.Proofs.YtjklnnklgkihlaaGreatDoor.Vt
