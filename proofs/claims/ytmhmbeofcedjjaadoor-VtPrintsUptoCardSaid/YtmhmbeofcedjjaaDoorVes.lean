/- The walks of a Feed's own methods: an ESC, its end, what is passed over. -/
import Derived.Test.YtmhmbeofcedjjaaDoorVtb
namespace Go.Proofs.YtmhmbeofcedjjaaDoor.Vt
open Go.RowKit
open Cel (Blk Kept Tabs low Owns At)

theorem s8 {s : Nat} (hs : s ≤ 7) : s = 0 ∨ s = 1 ∨ s = 2 ∨ s = 3 ∨ s = 4 ∨ s = 5 ∨ s = 6 ∨ s = 7 := by omega
theorem nm_is (s : Nat) (hs : s ≤ 7) :
    ((nm s).toList == [103, 114, 111, 117, 110, 100]) = decide (s = 0) ∧ ((nm s).toList == [111, 115, 99]) = decide (s = 1) ∧ ((nm s).toList == [100, 97, 116, 97]) = decide (s = 2) ∧ ((nm s).toList == [115, 116, 114, 105, 110, 103]) = decide (s = 3) ∧
    ((nm s).toList == [101, 115, 99, 97, 112, 101]) = decide (s = 4) ∧ ((nm s).toList == [99, 115, 105]) = decide (s = 5) ∧ ((nm s).toList == [100, 99, 115]) = decide (s = 6) ∧ ((nm s).toList == [105, 103, 110, 111, 114, 101]) = decide (s = 7) := by
  rcases s8 hs with rfl | rfl | rfl | rfl | rfl | rfl | rfl | rfl <;> simp [nm]
/-- What is told, without the values. -/
def outs (l : List To) : List Ac := l.map (·.1)
theorem outs_app (a b : List To) : outs (a ++ b) = outs a ++ outs b := by simp [outs]
theorem outs_prts (l : List Int) : outs (prts l) = l.map prt := by simp [outs, prts, Function.comp_def]
theorem outs_len (l : List To) : (outs l).length = l.length := by simp [outs]
/-- What a method leaves: the parser in state S, new told; j and x as they were. -/
def Left (K : Ctx) (w : World) (C : Cfg) (S : Ps) (new : List Ac) (e : Ending) (w' : World) : Prop :=
  e = .returned (.tuple #[]) ∧ ∃ C', Sys K w' C' ∧ Fr K w C w' C' ∧ C'.j = C.j ∧ C'.x = C.x ∧ C'.S = S ∧ outs C'.out = outs C.out ++ new
theorem tellBegun_left {K : Ctx} {w : World} {C : Cfg} (h : Sys K w C) (hn : C.out.length ≤ 4294967290) :
    Calls Tryd.prog 41 #[ptr K.fb] w (Left K w C ps0 [act C.S]) :=
  (tellBegun_any h hn).mono fun e w' ⟨he, C', v', h1, h2, h3, h4, h5, h6⟩ => ⟨he, C', h1, h2, h3, h4, h5, by rw [h6, outs_app]; rfl⟩
theorem control_left {K : Ctx} {w : World} {C : Cfg} (h : Sys K w C) (hn : C.out.length ≤ 4294967290) :
    Calls Tryd.prog 59 #[ptr K.fb] w (Left K w C { C.S with d := Cel.zero } ((Cel.lost C.S.d).map prt ++ [ctl C.x])) :=
  (control_any h hn).mono fun e w' ⟨he, C', h1, h2, h3, h4, h5, h6⟩ => ⟨he, C', h1, h2, h3, h4, h5, by rw [h6, outs_app, outs_app, outs_prts]; rfl⟩

theorem Bd.esc {S : Ps} : Bd (escP S) := ⟨by show 4 ≤ 7; omega, by show (0 : Int) ≤ 3; omega, by show (3 : Int) ≤ 6; omega, by show (0 : Int) ≤ 0; omega, by show (0 : Int) ≤ 255; omega, by show (0 : Nat) ≤ 33; omega, (fun p hp => by cases hp), by show (0 : Nat) ≤ 3; omega, by show (0 : Nat) ≤ 1024; omega, Cel.inv_zero⟩
/-- A sequence has begun. -/
theorem esc_sys {K : Ctx} {w w' : World} {C : Cfg} (h : Sys K w C) (hb : Blk w' K.pb 47 (parL { C.S with k := 3, b := 0, ps := [], it := [], tx := [], af := false } nilV nilV K.db).toArray) (k : Kept w w' (fun i => i = K.pb)) (hd : C.S.d = Cel.zero) (af : Bool) :
    ∃ C', Sys K ((w'.setCell ⟨K.pb, 9, none⟩ (.bool af)).setCell ⟨K.pb, 0, none⟩ (.string { data := #[101, 115, 99, 97, 112, 101] })) C' ∧ Fr K w C ((w'.setCell ⟨K.pb, 9, none⟩ (.bool af)).setCell ⟨K.pb, 0, none⟩ (.string { data := #[101, 115, 99, 97, 112, 101] })) C' ∧
      C'.j = C.j ∧ C'.x = C.x ∧ C'.S = ⟨4, Cel.zero, 3, 0, [], [], [], af⟩ ∧ C'.out = C.out := by
  have hb2 := (hb.set_ 9 (.bool af)).set_ 0 (.string { data := #[101, 115, 99, 97, 112, 101] })
  have k2 := (k.setCell (a := ⟨K.pb, 9, none⟩) rfl (.bool af)).setCell (a := ⟨K.pb, 0, none⟩) rfl (.string { data := #[101, 115, 99, 97, 112, 101] })
  have e : (((parL { C.S with k := 3, b := 0, ps := [], it := [], tx := [], af := false } nilV nilV K.db).toArray.setIfInBounds 9 (.bool af)).setIfInBounds 0 (.string { data := #[101, 115, 99, 97, 112, 101] })) = (parL ⟨4, Cel.zero, 3, 0, [], [], [], af⟩ nilV nilV K.db).toArray := by
    unfold parL
    generalize nm C.S.s = z
    simp [nm]
  rw [e] at hb2
  have hbd : Bd ⟨4, Cel.zero, 3, 0, [], [], [], af⟩ := ⟨by show 4 ≤ 7; omega, by show (0 : Int) ≤ 3; omega, by show (3 : Int) ≤ 6; omega, by show (0 : Int) ≤ 0; omega, by show (0 : Int) ≤ 255; omega, by show (0 : Nat) ≤ 33; omega, (fun p hp => by cases hp), by show (0 : Nat) ≤ 3; omega, by show (0 : Nat) ≤ 1024; omega, Cel.inv_zero⟩
  obtain ⟨s, f⟩ := h.setP k2 ⟨4, Cel.zero, 3, 0, [], [], [], af⟩ nilV nilV hb2 hd.symm hbd (.inr ⟨rfl, rfl⟩) (.inr ⟨rfl, rfl⟩)
  exact ⟨_, s, f, rfl, rfl, rfl, rfl⟩
set_option maxRecDepth 100000 in
set_option maxHeartbeats 2000000 in
theorem escape_any {K : Ctx} {w : World} {C : Cfg} (hS : Sys K w C) (hn : C.out.length ≤ 4294967280) :
    Calls Tryd.prog 58 #[ptr K.fb] w (Left K w C (escP C.S) (escA C.S)) := by
  have c0 : w.cell? ⟨K.fb, 0, none⟩ = some (ptr K.pb) := hS.fee.cell 0
  have c1 : w.cell? ⟨K.pb, 0, none⟩ = some (.string (nm C.S.s)) := hS.P.par.cell 0
  have c2 : w.cell? ⟨K.pb, 1, none⟩ = some (ptr K.db) := hS.P.par.cell 1
  have hl : (Cel.lost C.S.d).length ≤ 1 := by unfold Cel.lost; split <;> simp
  have he := Cel.end_any C.S.d hS.P.bd.di K.db w hS.P.dec
  have hit := isText_any C.S.s hS.P.bd.s1 w
  obtain ⟨_, q1, q2, _⟩ := nm_is C.S.s hS.P.bd.s1
  have HP : Hid (escP C.S = ⟨4, Cel.zero, 3, 0, [], [], [], isTx C.S.s⟩) := rfl
  rw [HP.out]
  clear HP
  generalize isTx C.S.s = af at *
  have hcase : (decide (C.S.s = 1) = true ∧ C.S.s = 1) ∨ (decide (C.S.s = 1) = false ∧ decide (C.S.s = 2) = true ∧ C.S.s = 2) ∨ (decide (C.S.s = 1) = false ∧ decide (C.S.s = 2) = false ∧ ¬ (C.S.s = 1 ∨ C.S.s = 2)) := by simp; omega
  rcases hcase with ⟨r1, hs⟩ | ⟨r1, r2, hs⟩ | ⟨r1, r2, hs⟩
  · rw [r1] at q1
    have HA : Hid (escA C.S = (Cel.lost C.S.d).map prt ++ [act C.S]) := by show _ = _; unfold escA; rw [if_pos (.inl hs)]
    rw [HA.out]
    clear r1 hs HA
    go_enter Tryd.func58, Tryd.ntmps58
    go_wp2_with fail
    refine hit.mono ?_
    rintro e w' ⟨rfl, rfl⟩
    go_wp2_with fail
    refine he.mono ?_
    rintro e w1 ⟨v, rfl, hz, ho, hk⟩
    obtain ⟨s1, f1⟩ := hS.setD hk Cel.zero hz Cel.inv_zero
    have hn1 : C.out.length + (Cel.lost C.S.d).length ≤ 4294967296 := by omega
    have hp := print_any s1 w.heap.size v _ ho hn1
    clear he c0 c1 c2 hit
    go_wp2_with fail
    refine hp.mono ?_
    rintro e w2 ⟨rfl, ov2, s2, f2⟩
    have c0 : w2.cell? ⟨K.fb, 0, none⟩ = some (ptr K.pb) := s2.fee.cell 0
    have c1 : w2.cell? ⟨K.pb, 0, none⟩ = some (.string (nm C.S.s)) := s2.P.par.cell 0
    clear hp ho hz hk
    have hn2 : (C.out ++ prts (Cel.lost C.S.d)).length ≤ 4294967290 := by rw [List.length_append, prts_len]; omega
    have ht := tellBegun_any s2 hn2
    go_wp2_with fail
    refine ht.mono ?_
    rintro e w3 ⟨rfl, C3, v3, s3, f3, j3, x3, S3, o3⟩
    have d0 : w3.cell? ⟨K.fb, 0, none⟩ = some (ptr K.pb) := s3.fee.cell 0
    have J3 := Lib.hid j3
    have X3 := Lib.hid x3
    have T3 := Lib.hid S3
    have O3 := Lib.hid o3
    clear c0 c1 ht q1 q2 j3 x3 S3 o3
    go_wp2_with fail
    refine (begin_any s3.P.par 3).mono ?_
    rintro e w4 ⟨rfl, hb4, hk4⟩
    have e0 : w4.cell? ⟨K.fb, 0, none⟩ = some (ptr K.pb) := (hk4.blk s3.fee fun e => s3.sep.pf e.symm).cell 0
    have e9 := hb4.cell 9
    have e9f := hb4.frozen 9
    have e1 := hb4.cell 0
    have e1f := hb4.frozen 0
    have hpf := s3.sep.pf
    obtain ⟨C5, s5, f5, j5, x5, S5, o5⟩ := esc_sys s3 hb4 hk4 (by rw [T3.out]; rfl) af
    have J5 := Lib.hid j5
    have X5 := Lib.hid x5
    have T5 := Lib.hid S5
    have O5 := Lib.hid o5
    clear d0 hb4 hk4 j5 x5 S5 o5
    go_wp2
    go_end0
    refine ⟨rfl, C5, s5, ((f1.trans f2).trans f3).trans f5, J5.out.trans J3.out, X5.out.trans X3.out, T5.out, ?_⟩
    rw [O5.out, O3.out, outs_app, outs_app, outs_prts, List.append_assoc]
    rfl
  · rw [r1] at q1
    rw [r2] at q2
    have HA : Hid (escA C.S = (Cel.lost C.S.d).map prt ++ [act C.S]) := by show _ = _; unfold escA; rw [if_pos (.inr hs)]
    rw [HA.out]
    clear r1 r2 hs HA
    go_enter Tryd.func58, Tryd.ntmps58
    go_wp2_with fail
    refine hit.mono ?_
    rintro e w' ⟨rfl, rfl⟩
    go_wp2_with fail
    refine he.mono ?_
    rintro e w1 ⟨v, rfl, hz, ho, hk⟩
    obtain ⟨s1, f1⟩ := hS.setD hk Cel.zero hz Cel.inv_zero
    have hn1 : C.out.length + (Cel.lost C.S.d).length ≤ 4294967296 := by omega
    have hp := print_any s1 w.heap.size v _ ho hn1
    clear he c0 c1 c2 hit
    go_wp2_with fail
    refine hp.mono ?_
    rintro e w2 ⟨rfl, ov2, s2, f2⟩
    have c0 : w2.cell? ⟨K.fb, 0, none⟩ = some (ptr K.pb) := s2.fee.cell 0
    have c1 : w2.cell? ⟨K.pb, 0, none⟩ = some (.string (nm C.S.s)) := s2.P.par.cell 0
    clear hp ho hz hk
    have hn2 : (C.out ++ prts (Cel.lost C.S.d)).length ≤ 4294967290 := by rw [List.length_append, prts_len]; omega
    have ht := tellBegun_any s2 hn2
    go_wp2_with fail
    refine ht.mono ?_
    rintro e w3 ⟨rfl, C3, v3, s3, f3, j3, x3, S3, o3⟩
    have d0 : w3.cell? ⟨K.fb, 0, none⟩ = some (ptr K.pb) := s3.fee.cell 0
    have J3 := Lib.hid j3
    have X3 := Lib.hid x3
    have T3 := Lib.hid S3
    have O3 := Lib.hid o3
    clear c0 c1 ht q1 q2 j3 x3 S3 o3
    go_wp2_with fail
    refine (begin_any s3.P.par 3).mono ?_
    rintro e w4 ⟨rfl, hb4, hk4⟩
    have e0 : w4.cell? ⟨K.fb, 0, none⟩ = some (ptr K.pb) := (hk4.blk s3.fee fun e => s3.sep.pf e.symm).cell 0
    have e9 := hb4.cell 9
    have e9f := hb4.frozen 9
    have e1 := hb4.cell 0
    have e1f := hb4.frozen 0
    have hpf := s3.sep.pf
    obtain ⟨C5, s5, f5, j5, x5, S5, o5⟩ := esc_sys s3 hb4 hk4 (by rw [T3.out]; rfl) af
    have J5 := Lib.hid j5
    have X5 := Lib.hid x5
    have T5 := Lib.hid S5
    have O5 := Lib.hid o5
    clear d0 hb4 hk4 j5 x5 S5 o5
    go_wp2
    go_end0
    refine ⟨rfl, C5, s5, ((f1.trans f2).trans f3).trans f5, J5.out.trans J3.out, X5.out.trans X3.out, T5.out, ?_⟩
    rw [O5.out, O3.out, outs_app, outs_app, outs_prts, List.append_assoc]
    rfl
  · rw [r1] at q1
    rw [r2] at q2
    have HA : Hid (escA C.S = (Cel.lost C.S.d).map prt) := by show _ = _; unfold escA; rw [if_neg hs, List.append_nil]
    rw [HA.out]
    clear r1 r2 hs HA
    go_enter Tryd.func58, Tryd.ntmps58
    go_wp2_with fail
    refine hit.mono ?_
    rintro e w' ⟨rfl, rfl⟩
    go_wp2_with fail
    refine he.mono ?_
    rintro e w1 ⟨v, rfl, hz, ho, hk⟩
    obtain ⟨s1, f1⟩ := hS.setD hk Cel.zero hz Cel.inv_zero
    have hn1 : C.out.length + (Cel.lost C.S.d).length ≤ 4294967296 := by omega
    have hp := print_any s1 w.heap.size v _ ho hn1
    clear he c0 c1 c2 hit
    go_wp2_with fail
    refine hp.mono ?_
    rintro e w2 ⟨rfl, ov2, s2, f2⟩
    have c0 : w2.cell? ⟨K.fb, 0, none⟩ = some (ptr K.pb) := s2.fee.cell 0
    have c1 : w2.cell? ⟨K.pb, 0, none⟩ = some (.string (nm C.S.s)) := s2.P.par.cell 0
    clear hp ho hz hk
    have s3 := s2
    have f3 := Fr.refl K w2 { C with S := { C.S with d := Cel.zero }, ov := ov2, out := C.out ++ prts (Cel.lost C.S.d) }
    have d0 := c0
    go_wp2_with fail
    refine (begin_any s3.P.par 3).mono ?_
    rintro e w4 ⟨rfl, hb4, hk4⟩
    have e0 : w4.cell? ⟨K.fb, 0, none⟩ = some (ptr K.pb) := (hk4.blk s3.fee fun e => s3.sep.pf e.symm).cell 0
    have e9 := hb4.cell 9
    have e9f := hb4.frozen 9
    have e1 := hb4.cell 0
    have e1f := hb4.frozen 0
    have hpf := s3.sep.pf
    obtain ⟨C5, s5, f5, j5, x5, S5, o5⟩ := esc_sys s3 hb4 hk4 rfl af
    have J5 := Lib.hid j5
    have X5 := Lib.hid x5
    have T5 := Lib.hid S5
    have O5 := Lib.hid o5
    clear d0 c0 c1 q1 q2 hb4 hk4 j5 x5 S5 o5
    go_wp2
    go_end0
    refine ⟨rfl, C5, s5, (f1.trans f2).trans f5, J5.out, X5.out, T5.out, ?_⟩
    rw [O5.out, outs_app, outs_prts]
end Go.Proofs.YtmhmbeofcedjjaaDoor.Vt
