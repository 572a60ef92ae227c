/- The walks of a Feed's methods on a head: its end when ignored, an ESC's, what is final, what fits. -/
import Derived.Test.YtmhmbeofcedjjaaDoorVes
namespace Go.Proofs.YtmhmbeofcedjjaaDoor.Vt
open Go.RowKit
open Cel (Blk Kept Tabs low Owns At)

def ign (S : Ps) : Ps := if S.k = 6 then { ps0 with s := 3 } else ps0
theorem endIgnored_any {K : Ctx} {w : World} {C : Cfg} (hS : Sys K w C) : Calls Tryd.prog 44 #[ptr K.fb] w (Left K w C (ign C.S) []) := by
  have c0 : w.cell? ⟨K.fb, 0, none⟩ = some (ptr K.pb) := hS.fee.cell 0
  have c2 : w.cell? ⟨K.pb, 2, none⟩ = some (.int .i64 C.S.k) := hS.P.par.cell 2
  have hd := drop_any hS.P.par hS.P.dec hS.P.bd.di
  by_cases hk : C.S.k = 6
  · have hkb : (C.S.k == 6) = true := by simp [hk]
    have HI : Hid (ign C.S = { ps0 with s := 3 }) := by show _ = _; unfold ign; rw [if_pos hk]
    rw [HI.out]
    clear hk HI
    go_enter Tryd.func44, Tryd.ntmps44
    go_wp2_with fail
    refine hd.mono ?_
    rintro e w1 ⟨rfl, q1, q2, q3⟩
    obtain ⟨s1, f1⟩ := hS.drop q3 q1 q2
    have d0 : w1.cell? ⟨K.fb, 0, none⟩ = some (ptr K.pb) := s1.fee.cell 0
    have e0 : w1.cell? ⟨K.pb, 0, none⟩ = some (.string (nm 0)) := s1.P.par.cell 0
    have e1 := s1.P.par.frozen 0
    have hb2 := s1.P.par.set_ 0 (.string { data := #[115, 116, 114, 105, 110, 103] })
    have hk2 : Kept w1 (w1.setCell ⟨K.pb, 0, none⟩ (.string { data := #[115, 116, 114, 105, 110, 103] })) (fun i => i = K.pb) := Kept.setCell (p := fun i => i = K.pb) (Kept.refl w1 _) (a := ⟨K.pb, 0, none⟩) rfl _
    obtain ⟨s2, f2⟩ := s1.setP hk2 { ps0 with s := 3 } nilV nilV hb2 rfl ⟨by show 3 ≤ 7; omega, bd0.k0, bd0.k1, bd0.b0, bd0.b1, bd0.pl, bd0.pz, bd0.il, bd0.tl, bd0.di⟩ (.inr ⟨rfl, rfl⟩) (.inr ⟨rfl, rfl⟩)
    clear c0 c2 hd q1 q2 q3 hb2 hk2
    go_wp2
    go_end0
    exact ⟨rfl, _, s2, f1.trans f2, rfl, rfl, rfl, (List.append_nil _).symm⟩
  · have hkb : (C.S.k == 6) = false := by simp [hk]
    have HI : Hid (ign C.S = ps0) := by show _ = _; unfold ign; rw [if_neg hk]
    rw [HI.out]
    clear hk HI
    go_enter Tryd.func44, Tryd.ntmps44
    go_wp2_with fail
    refine hd.mono ?_
    rintro e w1 ⟨rfl, q1, q2, q3⟩
    obtain ⟨s1, f1⟩ := hS.drop q3 q1 q2
    clear c0 c2 hd q1 q2 q3
    go_wp2
    go_end0
    exact ⟨rfl, _, s1, f1, rfl, rfl, rfl, (List.append_nil _).symm⟩
/-- What an ESC's final byte tells, if it opens nothing. -/
def escEnd (S : Ps) (x : Int) : List Ac := if S.af = true ∧ S.it = [] ∧ x = 92 then [] else [act S]
theorem tellEscape_any {K : Ctx} {w : World} {C : Cfg} (hS : Sys K w C) (hn : C.out.length ≤ 4294967290) : Calls Tryd.prog 40 #[ptr K.fb] w (Left K w C ps0 (escEnd C.S C.x)) := by
  have c0 : w.cell? ⟨K.fb, 0, none⟩ = some (ptr K.pb) := hS.fee.cell 0
  have c3 : w.cell? ⟨K.fb, 3, none⟩ = some (.int .u8 C.x) := hS.fee.cell 3
  have c9 : w.cell? ⟨K.pb, 9, none⟩ = some (.bool C.S.af) := hS.P.par.cell 9
  have c6 : w.cell? ⟨K.pb, 6, none⟩ = some (.string (bs C.S.it)) := hS.P.par.cell 6
  have ht := tellBegun_left hS hn
  have hd := drop_any hS.P.par hS.P.dec hS.P.bd.di
  have tell : ∀ {a : Prop} [Decidable a], ¬ a → (if a then [] else [act C.S]) = [act C.S] := fun h => if_neg h
  cases haf : C.S.af with
  | false =>
    have HE : Hid (escEnd C.S C.x = [act C.S]) := by show _ = _; unfold escEnd; rw [if_neg (by rw [haf]; simp)]
    rw [haf] at c9
    rw [HE.out]
    clear haf tell HE
    go_enter Tryd.func40, Tryd.ntmps40
    go_wp2_with fail
    refine ht.mono ?_
    rintro e w1 ⟨rfl, hr⟩
    go_wp2
    go_end0
    exact ⟨rfl, hr⟩
  | true =>
    rw [haf] at c9
    by_cases hit : C.S.it = []
    · rw [hit] at c6
      by_cases hx : C.x = 92
      · have hxb : (C.x == 92) = true := by simp [hx]
        have HE : Hid (escEnd C.S C.x = []) := by show _ = _; unfold escEnd; rw [if_pos ⟨haf, hit, hx⟩]
        rw [HE.out]
        rw [bs_nil] at c6
        clear haf tell hit hx HE
        go_enter Tryd.func40, Tryd.ntmps40
        go_wp2_with fail
        refine hd.mono ?_
        rintro e w1 ⟨rfl, q1, q2, q3⟩
        obtain ⟨s1, f1⟩ := hS.drop q3 q1 q2
        go_wp2
        go_end0
        exact ⟨rfl, _, s1, f1, rfl, rfl, rfl, (List.append_nil _).symm⟩
      · have hxb : (C.x == 92) = false := by simp [hx]
        have HE : Hid (escEnd C.S C.x = [act C.S]) := by show _ = _; unfold escEnd; rw [if_neg (by omega)]
        rw [HE.out]
        rw [bs_nil] at c6
        clear haf tell hit hx HE
        go_enter Tryd.func40, Tryd.ntmps40
        go_wp2_with fail
        refine ht.mono ?_
        rintro e w1 ⟨rfl, hr⟩
        go_wp2
        go_end0
        exact ⟨rfl, hr⟩
    · have HE : Hid (escEnd C.S C.x = [act C.S]) := by show _ = _; unfold escEnd; rw [if_neg (fun h => hit h.2.1)]
      have he1 : (bs C.S.it).toList.isEmpty = false := by rw [bs_tl]; cases hq : C.S.it with | nil => exact absurd hq hit | cons => rfl
      have he2 : ((bs C.S.it).toList == []) = false := by rw [bs_tl]; cases hq : C.S.it with | nil => exact absurd hq hit | cons => rfl
      rw [HE.out]
      clear haf tell hit HE
      go_enter Tryd.func40, Tryd.ntmps40
      go_wp2_with fail
      refine ht.mono ?_
      rintro e w1 ⟨rfl, hr⟩
      go_wp2
      go_end0
      exact ⟨rfl, hr⟩
theorem opened_any {K : Ctx} {w : World} {C : Cfg} (hS : Sys K w C) : Calls Tryd.prog 38 #[ptr K.fb] w fun e w' => e = .returned (.string (nm (opened C.S C.x))) ∧ w = w' := by
  have c0 : w.cell? ⟨K.fb, 0, none⟩ = some (ptr K.pb) := hS.fee.cell 0
  have c3 : w.cell? ⟨K.fb, 3, none⟩ = some (.int .u8 C.x) := hS.fee.cell 3
  have c6 : w.cell? ⟨K.pb, 6, none⟩ = some (.string (bs C.S.it)) := hS.P.par.cell 6
  have ho := opens_any C.x w
  by_cases hit : C.S.it = []
  · have HE : Hid (opened C.S C.x = opens C.x) := by show _ = _; unfold opened; rw [if_neg (fun h => h hit)]
    rw [hit, bs_nil] at c6
    rw [HE.out]
    clear hit HE
    go_enter Tryd.func38, Tryd.ntmps38
    go_wp2_with fail
    refine ho.mono ?_
    rintro e w1 ⟨rfl, rfl⟩
    go_wp2
    go_ret
    exact ⟨rfl, rfl⟩
  · have HE : Hid (opened C.S C.x = 0) := by show _ = _; unfold opened; rw [if_pos hit]
    have he1 : (bs C.S.it).toList.isEmpty = false := by rw [bs_tl]; cases hq : C.S.it with | nil => exact absurd hq hit | cons => rfl
    have he2 : ((bs C.S.it).toList == []) = false := by rw [bs_tl]; cases hq : C.S.it with | nil => exact absurd hq hit | cons => rfl
    rw [HE.out]
    clear hit HE
    go_enter Tryd.func38, Tryd.ntmps38
    go_wp2
    go_ret
    exact ⟨rfl, rfl⟩
theorem final_any {K : Ctx} {w : World} {C : Cfg} (hS : Sys K w C) : Calls Tryd.prog 43 #[ptr K.fb] w fun e w' => e = .returned (.bool (isFin C.S.k C.x)) ∧ ∃ n, w' = w.drewN n := by
  have c0 : w.cell? ⟨K.fb, 0, none⟩ = some (ptr K.pb) := hS.fee.cell 0
  have c3 : w.cell? ⟨K.fb, 3, none⟩ = some (.int .u8 C.x) := hS.fee.cell 3
  have c2 : w.cell? ⟨K.pb, 2, none⟩ = some (.int .i64 C.S.k) := hS.P.par.cell 2
  have ho := fun w => isFinal_any C.S.k C.x w
  go_enter Tryd.func43, Tryd.ntmps43
  go_wp2_with fail
  go_quiet ((go_at_call 27; exact Calls.quiet_of_same ((ho _).mono fun _ _ h => ⟨h.1, h.2.symm⟩)))
  go_wp2
  go_ret
  exact ⟨rfl, _, rfl⟩
end Go.Proofs.YtmhmbeofcedjjaaDoor.Vt
