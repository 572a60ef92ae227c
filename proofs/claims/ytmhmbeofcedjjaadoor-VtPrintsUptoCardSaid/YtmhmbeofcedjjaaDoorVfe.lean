/- The walk of a parser's Feed: the bytes that come in, and what they tell. -/
import Derived.Test.YtmhmbeofcedjjaaDoorVh4
import Derived.Test.YtmhmbeofcedjjaaDoorVsl
namespace Go.Proofs.YtmhmbeofcedjjaaDoor.Vt
open Go.RowKit
open Cel (Blk Kept Tabs low Owns At)

theorem own_raise {w : World} {B B' e size n : Nat} {v : Value} {xs : List Value} (h : w.ownsRow B e size v n xs) (hb : ∀ k, v.ownBlock = some k → B' ≤ k) : w.ownsRow B' e size v n xs := by
  obtain ⟨h1, h2⟩ := h
  refine ⟨h1, ?_⟩
  rcases h2 with h2 | ⟨g, cap, cur, rfl, _, r⟩
  · exact .inl h2
  · exact .inr ⟨g, cap, cur, rfl, hb g rfl, r⟩
/-- Does a value name a head's state? -/
def hdv : Option Value → Nat
  | some (.string s) => if s.toList == [103, 114, 111, 117, 110, 100] || s.toList == [111, 115, 99] || s.toList == [100, 97, 116, 97] || s.toList == [115, 116, 114, 105, 110, 103] then 0 else 1
  | _ => 0
theorem hdv_nm {s : Nat} (hs : s ≤ 7) : hdv (some (.string (nm s))) = if isHd s = true then 1 else 0 := by
  obtain ⟨a, b, c, d, _⟩ := nm_is s hs
  show (if _ then 0 else 1) = _
  rw [a, b, c, d]
  rcases s8 hs with rfl | rfl | rfl | rfl | rfl | rfl | rfl | rfl <;> rfl
/-- What Feed leaves. -/
def Fed (w : World) (B pb db : Nat) (pv tv : Value) (S : Ps) (l : Tx) (e : Ending) (w' : World) : Prop :=
  ∃ ov out pv' tv', e = .returned ov ∧ PAt w' B pb db pv' tv' (run S l).1 ∧ w'.ownsRow w.heap.size 38 6 ov out.length (flat out) ∧ outs out = (run S l).2 ∧
    (∀ t ∈ out, Ints w' w.heap.size t.2 t.1.ps) ∧ (∀ t ∈ out, ∀ k, t.2.ownBlock = some k → pv'.ownBlock ≠ some k) ∧ Kept w w' (mine pb db pv tv) ∧ (∀ k, mine pb db pv' tv' k → mine pb db pv tv k ∨ w.heap.size ≤ k)
theorem run_store_func {P : Program} {w : World} {a : Addr} {m : Mode} (f : Fn) (x y : Array Value) : (store a (.func f x y) m).run P w = stored P w a (.func f x y) m := run_store P w a _ m rfl
attribute [local go_sem] run_store_func
def ctx (w : World) (B pb db : Nat) (A : Option Addr) (c : Nat) (l : Tx) : Ctx := ⟨B, w.heap.size + 1, pb, db, w.heap.size, A, c, l⟩
def cfg0 (S : Ps) (pv tv : Value) : Cfg := ⟨S, pv, tv, nilV, [], 0, 0⟩
def feW (w : World) (pb : Nat) (A : Option Addr) (c : Nat) (l : Tx) : World :=
  (w.alloc (.cells #[.slice none 0 0] 22)).alloc (.cells #[.pointer (some ⟨pb, 0, none⟩), .slice A l.length c, .int .i64 0, .int .u8 0, .func (.func 20) #[] #[.pointer (some ⟨w.heap.size, 0, none⟩)]] 50)
theorem sys0 {w : World} {B pb db : Nat} {pv tv : Value} {S : Ps} (P : PAt w B pb db pv tv S) (ht : Tabs w) (hlow : low ≤ B) (A : Option Addr) (c : Nat) (l : Tx) (hin : InB w A l) (hll : l.length ≤ 1073741824) (hap : l ≠ [] → ∀ g o, A = some ⟨g, o, none⟩ → tv.ownBlock ≠ some g) :
    Sys (ctx w B pb db A c l) (feW w pb A c l) (cfg0 S pv tv) := by
  have k : Kept w (feW w pb A c l) (fun _ => False) := ((Kept.refl w _).alloc _).alloc _
  have hB := (P.lt pb (.inl rfl))
  have hv : Blk (feW w pb A c l) w.heap.size 22 #[nilV] := (Blk.new w _ _).alloc _
  have hf : Blk (feW w pb A c l) (w.heap.size + 1) 50 (feeL (ctx w B pb db A c l) (cfg0 S pv tv)).toArray := blk_new1 w _ _ _
  exact ⟨P.keep k fun _ _ h => h, hf, hv, World.ownsRow_nil _ _ _ _, fun t h => (by cases h), fun t h => (by cases h), (by
    by_cases hl : l = []
    · subst hl; exact InB.of_nil _ _
    · exact hin.keep k fun g o _ h => h), hap, ht.kept k (fun _ _ h => h) (by omega), hlow, (by show B ≤ w.heap.size + 1; omega), (by show B ≤ w.heap.size; omega), Nat.zero_le _, hll, Int.le_refl 0, (by show (0 : Int) ≤ 255; omega)⟩
theorem fed_end {w w' : World} {B pb db : Nat} {pv tv : Value} {S : Ps} {A : Option Addr} {c : Nat} {l : Tx} {C : Cfg} (_hB : B ≤ pb ∧ pb < w.heap.size) (_P : PAt w B pb db pv tv S) (s : Sys (ctx w B pb db A c l) w' C) (f : Fr (ctx w B pb db A c l) (feW w pb A c l) (cfg0 S pv tv) w' C)
    (hF : Fu (ctx w B pb db A c l) C C.S C.j = run S l) (hj : ¬ C.j < l.length) : Fed w B pb db pv tv S l (.returned C.ov) w' := by
  have sz : (feW w pb A c l).heap.size = w.heap.size + 2 := by unfold feW; simp
  have jl : C.j ≤ l.length := s.jl
  have e : run S l = (C.S, outs C.out) := by
    rw [← hF]
    show (_, _) = _
    rw [show (ctx w B pb db A c l).l.drop C.j = [] from List.drop_eq_nil_of_le (by show l.length ≤ C.j; omega)]
    simp [run]
  have own : ∀ i, whole (ctx w B pb db A c l) C i → mine pb db pv tv i ∨ w.heap.size ≤ i := fun i hi => by
    rcases f.mine i hi with (q | q | q | q) | q
    · exact .inl q
    · exact .inr (by have : i = w.heap.size + 1 := q; omega)
    · exact .inr (Nat.le_of_eq q.symm)
    · cases q
    · exact .inr (by omega)
  have hov : ∀ i, C.ov.ownBlock = some i → w.heap.size ≤ i := fun i hi => by
    rcases f.ovb i hi with q | q
    · cases q
    · omega
  refine ⟨C.ov, C.out, C.pv, C.tv, rfl, ?_, own_raise s.out hov, by rw [e], fun t ht => ?_, s.tap, ?_, fun i hi => own i (.inl hi)⟩
  · rw [e]; exact s.P
  · refine own_raise (s.told t ht) fun i hi => ?_
    rcases f.told t ht with q | q
    · cases q
    · have := q i hi; omega
  · have k : Kept w (feW w pb A c l) (fun _ => False) := ((Kept.refl w _).alloc _).alloc _
    exact (k.more fun _ h => h.elim).trans f.kept fun i hi h => by
      rcases h with h | h | h | h
      · exact h
      · have : i = w.heap.size + 1 := h
        omega
      · have : i = w.heap.size := h
        omega
      · cases h
set_option maxRecDepth 100000 in
set_option maxHeartbeats 4000000 in
theorem Feed_any {w : World} {B pb db : Nat} {pv tv : Value} {S : Ps} (P : PAt w B pb db pv tv S) (ht : Tabs w) (hlow : low ≤ B) (A : Option Addr) (c : Nat) (l : Tx) (hin : InB w A l) (hll : l.length ≤ 1073741824) (hap : l ≠ [] → ∀ g o, A = some ⟨g, o, none⟩ → tv.ownBlock ≠ some g) :
    Calls Tryd.prog 12 #[ptr pb, .slice A l.length c] w (Fed w B pb db pv tv S l) := by
  have s0 := sys0 P ht hlow A c l hin hll hap
  have hB := P.lt pb (.inl rfl)
  have hF0 : Fu (ctx w B pb db A c l) (cfg0 S pv tv) S 0 = run S l := rfl
  have hn : (run S l).2.length ≤ 4294967200 := by have := run_len S l; have := pend_le S.d; omega
  have HE := Lib.hid (fun (w' : World) (C : Cfg) => fed_end (w' := w') (A := A) (c := c) (C := C) (l := l) hB P)
  have HW : Hid (feW w pb A c l = (w.alloc (.cells #[.slice none 0 0] 22)).alloc (.cells #[.pointer (some ⟨pb, 0, none⟩), .slice A l.length c, .int .i64 0, .int .u8 0, .func (.func 20) #[] #[.pointer (some ⟨w.heap.size, 0, none⟩)]] 50)) := by show _ = _; rfl
  have HP := Lib.hid P
  clear P ht hin hap
  generalize feW w pb A c l = w3 at *
  generalize hR : run S l = R at *
  have HR := Lib.hid hR
  clear hR
  go_enter Tryd.func12, Tryd.ntmps12
  go_wp2_with fail
  rw [← HW.out]
  go_loopw [] (fun wr => ∃ C, Sys (ctx w B pb db A c l) wr C ∧ Fr (ctx w B pb db A c l) w3 (cfg0 S pv tv) wr C ∧ Fu (ctx w B pb db A c l) C C.S C.j = R) (fun wr => 2 * (l.length - (intOf ((wr.cell? ⟨w.heap.size + 1, 2, none⟩).getD (.int .i64 0))).toNat) + hdv (wr.cell? ⟨pb, 0, none⟩))
  case atStart => exact ⟨_, s0, Fr.refl _ _ _, hF0⟩
  case round =>
    obtain ⟨C, s, f, hF⟩ := hrel
    have q0 : wr.cell? ⟨w.heap.size + 1, 0, none⟩ = some (ptr pb) := s.fee.cell 0
    have q2 : wr.cell? ⟨w.heap.size + 1, 2, none⟩ = some (.int .i64 C.j) := s.fee.cell 2
    have q5 : wr.cell? ⟨pb, 0, none⟩ = some (.string (nm C.S.s)) := s.P.par.cell 0
    have qo : wr.cell? ⟨w.heap.size, 0, none⟩ = some C.ov := s.var.cell 0
    have jl : C.j ≤ l.length := s.jl
    have HF := Lib.hid hF
    by_cases hlt : C.j < l.length
    · have hd : decide ((C.j : Int) < (l.length : Int)) = true := by simpa using hlt
      have hih := isHead_any C.S.s s.P.bd.s1
      have HM : Hid (∀ (W : World) (C' : Cfg), Sys (ctx w B pb db A c l) W C' → C.j ≤ C'.j → (C'.j = l.length ∨ C.j < C'.j ∨ (isHd C.S.s = true ∧ C'.S.s = 0)) → 2 * (l.length - (intOf ((W.cell? ⟨w.heap.size + 1, 2, none⟩).getD (.int .i64 0))).toNat) + hdv (W.cell? ⟨pb, 0, none⟩) < 2 * (l.length - (intOf ((wr.cell? ⟨w.heap.size + 1, 2, none⟩).getD (.int .i64 0))).toNat) + hdv (wr.cell? ⟨pb, 0, none⟩)) := by
        intro W C' s' h1 h2
        have p2 : W.cell? ⟨w.heap.size + 1, 2, none⟩ = some (.int .i64 C'.j) := s'.fee.cell 2
        have p5 : W.cell? ⟨pb, 0, none⟩ = some (.string (nm C'.S.s)) := s'.P.par.cell 0
        have jl' : C'.j ≤ l.length := s'.jl
        rw [p2, p5, q2, q5, hdv_nm s'.P.bd.s1, hdv_nm s.P.bd.s1]
        simp only [Option.getD_some, intOf, Int.toNat_natCast]
        rcases h2 with h2 | h2 | ⟨h2, h3⟩
        · split <;> split <;> omega
        · split <;> split <;> omega
        · rw [if_pos h2, h3, if_neg (by decide)]; omega
      cases hh : isHd C.S.s with
      | true =>
        rw [hh] at hih
        have hrd := readHead_any s hh R hF hn
        clear hh hF
        go_wp2_with fail
        refine (hih _).mono ?_
        rintro e w4 ⟨rfl, rfl⟩
        go_wp2_with fail
        refine hrd.mono ?_
        rintro e w5 ⟨rfl, C5, s5, f5, F5, j5, d5⟩
        have HF5 := Lib.hid F5
        have HD5 := Lib.hid d5
        clear F5 d5
        go_wp2
        go_roundw
        case rel => exact ⟨C5, s5, f.trans f5, HF5.out⟩
        case measure => exact HM.out _ C5 s5 j5 HD5.out
      | false =>
        rw [hh] at hih
        have hrd := readText_any s hh R hF hn
        clear hh hF
        go_wp2_with fail
        refine (hih _).mono ?_
        rintro e w4 ⟨rfl, rfl⟩
        go_wp2_with fail
        refine hrd.mono ?_
        rintro e w5 ⟨rfl, C5, s5, f5, F5, j5, d5⟩
        have HF5 := Lib.hid F5
        have HD5 := Lib.hid d5
        clear F5 d5
        go_wp2
        go_roundw
        case rel => exact ⟨C5, s5, f.trans f5, HF5.out⟩
        case measure => exact HM.out _ C5 s5 j5 HD5.out
    · have hnd : decide ((C.j : Int) < (l.length : Int)) = false := by simpa using hlt
      clear hF
      go_wp2_with fail
      go_ret
      exact HE.out wr C s f HF.out hlt
end Go.Proofs.YtmhmbeofcedjjaaDoor.Vt
