/- The walks of a Feed's telling, on: runes, a control. -/
import Derived.Test.YtmhmbeofcedjjaaDoorVte
namespace Go.Proofs.YtmhmbeofcedjjaaDoor.Vt
open Go.RowKit
open Cel (Blk Kept Tabs low Owns At)

def prts (l : List Int) : List To := l.map fun r => (prt r, nilV)
theorem prts_app (a b : List Int) : prts (a ++ b) = prts a ++ prts b := by simp [prts]
theorem prts_len (l : List Int) : (prts l).length = l.length := by simp [prts]
theorem tell_prt {K : Ctx} {w : World} {C : Cfg} (h : Sys K w C) (r : Int) (hn : C.out.length ≤ 4294967296) :
    Calls Tryd.prog 20 #[.agg #[.int .i64 1, .int .i32 r, .int .u8 0, .slice none 0 0, .string { data := #[] }, .string { data := #[] }], .pointer (some ⟨K.ob, 0, none⟩)] w (Told K w C C [(prt r, nilV)]) :=
  tell_any h (Fr.refl _ _ _) (prt r, nilV) (ints_nil _ _) (fun i hi => by cases hi) (fun i hi => by cases hi) hn
theorem tell_ctl {K : Ctx} {w : World} {C : Cfg} (h : Sys K w C) (x : Int) (hn : C.out.length ≤ 4294967296) :
    Calls Tryd.prog 20 #[.agg #[.int .i64 2, .int .i32 0, .int .u8 x, .slice none 0 0, .string { data := #[] }, .string { data := #[] }], .pointer (some ⟨K.ob, 0, none⟩)] w (Told K w C C [(ctl x, nilV)]) :=
  tell_any h (Fr.refl _ _ _) (ctl x, nilV) (ints_nil _ _) (fun i hi => by cases hi) (fun i hi => by cases hi) hn

/-- A list of runes that lies beside the Feed. -/
theorem owns_keep {K : Ctx} {w w' : World} {C C' : Cfg} {base : Nat} {v : Value} {l : List Int} (hs : Sys K w C) (h : Owns w base v l) (hf : Fr K w C w' C') : Owns w' base v l := by
  refine hf.kept.owns h fun k hk hw => ?_
  rcases hw with (e | e | e | e) | e | e | e
  · exact own_far h hs.P.par (by decide) (by rw [hk, e])
  · exact own_far h hs.P.dec (by decide) (by rw [hk, e])
  · exact own_apart h hs.P.prm (by decide) k hk e
  · exact own_apart h hs.P.txt (by decide) k hk e
  · exact own_far h hs.fee (by decide) (by rw [hk, e])
  · exact own_far h hs.var (by decide) (by rw [hk, e])
  · exact own_apart h hs.out (by decide) k hk e

theorem own_slice {w : World} {base e size n : Nat} {v : Value} {xs : List Value} (h : w.ownsRow base e size v n xs) : ∃ A c, v = .slice A n c := by
  rcases h.2 with ⟨rfl, rfl⟩ | ⟨g, cap, cur, rfl, _⟩ <;> exact ⟨_, _, rfl⟩
theorem own_addr {w : World} {base e size n : Nat} {A : Option Addr} {m c : Nat} {xs : List Value} (h : w.ownsRow base e size (.slice A m c) n xs) (hn : 0 < n) : ∃ g, A = some ⟨g, 0, none⟩ := by
  rcases h.2 with ⟨_, h0⟩ | ⟨g, cap, cur, e, _⟩
  · omega
  · injection e with e; exact ⟨g, e⟩
theorem owns_cell {w : World} {base : Nat} {g m c : Nat} {l : List Int} (h : Owns w base (.slice (some ⟨g, 0, none⟩) m c) l) (k : Nat) (hk : k < l.length) : w.cell? ⟨g, k, none⟩ = some (.int .i32 (l[k])) := by
  have := h.cells (g := g) rfl k (.int .i32 l[k]) (by simp [Cel.zs, hk])
  have e : (⟨g, 0, none⟩ : Addr).add k = ⟨g, k, none⟩ := by unfold Addr.add; split <;> simp_all
  rw [e] at this
  exact this

set_option maxRecDepth 100000 in
set_option maxHeartbeats 400000 in
theorem print_any {K : Ctx} {w : World} {C : Cfg} (h : Sys K w C) (base : Nat) (v : Value) (l : List Int) (hl : Owns w base v l) (hn : C.out.length + l.length ≤ 4294967296) :
    Calls Tryd.prog 45 #[ptr K.fb, v] w (Told K w C C (prts l)) := by
  obtain ⟨A, c, rfl⟩ := own_slice hl
  have HPO : Hid (∀ k, (prts (l.take k)).length ≤ l.length) := fun k => by rw [prts_len, List.length_take]; omega
  go_enter Tryd.func45, Tryd.ntmps45
  go_wp2
  go_loopw [8] (fun i wr => ∃ k : Nat, k ≤ l.length ∧ i = .int .i64 k ∧ ∃ ov', Sys K wr { C with ov := ov', out := C.out ++ prts (l.take k) } ∧ Fr K w C wr { C with ov := ov', out := C.out ++ prts (l.take k) }) (fun i _ => l.length - (intOf i).toNat)
  case atStart => exact ⟨0, Nat.zero_le _, rfl, C.ov, by simpa [prts] using h, by simpa [prts] using Fr.refl K w C⟩
  case round =>
    obtain ⟨k, hk, rfl, ov', hs, hf2⟩ := hrel
    by_cases hlt : k < l.length
    · have hown := owns_keep h hl hf2
      obtain ⟨g, rfl⟩ := own_addr hown (by omega)
      have hc := owns_cell hown k hlt
      have c4 : wr.cell? ⟨K.fb, 4, none⟩ = some (tellV K.ob) := hs.fee.cell 4
      have HT : Hid (prts (l.take (k + 1)) = prts (l.take k) ++ [(prt l[k], nilV)]) := by
        show _ = _
        rw [List.take_succ_eq_append_getElem hlt, prts_app]; rfl
      have hlen := HPO.out k
      have hn2 : (C.out ++ prts (l.take k)).length ≤ 4294967296 := by rw [List.length_append]; omega
      have ht := tell_prt hs l[k] hn2
      clear hn2 hlen
      go_wp2_with (go_at_call 20; refine ht.mono ?_; rintro e w2 ⟨rfl, ov2, hs2, hf3⟩)
      go_roundw
      case rel =>
        refine ⟨k + 1, by omega, by go_num, ov2, ?_⟩
        rw [HT.out, ← List.append_assoc]
        exact ⟨hs2, hf2.trans hf3⟩
      case measure => simp [intOf]; omega
    · have HT : Hid (l.take k = l) := by show _ = _; exact List.take_of_length_le (by omega)
      go_wp2
      go_end0
      rw [HT.out] at hs hf2
      exact ⟨rfl, ov', hs, hf2⟩
/-- A control: what is pending is told first. -/
theorem control_any {K : Ctx} {w : World} {C : Cfg} (h : Sys K w C) (hn : C.out.length ≤ 4294967290) :
    Calls Tryd.prog 59 #[ptr K.fb] w fun e w' => e = .returned (.tuple #[]) ∧ ∃ C', Sys K w' C' ∧ Fr K w C w' C' ∧ C'.j = C.j ∧ C'.x = C.x ∧ C'.S = { C.S with d := Cel.zero } ∧ C'.out = C.out ++ (prts (Cel.lost C.S.d) ++ [(ctl C.x, nilV)]) := by
  have c0 : w.cell? ⟨K.fb, 0, none⟩ = some (ptr K.pb) := h.fee.cell 0
  have c1 : w.cell? ⟨K.pb, 1, none⟩ = some (ptr K.db) := h.P.par.cell 1
  have hl : (Cel.lost C.S.d).length ≤ 1 := by unfold Cel.lost; split <;> simp
  have he := Cel.end_any C.S.d h.P.bd.di K.db w h.P.dec
  go_enter Tryd.func59, Tryd.ntmps59
  go_wp2_with fail
  refine he.mono ?_
  rintro e w1 ⟨v, rfl, hz, ho, hk⟩
  obtain ⟨s1, f1⟩ := h.setD hk Cel.zero hz Cel.inv_zero
  have hn1 : C.out.length + (Cel.lost C.S.d).length ≤ 4294967296 := by omega
  have hp := print_any s1 w.heap.size v _ ho hn1
  clear he c0 c1
  go_wp2_with fail
  refine hp.mono ?_
  rintro e w2 ⟨rfl, ov2, s2, f2⟩
  have c4 : w2.cell? ⟨K.fb, 4, none⟩ = some (tellV K.ob) := s2.fee.cell 4
  have c3 : w2.cell? ⟨K.fb, 3, none⟩ = some (.int .u8 C.x) := s2.fee.cell 3
  have hn2 : (C.out ++ prts (Cel.lost C.S.d)).length ≤ 4294967296 := by rw [List.length_append, prts_len]; omega
  have ht := tell_ctl s2.drew C.x hn2
  clear hp ho hz hk
  go_wp2_with fail
  go_still_tail 9, (by kernel_rfl)
  change wpList _ _ _ _ _ w2.drew
  go_wp2_with fail
  refine ht.mono ?_
  rintro e w3 ⟨rfl, ov3, s3, f3⟩
  go_wp2
  go_end0
  exact ⟨rfl, _, s3, (f1.trans f2).trans ((Fr.same (p := fun _ => False) (Kept.refl w2 _).drew fun _ hf => hf.elim).trans f3), rfl, rfl, rfl, by rw [List.append_assoc]⟩
end Go.Proofs.YtmhmbeofcedjjaaDoor.Vt
