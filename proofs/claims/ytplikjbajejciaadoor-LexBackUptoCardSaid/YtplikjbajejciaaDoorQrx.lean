/- lex: every text. -/
import Derived.Test.YtplikjbajejciaaDoorQr0
import Derived.Test.YtplikjbajejciaaDoorQr1
import Derived.Test.YtplikjbajejciaaDoorQr2
import Derived.Test.YtplikjbajejciaaDoorQr3
namespace Go.Proofs.YtplikjbajejciaaDoor.Lex
open Go.RowKit Go.Maps
attribute [local go_sem] Jx.normal Jx.exit Jx.ret Jx.panic Jx.goto
section
variable {B rb n : Nat} {w : World} {K : Kp} {env : Env} {s : Tx}
theorem read_pass {w0 : World} {R : RR} (m l : Nat) (a : Act) (w : World) (h : RJ B rb w0 env R m l a w) :
    ∃ rest, findLabel readC l = some (Code.skip.seq rest) ∧ rest.wp Tryd.prog (Jx (fun l' a' w' => ∃ m', m' < m ∧ RJ B rb w0 env R m' l' a' w') (bodyPost Tryd.prog Tryd.f24 (RP B w0.heap.size rb w0 env R))) a w := by
  obtain ⟨K, ls, ws, s, n, hf, hh, ho, hc⟩ := h
  cases hc with
  | btw f hs hw =>
    cases f with
    | zero => cases hs
    | succ f => exact rpass_0 hf hh ho hs hw rfl
  | rem0 f r hr hs hw => exact rpass_1 hf hh ho hs hw (.inl ⟨rfl, r, hr⟩)
  | rem1 f hs hw => exact rpass_1 hf hh ho hs hw (.inr rfl)
  | blk f r hr hb hs hw =>
    cases f with
    | zero => cases hs
    | succ f => exact rpass_2 hf hh ho hb r hr hs hw rfl
  | wrd f c r hr hbr hst hb hs hw =>
    cases f with
    | zero => cases hs
    | succ f => exact rpass_3 hf hh ho hb (by rw [hr]; exact hbr) hst hs hw rfl
theorem read_pass0 {w0 : World} {R : RR} {m l : Nat} {a : Act} {w : World} {rest : Code} (h : RJ B rb w0 env R m l a w) (hf : findLabel readC l = some (Code.skip.seq rest)) :
    rest.wp Tryd.prog (Jx (fun l' a' w' => ∃ m', RJ B rb w0 env R m' l' a' w') (bodyPost Tryd.prog Tryd.f24 (RP B w0.heap.size rb w0 env R))) a w := by
  obtain ⟨rest', hf', hx⟩ := read_pass m l a w h
  rw [hf] at hf'
  cases hf'
  exact wp_mono hx (Jx.mono fun l a w ⟨f', _, h⟩ => ⟨f', h⟩)
set_option maxRecDepth 100000 in
set_option maxHeartbeats 8000000 in
theorem read_any (h : RH B w.heap.size rb w K env [] [] s n) (hg : K.g = 1) :
    Calls Tryd.prog 24 #[ptrV rb] w (RP B w.heap.size rb w env (readF env (s.length + 1) [] [] 1 s n)) := by
  obtain ⟨R, hR⟩ : ∃ R, readF env (s.length + 1) [] [] 1 s n = R := ⟨_, rfl⟩
  rw [hR]
  have H := Lib.hid h
  have HR := Lib.hid (show readF env (s.length + 1) (([] : List LV).map (·.2)) [] K.g s n = R by rw [hg]; exact hR)
  clear h hR hg
  unfold ptrV at *
  go_enter Tryd.func24, Tryd.ntmps24
  refine wp_scope_any (fun f l a' w' => RJ B rb w env R f l a' w') ?_ (fun f l a' w' hJ => by
    obtain ⟨rest, hf, hx⟩ := read_pass f l a' w' hJ
    exact ⟨_, hf, skip_first hx⟩)
  go_wp2_with fail
  apply wp_label
  simp only [Exit.then]
  rename_i hK
  refine hK _ _ ?_
  refine read_pass0 (m := 3 * s.length + 1) (l := 0) ?_ rfl
  exact ⟨K, [], [], s, n, ⟨rfl, rfl, rfl⟩, H.out, Only.refl _ _, .btw (s.length + 1) (Nat.lt_succ_self _) HR.out⟩
end
end Go.Proofs.YtplikjbajejciaaDoor.Lex
