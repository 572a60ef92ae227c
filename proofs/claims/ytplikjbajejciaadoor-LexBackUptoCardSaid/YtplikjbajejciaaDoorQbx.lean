/- lex: every block. -/
import Derived.Test.YtplikjbajejciaaDoorQb0
import Derived.Test.YtplikjbajejciaaDoorQb1
import Derived.Test.YtplikjbajejciaaDoorQb2
namespace Go.Proofs.YtplikjbajejciaaDoor.Lex
open Go.RowKit Go.Maps
attribute [local go_sem] Jx.normal Jx.exit Jx.ret Jx.panic Jx.goto
section
variable {B rb n : Nat} {w : World} {K : Kp} {env : Env} {r : Tx}
theorem block_pass {w0 : World} {O : Option (Tx × Nat)} (hr : r <:+ K.T) (f l : Nat) (a : Act) (w : World) (h : BJ B rb w0 K env r O f l a w) :
    ∃ rest, findLabel blockC l = some (Code.skip.seq rest) ∧ rest.wp Tryd.prog (Jx (fun l' a' w' => ∃ f', f' < f ∧ BJ B rb w0 K env r O f' l' a' w') (bodyPost Tryd.prog Tryd.f44 (BP B rb w0 K env r O))) a w := by
  obtain ⟨q, d, s, n, rfl, hf, hh, hst, hs, hw⟩ := h
  cases f with
  | zero => cases hs
  | succ f =>
    cases q with
    | pl => exact bpass_pl hf hh (by rcases hst with h | ⟨h1, h2, _⟩; exact .inl h; exact .inr ⟨h1, h2⟩) hr hs hw
    | sg => exact bpass_sg hf hh (by rcases hst with h | ⟨_, _, h3⟩; exact h; cases h3) hs hw
    | db => exact bpass_db hf hh (by rcases hst with h | ⟨_, _, h3⟩; exact h; cases h3) hs hw
theorem block_pass0 {w0 : World} {O : Option (Tx × Nat)} (hr : r <:+ K.T) {f l : Nat} {a : Act} {w : World} {rest : Code} (h : BJ B rb w0 K env r O f l a w) (hf : findLabel blockC l = some (Code.skip.seq rest)) :
    rest.wp Tryd.prog (Jx (fun l' a' w' => ∃ f', BJ B rb w0 K env r O f' l' a' w') (bodyPost Tryd.prog Tryd.f44 (BP B rb w0 K env r O))) a w := by
  obtain ⟨rest', hf', hx⟩ := block_pass hr f l a w h
  rw [hf] at hf'
  cases hf'
  exact wp_mono hx (Jx.mono fun l a w ⟨f', _, h⟩ => ⟨f', h⟩)
set_option maxRecDepth 100000 in
set_option maxHeartbeats 8000000 in
theorem block_any (h : Cx B w rb K env (123 :: r) n) :
    Calls Tryd.prog 44 #[ptrV rb] w (BP B rb w K env r (blockP (123 :: r) n)) := by
  obtain ⟨O, hO⟩ : ∃ O, O = blockP (123 :: r) n := ⟨_, rfl⟩
  rw [← hO]
  have hr : r <:+ K.T := (List.suffix_cons _ _).trans h.suf
  have hl1 := h.suf.length_le
  have hml := h.most
  rw [List.length_cons] at hl1
  obtain ⟨mv0, hR0, _⟩ := h.place
  obtain ⟨i0, hi0⟩ : ∃ i0, i0 = K.T.length - r.length := ⟨_, rfl⟩
  have c1 : w.cell? ⟨rb, 1, none⟩ = some (.int .i64 ((i0 : Int) - 1)) := by
    have := BL.cell hR0 1
    rw [this]
    show some (Value.int .i64 ((K.T.length - (r.length + 1) : Nat) : Int)) = _
    congr 2
    omega
  have z1 : (1 : Int) ≤ (i0 : Int) := by omega
  have z2 : (i0 : Int) ≤ 65536 := by omega
  have HO : Hid (blockF ((123 :: r).length + 1) .pl 0 (123 :: r) n = O) := by show _ = _; rw [hO]; rfl
  have H : Hid (BH B rb w w K env 0 (123 :: r) n) := by
    have := h.len
    exact ⟨h, Only.refl _ _, by omega, by omega⟩
  have HI := Lib.hid hi0
  have HR := Lib.hid hr
  clear h hO hR0 hi0 hl1 hml hr
  unfold ptrV at *
  go_enter Tryd.func44, Tryd.ntmps44
  go_wp2_with fail
  refine wp_scope_any (fun f l a' w' => BJ B rb w K env r O f l a' w') ?_ (fun f l a' w' hJ => by
    obtain ⟨rest, hf, hx⟩ := block_pass HR.out f l a' w' hJ
    exact ⟨_, hf, skip_first hx⟩)
  go_wp2_with fail
  apply wp_label
  simp only [Exit.then]
  rename_i hK
  refine hK _ _ ?_
  refine block_pass0 HR.out (f := (123 :: r).length + 1) (l := 2) ?_ rfl
  exact ⟨.pl, 0, _, n, rfl, ⟨rfl, rfl, rfl, rfl, by rw [← HI.out]; rfl⟩, H.out, .inr ⟨rfl, rfl, rfl⟩, Nat.lt_succ_self _, HO.out⟩
end
end Go.Proofs.YtplikjbajejciaaDoor.Lex
