/- lex: what holds at the labels of the reading of a text. -/
import Derived.Test.YtplikjbajejciaaDoorQrg
namespace Go.Proofs.YtplikjbajejciaaDoor.Lex
open Go.RowKit Go.Maps
/-- What a text comes to. -/
def RP (B G rb : Nat) (w0 : World) (env : Env) (R : RR) (e : Ending) (w' : World) : Prop :=
  match R with
  | .bad k l => e = .panicked (ftP k l) ∧ Only [rb] w0 w'
  | .done L => e = .returned (.tuple #[]) ∧ (∃ K ls n, ls.map (·.2) = L ∧ RH B G rb w' K env ls [] [] n) ∧ Only [rb] w0 w'
theorem RP.bad_ {B G rb : Nat} {w0 w' : World} {env : Env} {R : RR} {k l : Nat} (hR : R = .bad k l) (h : Only [rb] w0 w') : RP B G rb w0 env R (.panicked (ftP k l)) w' := by subst hR; exact ⟨rfl, h⟩
theorem RP.done_ {B G rb : Nat} {w0 w' : World} {env : Env} {R : RR} {L : List Ln} {K : Kp} {ls : List LV} {n : Nat} (hR : R = .done L) (hm : ls.map (·.2) = L) (hh : RH B G rb w' K env ls [] [] n) (h : Only [rb] w0 w') : RP B G rb w0 env R (.returned (.tuple #[])) w' := by subst hR; exact ⟨rfl, ⟨K, ls, n, hm, hh⟩, h⟩
/-- One step of a word between words. -/
def wordS (env : Env) (L : List Ln) (ws : List Wd) (g : Nat) (s : Tx) (n : Nat) : Sr :=
  if many L ws then .bad 3
  else match wordP env s n with
    | .bad e => .bad e
    | .got t s' n' => .go L (ws ++ [⟨t, n, false⟩]) g s' n'
/-- What is left to be done at a label, with a number that every pass lowers. -/
inductive RC (env : Env) (R : RR) (L : List Ln) (ws : List Wd) (g : Nat) (s : Tx) (n bg : Nat) : Nat → Nat → Prop
  | btw (f : Nat) : s.length < f → readF env f L ws g s n = R → RC env R L ws g s n bg (3 * s.length + 1) 0
  | rem0 (f : Nat) (r : Tx) : s = 35 :: r → (skipR s).length < f → readF env f L ws g (skipR s) n = R → RC env R L ws g s n bg (3 * s.length) 1
  | rem1 (f : Nat) : (skipR s).length < f → readF env f L ws g (skipR s) n = R → RC env R L ws g s n bg (3 * s.length + 2) 1
  | blk (f : Nat) (r : Tx) : s = 123 :: r → bg = n → s.length < f → readF env f L ws g s n = R → RC env R L ws g s n bg (3 * s.length) 2
  | wrd (f : Nat) (c : UInt8) (r : Tx) : s = c :: r → brk (c :: r) = false → stepR env L ws g s n = wordS env L ws g s n → bg = n → s.length < f → readF env f L ws g s n = R → RC env R L ws g s n bg (3 * s.length) 3
def RJ (B rb : Nat) (w0 : World) (env : Env) (R : RR) (m l : Nat) (a : Act) (w : World) : Prop :=
  ∃ K ls ws s n, Fr 62 (ptrV rb) a ∧ RH B w0.heap.size rb w K env ls ws s n ∧ Only [rb] w0 w ∧ RC env R (ls.map (·.2)) ws K.g s n K.bg m l
noncomputable def readC : Code := innerC Tryd.f24
section
variable {env : Env} {R : RR} {L : List Ln} {ws : List Wd} {g n f : Nat} {s : Tx}
theorem readF_go {L' : List Ln} {ws' : List Wd} {g' n' : Nat} {s' : Tx} (hw : readF env (f + 1) L ws g s n = R) (hst : stepR env L ws g s n = .go L' ws' g' s' n') : readF env f L' ws' g' s' n' = R := by
  unfold readF at hw; rw [hst] at hw; exact hw
theorem readF_bad {e : Nat} (hw : readF env (f + 1) L ws g s n = R) (hst : stepR env L ws g s n = .bad e) : R = .bad e n := by
  unfold readF at hw; rw [hst] at hw; exact hw.symm
theorem readF_fin (hw : readF env (f + 1) L ws g s n = R) (hst : stepR env L ws g s n = .fin) : R = .done (endC L ws g) := by
  unfold readF at hw; rw [hst] at hw; exact hw.symm
theorem skipR_le : ∀ s : Tx, (skipR s).length ≤ s.length
  | [] => Nat.le_refl _
  | c :: r => by
    unfold skipR
    have := skipR_le r
    split
    · exact Nat.le_refl _
    · rw [List.length_cons]; omega
end
section
variable {B G rb n : Nat} {w0 w w' : World} {K : Kp} {env : Env} {ls : List LV} {ws : List Wd} {s : Tx}
def Kp.bgn (K : Kp) (n : Nat) : Kp := { K with bg := n }
/-- The line in which a word begins is noted. -/
theorem RH.bgn (h : RH B G rb w K env ls ws s n) : RH B G rb (w.setCell ⟨rb, 8, none⟩ (.int .i64 (n : Int))) (K.bgn n) env ls ws s n := by
  obtain ⟨mv, hR, hM⟩ := h.cx.place
  have hset := one_set w rb 8 (.int .i64 (n : Int))
  have hR2 : RAt (w.setCell ⟨rb, 8, none⟩ (.int .i64 (n : Int))) rb ((K.bgn n).rd s n mv) := BL.set_ hR 8 _
  exact h.go (h.cx.turn (K' := K.bgn n) hR2 (hM.set mv hR hset (by simp)) hset rfl rfl (List.suffix_refl _) (Nat.le_refl _)) hset rfl rfl rfl (Nat.le_refl _)
theorem frame_own (hG : G = w0.heap.size) (ho : Only [rb] w0 w) {t : TypeId} {size m : Nat} {v : Value} {xs : List Value} (hown : w.ownsRow G t size v m xs) (hF : ∀ F, (∀ k, v.ownBlock = some k → k ∈ F) → Only (rb :: F) w w') : Only [rb] w0 w' :=
  ho.trans2 (hF v.ownBlock.toList (fun k hk => by rw [hk]; simp)) (fun x hx => by
    rcases List.mem_cons.1 hx with rfl | hx
    · exact .inl (by simp)
    · rw [Option.mem_toList] at hx
      exact .inr (by rw [← hG]; exact (own_low hown x hx).1))
theorem body_ret {P : Program} {fn : Func} {R : Ending → World → Prop} {a : Act} {w : World} (h : fn.results = #[]) (hd : a.defers = []) (hR : R (.returned (.tuple #[])) w) : bodyPost P fn R .ret a w :=
  ⟨hd, _, results_none h _ _ _, hR⟩
end
end Go.Proofs.YtplikjbajejciaaDoor.Lex
