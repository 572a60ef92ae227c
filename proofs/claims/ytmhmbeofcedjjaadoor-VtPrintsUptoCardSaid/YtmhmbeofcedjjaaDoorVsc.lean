/- A scope in which the run jumps to labels: unrolled, a jump a step. No word of the program but its name. -/
import Derived.Test.YtmhmbeofcedjjaaDoorVco
import Derived.ScopeJumps
import Derived.WalkMore
namespace Go.Proofs.YtmhmbeofcedjjaaDoor.Vt

/-- As Q; by a goto: the rest of the scope from that label on, with one jump fewer to go. -/
def Jn (P : Program) (c : Code) (Q : Exit → Act → World → Prop) : Nat → Exit → Act → World → Prop
  | n + 1, .goto l, a, w => ∃ rest, findLabel c l = some rest ∧ rest.wp P (Jn P c Q n) a w
  | 0, .goto _, _, _ => False
  | _, e, a, w => Q e a w
section
variable {P : Program} {a : Act} {w : World} {Q : Exit → Act → World → Prop} {c : Code}
theorem Jn.normal (n : Nat) : Jn P c Q n .normal a w = Q .normal a w := by cases n <;> rfl
theorem Jn.exit (n id : Nat) : Jn P c Q n (.exit id) a w = Q (.exit id) a w := by cases n <;> rfl
theorem Jn.ret (n : Nat) : Jn P c Q n .ret a w = Q .ret a w := by cases n <;> rfl
theorem Jn.panic (n : Nat) (ch : List PanicEntry) : Jn P c Q n (.panic ch) a w = Q (.panic ch) a w := by cases n <;> rfl
theorem Jn.outgrown (n : Nat) : Jn P c Q n .outgrown a w = Q .outgrown a w := by cases n <;> rfl
theorem Jn.go {n l : Nat} {rest : Code} (hf : findLabel c l = some rest) (h : rest.wp P (Jn P c Q n) a w) : Jn P c Q (n + 1) (.goto l) a w := ⟨rest, hf, h⟩
theorem wp_scope_unroll (n : Nat) (h : c.wp P (Jn P c Q n) a w) : (Code.scope c).wp P Q a w := by
  intro b k cs
  have key : ∀ n (c' : Code) a w, c'.wp P (Jn P c Q n) a w → ∃ e a' w', Q e a' w' ∧ Arrives P (lone (b.at a (.code c' :: .inScope c :: k)) cs w) b k cs e a' w' := by
    intro n
    induction n with
    | zero =>
      intro c' a w h
      obtain ⟨e, a₁, w₁, hq, harr⟩ := h b (.inScope c :: k) cs
      cases e with
      | normal => exact ⟨.normal, a₁, w₁, hq, Steps.trans harr (.one step_inScope)⟩
      | exit id => exact ⟨.exit id, a₁, w₁, hq, fun k' hk => harr k' (by simp [exitTo, hk])⟩
      | goto l => exact hq.elim
      | ret => exact ⟨_, a₁, w₁, hq, harr⟩
      | panic ch => exact ⟨_, a₁, w₁, hq, harr⟩
      | outgrown => exact ⟨_, a₁, w₁, hq, harr⟩
    | succ n ih =>
      intro c' a w h
      obtain ⟨e, a₁, w₁, hq, harr⟩ := h b (.inScope c :: k) cs
      cases e with
      | normal => exact ⟨.normal, a₁, w₁, hq, Steps.trans harr (.one step_inScope)⟩
      | exit id => exact ⟨.exit id, a₁, w₁, hq, fun k' hk => harr k' (by simp [exitTo, hk])⟩
      | goto l =>
        obtain ⟨rest, hf, hr⟩ := hq
        have hg : gotoIn l (.inScope c :: k) = some (.code rest :: .inScope c :: k) := by simp [gotoIn, hf]
        obtain ⟨e₂, a₂, w₂, hq₂, harr₂⟩ := ih rest a₁ w₁ hr
        exact ⟨e₂, a₂, w₂, hq₂, .of_steps (harr _ hg) harr₂⟩
      | ret => exact ⟨_, a₁, w₁, hq, harr⟩
      | panic ch => exact ⟨_, a₁, w₁, hq, harr⟩
      | outgrown => exact ⟨_, a₁, w₁, hq, harr⟩
  obtain ⟨e, a', w', hq, harr⟩ := key n c a w h
  refine ⟨e, a', w', hq, ?_⟩
  exact .of_steps (.one step_scope) harr
end
end Go.Proofs.YtmhmbeofcedjjaaDoor.Vt
