/- lex: the document's own answer to a word as it is written, whatever word. -/
import Derived.Test.YtplikjbajejciaaDoorQrr
namespace Go.Proofs.YtplikjbajejciaaDoor.Lex
open Go.RowKit
set_option maxRecDepth 100000 in
set_option maxHeartbeats 4000000 in
theorem refQuote_none (w : World) :
    Calls Tryd.prog 7 #[.string { data := #[] }] w fun e w' => e = .returned (.string { data := #[39, 39] }) ∧ Below w.heap.size w w' := by
  go_enter Tryd.func7, Tryd.ntmps7
  go_wp2_with fail
  refine wp_loop_rounds 1 ?_
  rw [rounds_succ]
  go_wp2_with fail
  go_ret
  exact ⟨rfl, Below.refl _ _⟩
/-- The document's answer to a word. -/
theorem refQuote_any (s : Tx) (hl : s.length ≤ 2000000) (w : World) :
    Calls Tryd.prog 7 #[.string (bs s)] w fun e w' => e = .returned (.string (bs (quoteP s))) ∧ Below w.heap.size w w' := by
  by_cases h : s = []
  · subst h
    exact refQuote_none w
  · exact refQuote_some s hl h w
end Go.Proofs.YtplikjbajejciaaDoor.Lex
