/- Layer 3 in plain words: attributes' names. No word of the model. -/
import Derived.Test.YtajnlbfhcbkopaaDoorSpb
namespace Go.Proofs.YtajnlbfhcbkopaaDoor.Sty
theorem words_len (i : Nat) : (words.getD i []).length ≤ 13 := by
  by_cases h : i < 8
  · have : ∀ i, i < 8 → (words.getD i []).length ≤ 13 := by decide
    exact this i h
  · rw [List.getD_eq_getElem?_getD, List.getElem?_eq_none (by show 8 ≤ i; omega)]; decide
end Go.Proofs.YtajnlbfhcbkopaaDoor.Sty
