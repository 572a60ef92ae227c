/- What a colour is, what a right look is, the plain one: the program's answers and the document's. -/
import Derived.Test.YtajnlbfhcbkopaaDoorProg
import Derived.Test.YtajnlbfhcbkopaaDoorSp
import Derived.WalkKit
import Derived.WalkLawsBesides
import Derived.WalkSpells
import Derived.WalkSmall
import Derived.Lib.Hide
import Derived.Outline
import Derived.Maps.AppendAt
import Derived.Deep.AppendLies
import Derived.Deep.Draws
import Derived.Deep.QuietTactic
import Derived.BigQuiet
namespace Go.Proofs.YtajnlbfhcbkopaaDoor.Sty
open Go.RowKit

theorem col_cases (c : Int) : c < -1 ∨ (-1 ≤ c ∧ c ≤ 255) ∨ (255 < c ∧ c < 16777216) ∨ (16777216 ≤ c ∧ c ≤ 33554431) ∨ 33554431 < c := by omega

theorem isColour_any (c : Int) (b : Bool) (hb : isCol c = b) (w : World) :
    Calls Tryd.prog 33 #[.int .i64 c] w fun e w' => e = .returned (.bool b) ∧ w = w' := by
  subst hb
  rcases col_cases c with h | ⟨h1, h2⟩ | ⟨h1, h2⟩ | ⟨h1, h2⟩ | h
  · rw [(isCol_not c).2 (by omega)]
    have d1 : decide ((-1 : Int) ≤ c) = false := by simpa using h
    have d2 : decide ((16777216 : Int) ≤ c) = false := by simp; omega
    go_enter Tryd.func33, Tryd.ntmps33
    go_wp2
    go_ret
    exact ⟨rfl, rfl⟩
  · rw [(isCol_iff c).2 (by omega)]
    go_enter Tryd.func33, Tryd.ntmps33
    go_wp2
    go_ret
    exact ⟨rfl, rfl⟩
  · rw [(isCol_not c).2 (by omega)]
    have d0 : decide ((-1 : Int) ≤ c) = true := by simp; omega
    have d1 : decide (c ≤ 255) = false := by simpa using h1
    have d2 : decide ((16777216 : Int) ≤ c) = false := by simpa using h2
    go_enter Tryd.func33, Tryd.ntmps33
    go_wp2
    go_ret
    exact ⟨rfl, rfl⟩
  · rw [(isCol_iff c).2 (by omega)]
    have d0 : decide ((-1 : Int) ≤ c) = true := by simp; omega
    have d1 : decide (c ≤ 255) = false := by simp; omega
    go_enter Tryd.func33, Tryd.ntmps33
    go_wp2
    go_ret
    exact ⟨rfl, rfl⟩
  · rw [(isCol_not c).2 (by omega)]
    have d0 : decide ((-1 : Int) ≤ c) = true := by simp; omega
    have d1 : decide (c ≤ 255) = false := by simp; omega
    have d2 : decide ((16777216 : Int) ≤ c) = true := by simp; omega
    have d3 : decide (c ≤ 33554431) = false := by simpa using h
    go_enter Tryd.func33, Tryd.ntmps33
    go_wp2
    go_ret
    exact ⟨rfl, rfl⟩

theorem is_any (c : Int) (b : Bool) (hb : isCol c = b) (w : World) :
    Calls Tryd.prog 37 #[.int .i64 c] w fun e w' => e = .returned (.bool b) ∧ w = w' := by
  subst hb
  rcases col_cases c with h | ⟨h1, h2⟩ | ⟨h1, h2⟩ | ⟨h1, h2⟩ | h
  · rw [(isCol_not c).2 (by omega)]
    have d1 : decide ((-1 : Int) ≤ c) = false := by simpa using h
    have d2 : decide ((16777216 : Int) ≤ c) = false := by simp; omega
    go_enter Tryd.func37, Tryd.ntmps37
    go_wp2
    go_ret
    exact ⟨rfl, rfl⟩
  · rw [(isCol_iff c).2 (by omega)]
    go_enter Tryd.func37, Tryd.ntmps37
    go_wp2
    go_ret
    exact ⟨rfl, rfl⟩
  · rw [(isCol_not c).2 (by omega)]
    have d0 : decide ((-1 : Int) ≤ c) = true := by simp; omega
    have d1 : decide (c ≤ 255) = false := by simpa using h1
    have d2 : decide ((16777216 : Int) ≤ c) = false := by simpa using h2
    go_enter Tryd.func37, Tryd.ntmps37
    go_wp2
    go_ret
    exact ⟨rfl, rfl⟩
  · rw [(isCol_iff c).2 (by omega)]
    have d0 : decide ((-1 : Int) ≤ c) = true := by simp; omega
    have d1 : decide (c ≤ 255) = false := by simp; omega
    have d3 : decide (c < 33554432) = true := by simp; omega
    go_enter Tryd.func37, Tryd.ntmps37
    go_wp2
    go_ret
    exact ⟨rfl, rfl⟩
  · rw [(isCol_not c).2 (by omega)]
    have d0 : decide ((-1 : Int) ≤ c) = true := by simp; omega
    have d1 : decide (c ≤ 255) = false := by simp; omega
    have d2 : decide ((16777216 : Int) ≤ c) = true := by simp; omega
    have d3 : decide (c < 33554432) = false := by simp; omega
    go_enter Tryd.func37, Tryd.ntmps37
    go_wp2
    go_ret
    exact ⟨rfl, rfl⟩

/-- A right look. -/
def rightS (fg bg at_ : Int) : Bool := isCol fg && (isCol bg && (decide (0 ≤ at_) && decide (at_ ≤ 255)))

end Go.Proofs.YtajnlbfhcbkopaaDoor.Sty
