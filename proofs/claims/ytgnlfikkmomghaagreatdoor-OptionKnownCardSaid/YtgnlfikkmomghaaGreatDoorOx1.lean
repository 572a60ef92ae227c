/- The examples' facts in plain words. -/
import Derived.Test.YtgnlfikkmomghaaGreatDoorOpr
namespace Go.Proofs.YtgnlfikkmomghaaGreatDoor.Opt
open Go.RowKit Go.Maps

def statusT : Tx := [115, 116, 97, 116, 117, 115]
def baseT : Tx := [98, 97, 115, 101, 45, 105, 110, 100, 101, 120]
def statT : Tx := [115, 116, 97, 116]
def histT : Tx := [104, 105, 115, 116]
def onT : Tx := [111, 110]
def noT : Tx := [110, 111]
def offT : Tx := [111, 102, 102]
def o7T : Tx := [48, 48, 55]
def o1 : Op8 := ⟨statusT, 2, flagK, onT, 0, 0, []⟩
def o2 : Op8 := ⟨baseT, 2, numK, [48], 0, 9999, []⟩
def v1 : Value := .agg #[.string (bs offT), .slice none 0 0]
def v2 : Value := .agg #[.string (bs [55]), .slice none 0 0]
def D0 : DataW Value := .map []
def D1 : DataW Value := putD D0 statusT v1
def D2 : DataW Value := putD D1 baseT v2
theorem n1 : namedP statusT = some (o1, -1) := by kernel_rfl
theorem n2 : namedP baseT = some (o2, -1) := by kernel_rfl
theorem n3 : namedP statT = none := by kernel_rfl
theorem u1 : userP o1.name = false := by kernel_rfl
theorem k1 : knownP histT = ([104, 105, 115, 116, 111, 114, 121, 45, 108, 105, 109, 105, 116], numK, 0) := by kernel_rfl
theorem lk0 : lookP [D0, D0] o1.name = none := by kernel_rfl
theorem lk1 : lookP [D1, D0] o1.name = some v1 := by kernel_rfl
theorem lk2 : lookP [D2, D0] o2.name = some v2 := by kernel_rfl
theorem sz1 : Maps.size D1 = 1 := by kernel_rfl
theorem sz2 : Maps.size D2 = 2 := by kernel_rfl
theorem sl1 : ∀ s, slenV (valP D1 s) ≤ 1000 := fun s => by
  have h : valP D1 s = v1 ∨ valP D1 s = zeroH := by
    unfold valP
    by_cases hs : s = statusT
    · subst hs; exact .inl (by kernel_rfl)
    · right
      have h1 : D1.atKey (.string s) (.held zeroH) = D0.atKey (.string s) (.held zeroH) := atKey_put_other (D := D0) (k := .string statusT) (k' := .string s) (fun e => hs (by injection e)) (.held v1) (.held zeroH)
      rw [h1]; rfl
  rcases h with h | h <;> rw [h] <;> decide
theorem rm1 : roomN D1 baseT (strKeys D1) = 1 := by kernel_rfl
theorem nb1 : Lib.trimPrefix o7T [45] = o7T := by kernel_rfl
theorem nb2 : (Lib.trimS o7T digCs).isEmpty = true := by kernel_rfl
theorem nb3 : atoiP o7T = (7, false) := by kernel_rfl
theorem nb4 : Lib.itoa 7 = [55] := by kernel_rfl
theorem nb5 : atoiP [55] = (7, false) := by kernel_rfl
end Go.Proofs.YtgnlfikkmomghaaGreatDoor.Opt
