/- A pen turned to what one number says. -/
import Derived.Test.YtjklnnklgkihlaaGreatDoorPNts
namespace Go.Proofs.YtjklnnklgkihlaaGreatDoor.Scr
open Go.RowKit Cel Sty Grd

def attrs : List Int := [0, 1, 2, 4, 8, 16, 0, 32, 64, 128]
def attrCells : Array Value := (attrs.map (Value.int .i64)).toArray
/-- The table of attributes lies below block B. -/
structure TabA (B : Nat) (w : World) : Prop where
  att : ∃ t fr, w.heap[7]? = some (.cells attrCells t fr)
  low : 7 < B
theorem TabA.below {B C : Nat} {w w' : World} (h : TabA B w) (hb : Below C w w') (hC : B ≤ C) : TabA B w' := by
  obtain ⟨t, fr, h1⟩ := h.att
  exact ⟨⟨t, fr, (hb.block _ (by have := h.low; omega)).trans h1⟩, h.low⟩
theorem TabA.only {B : Nat} {w w' : World} {F : List Nat} (h : TabA B w) (ho : Only F w w') (hB : B ≤ w.heap.size) (hF : ∀ x ∈ F, B ≤ x) : TabA B w' := h.below (ho.below hB hF) (Nat.le_refl _)
theorem TabA.at_ {B : Nat} {w : World} (h : TabA B w) (k : Nat) (hk : k < 10) : w.cell? ⟨7, k, none⟩ = some (.int .i64 (attrs.getD k 0)) := by
  obtain ⟨t, fr, h1⟩ := h.att
  rw [cell_of_row w _ k attrCells t fr h1]
  match k, hk with
  | 0, _ => rfl
  | 1, _ => rfl
  | 2, _ => rfl
  | 3, _ => rfl
  | 4, _ => rfl
  | 5, _ => rfl
  | 6, _ => rfl
  | 7, _ => rfl
  | 8, _ => rfl
  | 9, _ => rfl
  | k + 10, hk => exact absurd hk (by omega)
/-- The colour of a number, less the first one of its kind. -/
def colP (n : Int) : Int × Bool := if 0 ≤ n ∧ n < 8 then (n, true) else if n = 9 then (-1, true) else if 60 ≤ n ∧ n < 68 then (n - 60 + 8, true) else (0, false)
set_option maxRecDepth 100000 in
set_option maxHeartbeats 1000000 in
theorem colour_at (n : Int) (h0 : -10000 ≤ n) (h1 : n ≤ 10000) (w : World) : Calls Tryz.prog 234 #[.int .i64 n] w fun e w' => e = .returned (.tuple #[.int .i64 (colP n).1, .bool (colP n).2]) ∧ w = w' := by
  unfold colP
  have j1 : IntKind.i64.wrap (n - 60) = n - 60 := IntWalk.i64_in _ ⟨by omega, by omega⟩
  have j2 : IntKind.i64.wrap (n - 60 + 8) = n - 60 + 8 := IntWalk.i64_in _ ⟨by omega, by omega⟩
  by_cases a1 : 0 ≤ n
  · by_cases a2 : n < 8
    · rw [if_pos ⟨a1, a2⟩]
      go_enter Tryz.func234, Tryz.ntmps234
      go_wp2_with fail
      exact bodyPost_ret (v := .tuple #[.int .i64 n, .bool true]) (by simp [results, Tryz.results234, go_sem]) rfl ⟨rfl, rfl⟩
    · rw [if_neg (fun h => a2 h.2)]
      by_cases a3 : n = 9
      · rw [if_pos a3]
        subst a3
        go_enter Tryz.func234, Tryz.ntmps234
        go_wp2_with fail
        exact bodyPost_ret (v := .tuple #[.int .i64 (-1), .bool true]) (by simp [results, Tryz.results234, go_sem]) rfl ⟨rfl, rfl⟩
      · rw [if_neg a3]
        by_cases a4 : 60 ≤ n
        · by_cases a5 : n < 68
          · rw [if_pos ⟨a4, a5⟩]
            go_enter Tryz.func234, Tryz.ntmps234
            go_wp2_with fail
            exact bodyPost_ret (v := .tuple #[.int .i64 (n - 60 + 8), .bool true]) (by simp [results, Tryz.results234, go_sem]) rfl ⟨rfl, rfl⟩
          · rw [if_neg (fun h => a5 h.2)]
            go_enter Tryz.func234, Tryz.ntmps234
            go_wp2_with fail
            exact bodyPost_ret (v := .tuple #[.int .i64 0, .bool false]) (by simp [results, Tryz.results234, go_sem]) rfl ⟨rfl, rfl⟩
        · rw [if_neg (fun h => a4 h.1)]
          go_enter Tryz.func234, Tryz.ntmps234
          go_wp2_with fail
          exact bodyPost_ret (v := .tuple #[.int .i64 0, .bool false]) (by simp [results, Tryz.results234, go_sem]) rfl ⟨rfl, rfl⟩
  · rw [if_neg (fun h => a1 h.1), if_neg (by omega), if_neg (by omega)]
    have a3 : ¬ n = 9 := by omega
    have a4 : ¬ 60 ≤ n := by omega
    go_enter Tryz.func234, Tryz.ntmps234
    go_wp2_with fail
    exact bodyPost_ret (v := .tuple #[.int .i64 0, .bool false]) (by simp [results, Tryz.results234, go_sem]) rfl ⟨rfl, rfl⟩
/-- The pen behind the two colours; behind the number. -/
def hueP (s : St) (code : Int) : St := (if (colP (code - 30)).2 = true then (colP (code - 30)).1 else s.1, if (colP (code - 40)).2 = true then (colP (code - 40)).1 else s.2.1, s.2.2)
def turnedP (s : St) (code : Int) : St :=
  if code = 0 then (-1, -1, 0)
  else if code < 10 then ((hueP s code).1, (hueP s code).2.1, bits .or .i64 s.2.2 (attrs.getD code.toNat 0))
  else if code = 22 then ((hueP s code).1, (hueP s code).2.1, bits .andNot .i64 s.2.2 3)
  else if 22 < code ∧ code < 30 then ((hueP s code).1, (hueP s code).2.1, bits .andNot .i64 s.2.2 (attrs.getD (code - 20).toNat 0))
  else hueP s code
end Go.Proofs.YtjklnnklgkihlaaGreatDoor.Scr
