/- format: signs, the names behind a sign, a text that is short, where a sign stands outside. -/
import Derived.Test.YtbiinghmopgjnaaGreatDoorFmm
import Derived.Test.YtbiinghmopgjnaaGreatDoorShelf
namespace Go.Proofs.YtbiinghmopgjnaaGreatDoor.Fmt
open Go.RowKit

theorem u8_int {c d : UInt8} (h : (c.toNat : Int) = (d.toNat : Int)) : c = d := UInt8.toNat_inj.1 (by omega)
set_option maxRecDepth 100000 in
theorem marked_any (c : UInt8) (w : World) : Calls Tryz.prog 19 #[.int .u8 (c.toNat : Int)] w fun e w' => e = .returned (.bool (marked c)) ∧ w = w' := by
  by_cases h1 : c = 35
  · subst h1
    show Calls Tryz.prog 19 #[.int .u8 35] w _
    go_enter Tryz.func19, Tryz.ntmps19
    go_wp2
    go_ret
    exact ⟨rfl, rfl⟩
  by_cases h2 : c = 44
  · subst h2
    show Calls Tryz.prog 19 #[.int .u8 44] w _
    go_enter Tryz.func19, Tryz.ntmps19
    go_wp2
    go_ret
    exact ⟨rfl, rfl⟩
  by_cases h3 : c = 125
  · subst h3
    show Calls Tryz.prog 19 #[.int .u8 125] w _
    go_enter Tryz.func19, Tryz.ntmps19
    go_wp2
    go_ret
    exact ⟨rfl, rfl⟩
  · have e : marked c = false := by simp [marked, h1, h2, h3]
    have k1 : ¬ (c.toNat : Int) = 35 := fun h => h1 (u8_int h)
    have k2 : ¬ (c.toNat : Int) = 44 := fun h => h2 (u8_int h)
    have k3 : ¬ (c.toNat : Int) = 125 := fun h => h3 (u8_int h)
    rw [e]
    clear h1 h2 h3 e
    generalize (c.toNat : Int) = x at *
    go_enter Tryz.func19, Tryz.ntmps19
    go_wp2
    go_ret
    exact ⟨by simp [k1, k2, k3], rfl⟩
set_option maxRecDepth 100000 in
theorem shorthand_any (c : UInt8) (w : World) : Calls Tryz.prog 18 #[.int .u8 (c.toNat : Int)] w fun e w' => e = .returned (.string (bs (shortP c))) ∧ w = w' := by
  by_cases h1 : c = 83
  · subst h1
    show Calls Tryz.prog 18 #[.int .u8 83] w _
    go_enter Tryz.func18, Tryz.ntmps18
    go_wp2
    go_ret
    exact ⟨rfl, rfl⟩
  by_cases h2 : c = 87
  · subst h2
    show Calls Tryz.prog 18 #[.int .u8 87] w _
    go_enter Tryz.func18, Tryz.ntmps18
    go_wp2
    go_ret
    exact ⟨rfl, rfl⟩
  by_cases h3 : c = 73
  · subst h3
    show Calls Tryz.prog 18 #[.int .u8 73] w _
    go_enter Tryz.func18, Tryz.ntmps18
    go_wp2
    go_ret
    exact ⟨rfl, rfl⟩
  by_cases h4 : c = 80
  · subst h4
    show Calls Tryz.prog 18 #[.int .u8 80] w _
    go_enter Tryz.func18, Tryz.ntmps18
    go_wp2
    go_ret
    exact ⟨rfl, rfl⟩
  by_cases h5 : c = 70
  · subst h5
    show Calls Tryz.prog 18 #[.int .u8 70] w _
    go_enter Tryz.func18, Tryz.ntmps18
    go_wp2
    go_ret
    exact ⟨rfl, rfl⟩
  by_cases h6 : c = 84
  · subst h6
    show Calls Tryz.prog 18 #[.int .u8 84] w _
    go_enter Tryz.func18, Tryz.ntmps18
    go_wp2
    go_ret
    exact ⟨rfl, rfl⟩
  by_cases h7 : c = 68
  · subst h7
    show Calls Tryz.prog 18 #[.int .u8 68] w _
    go_enter Tryz.func18, Tryz.ntmps18
    go_wp2
    go_ret
    exact ⟨rfl, rfl⟩
  by_cases h8 : c = 72
  · subst h8
    show Calls Tryz.prog 18 #[.int .u8 72] w _
    go_enter Tryz.func18, Tryz.ntmps18
    go_wp2
    go_ret
    exact ⟨rfl, rfl⟩
  · have e : shortP c = [] := by simp [shortP, h1, h2, h3, h4, h5, h6, h7, h8]
    have k1 : ¬ (c.toNat : Int) = 83 := fun h => h1 (u8_int h)
    have k2 : ¬ (c.toNat : Int) = 87 := fun h => h2 (u8_int h)
    have k3 : ¬ (c.toNat : Int) = 73 := fun h => h3 (u8_int h)
    have k4 : ¬ (c.toNat : Int) = 80 := fun h => h4 (u8_int h)
    have k5 : ¬ (c.toNat : Int) = 70 := fun h => h5 (u8_int h)
    have k6 : ¬ (c.toNat : Int) = 84 := fun h => h6 (u8_int h)
    have k7 : ¬ (c.toNat : Int) = 68 := fun h => h7 (u8_int h)
    have k8 : ¬ (c.toNat : Int) = 72 := fun h => h8 (u8_int h)
    rw [e]
    clear h1 h2 h3 h4 h5 h6 h7 h8 e
    generalize (c.toNat : Int) = x at *
    go_enter Tryz.func18, Tryz.ntmps18
    go_wp2
    go_ret
    exact ⟨rfl, rfl⟩
set_option maxRecDepth 100000 in
theorem short_any (l : Tx) (hl : l.length ≤ 8192) (w : World) : Calls Tryz.prog 14 #[.string (bs l)] w fun e w' => e = .returned (.string (bs l)) ∧ w = w' := by
  have hs : ((bs l).size : Int) ≤ 8192 := by rw [bs_size]; omega
  generalize bs l = S at *
  go_enter Tryz.func14, Tryz.ntmps14
  go_wp2
  go_ret
  exact ⟨rfl, rfl⟩
set_option maxRecDepth 100000 in
theorem step_any {w : World} {mb st d : Nat} (h : BL w mb 40 (mkL st d)) (hst : st < 10000) : Calls Tryz.prog 25 #[mkV mb] w fun e w' => e = .returned (.tuple #[]) ∧ Lf w mb (st + 1) d w' := by
  have c0 : w.cell? ⟨mb, 0, none⟩ = some (.int .i64 (st : Int)) := h.cell 0
  have f0 := h.frozen 0
  have k1 : ¬ (st : Int) = 10000 := by omega
  have k2 : (st : Int) < 10000 := by omega
  have HB := Lib.hid h
  clear h
  unfold mkV
  go_enter Tryz.func25, Tryz.ntmps25
  go_wp2
  refine body_end rfl rfl ⟨rfl, (Only.refl _ _).setCell (p := ⟨mb, 0, none⟩) (.inl (by simp)) _, ?_⟩
  exact HB.out.set_ 0 _
end Go.Proofs.YtbiinghmopgjnaaGreatDoor.Fmt
