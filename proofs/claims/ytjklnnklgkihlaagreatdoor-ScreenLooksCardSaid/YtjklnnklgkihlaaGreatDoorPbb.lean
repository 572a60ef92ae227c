/- Colours told by numbers behind. -/
import Derived.Test.YtjklnnklgkihlaaGreatDoorPNpn
import Derived.Deep.QuietTactic
import Derived.BigQuiet
namespace Go.Proofs.YtjklnnklgkihlaaGreatDoor.Scr
open Go.RowKit Cel Sty Grd

set_option maxRecDepth 100000 in
set_option maxHeartbeats 1000000 in
theorem areBytes_at (w : World) (g o cap : Nat) (L : List Int) (hn : L.length ≤ 1000) (hrd : ∀ k (hk : k < L.length), w.cell? ⟨g, o + k, none⟩ = some (.int .i64 L[k])) :
    Calls Tryz.prog 233 #[.slice (some ⟨g, o, none⟩) L.length cap] w fun e w' => e = .returned (.bool (L.all fun x => decide (x ≤ 255))) ∧ w = w' := by
  obtain ⟨n, hnn⟩ : ∃ n, L.length = n := ⟨_, rfl⟩
  rw [hnn] at hn ⊢
  have HN := Lib.hid hnn
  have HR := Lib.hid hrd
  clear hnn hrd
  go_enter Tryz.func233, Tryz.ntmps233
  go_wp2_with fail
  go_loopw [7] (fun i wr => ∃ j : Nat, j ≤ n ∧ i = .int .i64 (j : Int) ∧ (∀ x ∈ L.take j, x ≤ 255) ∧ w = wr) (fun i _ => n - (intOf i).toNat)
  case atStart => exact ⟨0, Nat.zero_le _, rfl, by simp, rfl⟩
  case round =>
    obtain ⟨j, hj, rfl, hall, rfl⟩ := hrel
    have j0 : (0 : Int) ≤ (j : Int) := Int.natCast_nonneg _
    by_cases hlt : j < n
    · have hjL : j < L.length := by rw [HN.out]; exact hlt
      have j1 : (j : Int) < (n : Int) := by omega
      have c0 := HR.out j hjL
      have htk : L.take (j + 1) = L.take j ++ [L[j]] := List.take_succ_eq_append_getElem hjL
      have hmem : L[j] ∈ L := List.getElem_mem hjL
      generalize L[j] = x at *
      by_cases hx : 255 < x
      · have he : (L.all fun x => decide (x ≤ 255)) = false := by
          rw [List.all_eq_false]
          exact ⟨x, hmem, by simp; omega⟩
        have HE := Lib.hid he
        clear he htk hall hmem
        go_wp2_with fail
        go_ret
        exact ⟨by rw [HE.out]; rfl, rfl⟩
      · have hal : ∀ y ∈ L.take (j + 1), y ≤ 255 := fun y hy => by
          rw [htk, List.mem_append, List.mem_singleton] at hy
          rcases hy with hy | rfl
          · exact hall y hy
          · omega
        have HAL := Lib.hid hal
        clear hal htk hall hmem
        go_wp2_with fail
        go_roundw
        case rel => exact ⟨j + 1, by omega, by go_num, HAL.out, trivial⟩
        case measure => simp [intOf]; omega
    · obtain rfl : j = n := by omega
      have he : (L.all fun x => decide (x ≤ 255)) = true := by
        rw [← HN.out, List.take_length] at hall
        rw [List.all_eq_true]
        exact fun y hy => decide_eq_true (hall y hy)
      have HE := Lib.hid he
      clear he hall
      go_wp2_with fail
      go_ret
      exact ⟨by rw [HE.out]; rfl, rfl⟩
theorem drewN_below {B : Nat} {w w' : World} (h : Below B w w') (n : Nat) : Below B w (w'.drewN n) := ⟨h.os, h.tape, h.output, h.size, h.block⟩
/-- A colour told by the numbers behind the first one, and how many are taken. -/
def mixP (l : List Int) (was : Int) : Int × Nat :=
  if 3 ≤ l.length ∧ l.getD 1 0 = 5 ∧ l.getD 2 0 ≤ 255 then (l.getD 2 0, 3)
  else if 5 ≤ l.length ∧ l.getD 1 0 = 2 ∧ l.getD 2 0 ≤ 255 ∧ l.getD 3 0 ≤ 255 ∧ l.getD 4 0 ≤ 255 then (16777216 + l.getD 2 0 * 65536 + l.getD 3 0 * 256 + l.getD 4 0, 5)
  else (was, l.length)
set_option maxRecDepth 100000 in
set_option maxHeartbeats 4000000 in
theorem mixed_at (w : World) (g o : Nat) (l : List Int) (was : Int) (hn : l.length ≤ 1000) (hb : ∀ x ∈ l, 0 ≤ x ∧ x ≤ 9999) (hrd : ∀ k (hk : k < l.length), w.cell? ⟨g, o + k, none⟩ = some (.int .i64 l[k])) :
    Calls Tryz.prog 221 #[.slice (some ⟨g, o, none⟩) l.length l.length, .int .i64 was] w fun e w' => e = .returned (.tuple #[.int .i64 (mixP l was).1, .int .i64 ((mixP l was).2 : Int)]) ∧ Below w.heap.size w w' := by
  unfold mixP
  match l, hn, hb, hrd with
  | [], _, _, _ =>
    go_enter Tryz.func221, Tryz.ntmps221
    go_wp2_with fail
    exact bodyPost_ret (v := .tuple #[.int .i64 was, .int .i64 0]) (by simp [results, Tryz.results221, go_sem]) rfl ⟨rfl, Below.refl _ _⟩
  | [a], _, _, _ =>
    go_enter Tryz.func221, Tryz.ntmps221
    go_wp2_with fail
    exact bodyPost_ret (v := .tuple #[.int .i64 was, .int .i64 1]) (by simp [results, Tryz.results221, go_sem]) rfl ⟨rfl, Below.refl _ _⟩
  | [a, b], _, _, _ =>
    go_enter Tryz.func221, Tryz.ntmps221
    go_wp2_with fail
    exact bodyPost_ret (v := .tuple #[.int .i64 was, .int .i64 2]) (by simp [results, Tryz.results221, go_sem]) rfl ⟨rfl, Below.refl _ _⟩
  | a :: b :: c :: t, hn, hb, hrd =>
    have c1 : w.cell? ⟨g, o + 1, none⟩ = some (.int .i64 b) := hrd 1 (by simp)
    have c2 : w.cell? ⟨g, o + 2, none⟩ = some (.int .i64 c) := hrd 2 (by simp)
    have ka := areBytes_at w g (o + 2) (t.length + 1) [c] (by simp) (fun k hk => by
      obtain rfl : k = 0 := by simpa using hk
      exact c2)
    obtain ⟨n, hnl⟩ : ∃ n, (a :: b :: c :: t).length = n := ⟨_, rfl⟩
    have hnt : t.length + 1 = n - 2 := by simp at hnl; omega
    have hn3 : 3 ≤ n := by simp at hnl; omega
    rw [hnl] at hn ⊢
    rw [hnt] at ka
    simp only [List.getD_cons_zero, List.getD_cons_succ]
    have i3 : (3 : Int) ≤ (n : Int) := by omega
    have i4 : ¬ n = 2 := by omega
    have i5 : (2 : Int) ≤ (n : Int) := by omega
    by_cases h5 : b = 5
    · by_cases h255 : c ≤ 255
      · rw [if_pos ⟨hn3, h5, h255⟩]
        have e1 : ([c].all fun x => decide (x ≤ 255)) = true := by simpa using h255
        rw [e1] at ka
        clear hrd hb hnl hnt h255
        subst h5
        go_enter Tryz.func221, Tryz.ntmps221
        go_wp2_with (go_at_call 233; refine ka.mono ?_; rintro _ w1 ⟨rfl, rfl⟩)
        exact bodyPost_ret (v := .tuple #[.int .i64 c, .int .i64 3]) (by simp [results, Tryz.results221, go_sem]) rfl ⟨rfl, Below.refl _ _⟩
      · rw [if_neg (fun h => h255 h.2.2), if_neg (fun h => by have := h.2.1; omega)]
        have e1 : ([c].all fun x => decide (x ≤ 255)) = false := by simpa using h255
        rw [e1] at ka
        have b2 : ¬ b = 2 := by omega
        clear hrd hb hnl hnt h255
        subst h5
        by_cases hn5 : 5 ≤ n
        · have i6 : (5 : Int) ≤ (n : Int) := by omega
          go_enter Tryz.func221, Tryz.ntmps221
          go_wp2_with (go_at_call 233; refine ka.mono ?_; rintro _ w1 ⟨rfl, rfl⟩)
          exact bodyPost_ret (v := .tuple #[.int .i64 was, .int .i64 (n : Int)]) (by simp [results, Tryz.results221, go_sem]) rfl ⟨rfl, Below.refl _ _⟩
        · have i6 : ¬ (5 : Int) ≤ (n : Int) := by omega
          go_enter Tryz.func221, Tryz.ntmps221
          go_wp2_with (go_at_call 233; refine ka.mono ?_; rintro _ w1 ⟨rfl, rfl⟩)
          exact bodyPost_ret (v := .tuple #[.int .i64 was, .int .i64 (n : Int)]) (by simp [results, Tryz.results221, go_sem]) rfl ⟨rfl, Below.refl _ _⟩
    · rw [if_neg (fun h => h5 h.2.1)]
      by_cases hn5 : 5 ≤ n
      · obtain ⟨d, e, t2, rfl⟩ : ∃ d e t2, t = d :: e :: t2 := by
          match t, hnl with
          | [], h => simp at h; omega
          | [_], h => simp at h; omega
          | d :: e :: t2, _ => exact ⟨d, e, t2, rfl⟩
        have i6 : (5 : Int) ≤ (n : Int) := by omega
        by_cases h2 : b = 2
        · have c3 : w.cell? ⟨g, o + 3, none⟩ = some (.int .i64 d) := hrd 3 (by simp)
          have c4 : w.cell? ⟨g, o + 4, none⟩ = some (.int .i64 e) := hrd 4 (by simp)
          have k3 := areBytes_at w g (o + 2) (n - 2) [c, d, e] (by simp) (fun k hk => by
            match k, hk with
            | 0, _ => exact c2
            | 1, _ => exact c3
            | 2, _ => exact c4
            | k + 3, hk => exact absurd hk (by simp))
          have bc := hb c (by simp)
          have bd := hb d (by simp)
          have be := hb e (by simp)
          have i7 : (4 : Int) < (n : Int) := by omega
          have i8 : (3 : Int) < (n : Int) := by omega
          have i9 : (2 : Int) < (n : Int) := by omega
          by_cases hall : c ≤ 255 ∧ d ≤ 255 ∧ e ≤ 255
          · rw [if_pos ⟨hn5, h2, hall⟩]
            have e1 : ([c, d, e].all fun x => decide (x ≤ 255)) = true := by simpa using hall
            rw [e1] at k3
            have s1 : IntKind.i64.wrap (c * 65536) = c * 65536 := IntWalk.i64_in _ ⟨by omega, by omega⟩
            have s2 : IntKind.i64.wrap (16777216 + c * 65536) = 16777216 + c * 65536 := IntWalk.i64_in _ ⟨by omega, by omega⟩
            have s3 : IntKind.i64.wrap (d * 256) = d * 256 := IntWalk.i64_in _ ⟨by omega, by omega⟩
            have s4 : IntKind.i64.wrap (16777216 + c * 65536 + d * 256) = 16777216 + c * 65536 + d * 256 := IntWalk.i64_in _ ⟨by omega, by omega⟩
            have s5 : IntKind.i64.wrap (16777216 + c * 65536 + d * 256 + e) = 16777216 + c * 65536 + d * 256 + e := IntWalk.i64_in _ ⟨by omega, by omega⟩
            clear hrd hb hnl hnt ka hall h5
            subst h2
            go_enter Tryz.func221, Tryz.ntmps221
            go_wp2_with (go_at_call 233; refine k3.mono ?_; rintro _ w1 ⟨rfl, rfl⟩)
            go_quiet (fail)
            go_wp2_with fail
            exact bodyPost_ret (v := .tuple #[.int .i64 (16777216 + c * 65536 + d * 256 + e), .int .i64 5]) (by simp [results, Tryz.results221, go_sem]) rfl ⟨rfl, drewN_below (Below.refl _ _) _⟩
          · rw [if_neg (fun h => hall h.2.2)]
            have e1 : ([c, d, e].all fun x => decide (x ≤ 255)) = false := by
              rw [Bool.eq_false_iff]
              intro h
              simp at h
              exact hall h
            rw [e1] at k3
            clear hrd hb hnl hnt ka hall h5
            subst h2
            go_enter Tryz.func221, Tryz.ntmps221
            go_wp2_with (go_at_call 233; refine k3.mono ?_; rintro _ w1 ⟨rfl, rfl⟩)
            exact bodyPost_ret (v := .tuple #[.int .i64 was, .int .i64 (n : Int)]) (by simp [results, Tryz.results221, go_sem]) rfl ⟨rfl, Below.refl _ _⟩
        · rw [if_neg (fun h => h2 h.2.1)]
          clear hrd hb hnl hnt ka
          go_enter Tryz.func221, Tryz.ntmps221
          go_wp2_with fail
          exact bodyPost_ret (v := .tuple #[.int .i64 was, .int .i64 (n : Int)]) (by simp [results, Tryz.results221, go_sem]) rfl ⟨rfl, Below.refl _ _⟩
      · rw [if_neg (fun h => hn5 h.1)]
        have i6 : ¬ (5 : Int) ≤ (n : Int) := by omega
        clear hrd hb hnl hnt ka
        go_enter Tryz.func221, Tryz.ntmps221
        go_wp2_with fail
        exact bodyPost_ret (v := .tuple #[.int .i64 was, .int .i64 (n : Int)]) (by simp [results, Tryz.results221, go_sem]) rfl ⟨rfl, Below.refl _ _⟩
end Go.Proofs.YtjklnnklgkihlaaGreatDoor.Scr
