/- How many of a line's cells are laid. -/
import Derived.Test.YtgjlohplgpcghaaDoorGft
namespace Go.Proofs.YtgjlohplgpcghaaDoor.Grd
open Go.RowKit

def usedN (l : List Ce) (place : Int) : Nat → Nat
  | 0 => 0
  | n + 1 => if place + 1 < (n : Int) + 1 ∧ l[n]? = some plainCe then usedN l place n else n + 1

set_option maxRecDepth 100000 in
set_option maxHeartbeats 1000000 in
theorem used_any {w : World} {b cap : Nat} {l : List Ce} (h : CellsAt w b l cap) (c : Nat) (hl : l.length ≤ 1000000) (wr : Bool) (place : Int) (hp0 : -1 ≤ place) (hp1 : place ≤ 1000000) :
    Calls Tryd.prog 78 #[.agg #[slV b 0 l.length c, .bool wr, .int .i64 place]] w fun e w' => e = .returned (.int .i64 (usedN l place l.length : Int)) ∧ Below w.heap.size w w' := by
  have hA := BL.new w 109 [slV b 0 l.length c, .bool wr, .int .i64 place]
  have y0 := hA.cell 0
  have y2 := hA.cell 2
  have hcW := h.alloc (.cells #[slV b 0 l.length c, .bool wr, .int .i64 place] 109)
  have hb0 : Below w.heap.size w (w.alloc (.cells #[slV b 0 l.length c, .bool wr, .int .i64 place] 109)) := (Below.refl _ _).alloc (Nat.le_refl _) _
  go_enter Tryd.func78, Tryd.ntmps78
  go_wp2_with fail
  generalize w.alloc (.cells #[slV b 0 l.length c, .bool wr, .int .i64 place] 109) = W at *
  go_loopw [3] (fun i wx => ∃ k : Nat, k ≤ l.length ∧ i = .int .i64 (k : Int) ∧ usedN l place l.length = usedN l place k ∧ Below W.heap.size W wx) (fun i _ => (intOf i).toNat)
  case atStart => exact ⟨_, Nat.le_refl _, rfl, rfl, Below.refl _ _⟩
  case round =>
    obtain ⟨k, hk, rfl, hu, hb⟩ := hrel
    have SS : ∀ V, Below W.heap.size W V → (V.cell? ⟨w.heap.size, 0, none⟩ = some (slV b 0 l.length c) ∧ V.cell? ⟨w.heap.size, 2, none⟩ = some (.int .i64 place) ∧ CellsAt V b l cap ∧ Below W.heap.size W V) := fun V hkk => by
      have hA2 := hA.only (F := []) (Only.of_below hkk) (by simp)
      exact ⟨hA2.cell 0, hA2.cell 2, hcW.only (F := []) (Only.of_below hkk) (by simp), hkk⟩
    obtain ⟨x0, x2, hcv, _⟩ := SS _ hb
    have j0 : IntKind.i64.wrap (place + 1) = place + 1 := IntWalk.i64_in _ ⟨by omega, by omega⟩
    by_cases hpk : place + 1 < (k : Int)
    · obtain ⟨j, rfl⟩ : ∃ j, k = j + 1 := ⟨k - 1, by omega⟩
      have j1 : IntKind.i64.wrap (((j + 1 : Nat) : Int) - 1) = (j : Int) := by rw [show ((j + 1 : Nat) : Int) - 1 = (j : Int) by omega]; exact IntWalk.i64_in _ ⟨by omega, by omega⟩
      have j2 : j < l.length := by omega
      have d1 : decide (((j + 1 : Nat) : Int) > place + 1) = true := by simpa using hpk
      obtain ⟨q, hq⟩ : ∃ q, l[j] = q := ⟨_, rfl⟩
      obtain ⟨r, wd, s1, s2, s3⟩ := q
      have d2 : place + 1 < (j : Int) + 1 := by omega
      have j3 : (0 : Int) ≤ (j : Int) := Int.natCast_nonneg _
      have j4 : (j : Int) < (l.length : Int) := by omega
      have j5 : IntKind.i64.wrap ((j : Int) + 1 - 1) = (j : Int) := by rw [show (j : Int) + 1 - 1 = (j : Int) by omega]; exact IntWalk.i64_in _ ⟨by omega, by omega⟩
      have j6 : (j : Int) + 1 - 1 = (j : Int) := by omega
      have j7 : IntKind.i64.wrap (j : Int) = (j : Int) := IntWalk.i64_in _ ⟨by omega, by omega⟩
      have hdr := hb.drew
      have hun : (r, wd, s1, s2, s3) ≠ plainCe → usedN l place (j + 1) = j + 1 := fun hne => by
        show (if _ then _ else _) = _
        rw [if_neg (fun e => hne ?_)]
        have := e.2
        rw [List.getElem?_eq_getElem j2, hq] at this
        simpa using this
      by_cases q0 : r = 32
      · subst q0
        by_cases q1 : wd = 1
        · subst q1
          by_cases q2 : s1 = (-1)
          · subst q2
            by_cases q3 : s2 = (-1)
            · subst q3
              by_cases q4 : s3 = 0
              · subst q4
                have SS2 : ∀ V, Below W.heap.size W V → (V.cell? ⟨w.heap.size, 0, none⟩ = some (slV b 0 l.length c) ∧ V.cell? ⟨w.heap.size, 2, none⟩ = some (.int .i64 place) ∧ V.cell? ⟨b, j * 5, none⟩ = some (.int .i32 32) ∧ V.cell? ⟨b, j * 5 + 1, none⟩ = some (.int .i64 1) ∧ V.cell? ⟨b, j * 5 + 2, none⟩ = some (.int .i64 (-1)) ∧ V.cell? ⟨b, j * 5 + 3, none⟩ = some (.int .i64 (-1)) ∧ V.cell? ⟨b, j * 5 + 4, none⟩ = some (.int .i64 0) ∧ Below W.heap.size W V) := fun V hkk => by
                  obtain ⟨z0, z2, zc, _⟩ := SS V hkk
                  have zz := zc.five j2
                  rw [hq] at zz
                  exact ⟨z0, z2, zz.1, zz.2.1, zz.2.2.1, zz.2.2.2.1, zz.2.2.2.2, hkk⟩
                have HQ := Lib.hid hq
                have HU := Lib.hid hu
                clear hq hu
                have hpk2 : place + 1 < (j : Int) + 1 := d2
                go_wp2_with fail
                go_region_held3 (fun V => V.cell? ⟨w.heap.size, 0, none⟩ = some (slV b 0 l.length c) ∧ V.cell? ⟨w.heap.size, 2, none⟩ = some (.int .i64 place) ∧ V.cell? ⟨b, j * 5, none⟩ = some (.int .i32 32) ∧ V.cell? ⟨b, j * 5 + 1, none⟩ = some (.int .i64 1) ∧ V.cell? ⟨b, j * 5 + 2, none⟩ = some (.int .i64 (-1)) ∧ V.cell? ⟨b, j * 5 + 3, none⟩ = some (.int .i64 (-1)) ∧ V.cell? ⟨b, j * 5 + 4, none⟩ = some (.int .i64 0) ∧ Below W.heap.size W V)
                  (first
                    | (refine SS2 _ ?_; assumption)
                    | fail)
                  (first
                    | (go_at_call 67; obtain ⟨_, _, _, _, _, _, _, k1⟩ := (by assumption : _ ∧ _ ∧ _ ∧ _ ∧ _ ∧ _ ∧ _ ∧ Below W.heap.size W _); refine (plain_any _).mono ?_; rintro _ w1 ⟨rfl, hb1⟩; have k2 := k1.trans (hb1.mono k1.size))
                    | (go_at_call 60; obtain ⟨_, _, _, _, _, _, _, k3⟩ := (by assumption : _ ∧ _ ∧ _ ∧ _ ∧ _ ∧ _ ∧ _ ∧ Below W.heap.size W _); refine (blank_any (-1) (-1) 0 _).mono ?_; rintro _ w2 ⟨rfl, hb2⟩; have k4 := k3.trans (hb2.mono k3.size)))
                all_goals go_wp2_with fail
                all_goals
                  have hk4 := k4
                  go_roundw
                  case rel => exact ⟨j, by omega, rfl, by rw [HU.out]; show (if _ then _ else _) = _; rw [if_pos ⟨hpk2, by rw [List.getElem?_eq_getElem j2, HQ.out]; rfl⟩], hk4⟩
                  case measure => simp [intOf]
              · have SS2 : ∀ V, Below W.heap.size W V → (V.cell? ⟨w.heap.size, 0, none⟩ = some (slV b 0 l.length c) ∧ V.cell? ⟨w.heap.size, 2, none⟩ = some (.int .i64 place) ∧ V.cell? ⟨b, j * 5, none⟩ = some (.int .i32 32) ∧ V.cell? ⟨b, j * 5 + 1, none⟩ = some (.int .i64 1) ∧ V.cell? ⟨b, j * 5 + 2, none⟩ = some (.int .i64 (-1)) ∧ V.cell? ⟨b, j * 5 + 3, none⟩ = some (.int .i64 (-1)) ∧ V.cell? ⟨b, j * 5 + 4, none⟩ = some (.int .i64 s3) ∧ Below W.heap.size W V) := fun V hkk => by
                  obtain ⟨z0, z2, zc, _⟩ := SS V hkk
                  have zz := zc.five j2
                  rw [hq] at zz
                  exact ⟨z0, z2, zz.1, zz.2.1, zz.2.2.1, zz.2.2.2.1, zz.2.2.2.2, hkk⟩
                have HQ := Lib.hid hq
                have HU := Lib.hid hu
                clear hq hu
                have p4 : (s3 == 0) = false := by simpa using q4
                have hne2 := Lib.hid (hun (by unfold plainCe; simp [q4]))
                go_wp2_with fail
                go_region_held3 (fun V => V.cell? ⟨w.heap.size, 0, none⟩ = some (slV b 0 l.length c) ∧ V.cell? ⟨w.heap.size, 2, none⟩ = some (.int .i64 place) ∧ V.cell? ⟨b, j * 5, none⟩ = some (.int .i32 32) ∧ V.cell? ⟨b, j * 5 + 1, none⟩ = some (.int .i64 1) ∧ V.cell? ⟨b, j * 5 + 2, none⟩ = some (.int .i64 (-1)) ∧ V.cell? ⟨b, j * 5 + 3, none⟩ = some (.int .i64 (-1)) ∧ V.cell? ⟨b, j * 5 + 4, none⟩ = some (.int .i64 s3) ∧ Below W.heap.size W V)
                  (first
                    | (refine SS2 _ ?_; assumption)
                    | fail)
                  (first
                    | (go_at_call 67; obtain ⟨_, _, _, _, _, _, _, k1⟩ := (by assumption : _ ∧ _ ∧ _ ∧ _ ∧ _ ∧ _ ∧ _ ∧ Below W.heap.size W _); refine (plain_any _).mono ?_; rintro _ w1 ⟨rfl, hb1⟩; have k2 := k1.trans (hb1.mono k1.size))
                    | (go_at_call 60; obtain ⟨_, _, _, _, _, _, _, k3⟩ := (by assumption : _ ∧ _ ∧ _ ∧ _ ∧ _ ∧ _ ∧ _ ∧ Below W.heap.size W _); refine (blank_any (-1) (-1) 0 _).mono ?_; rintro _ w2 ⟨rfl, hb2⟩; have k4 := k3.trans (hb2.mono k3.size)))
                all_goals go_wp2_with fail
                all_goals
                  rw [HU.out]
                  go_ret
                  exact ⟨by rw [hne2.out]; rfl, hb0.trans (k4.mono hb0.size)⟩
            · have SS2 : ∀ V, Below W.heap.size W V → (V.cell? ⟨w.heap.size, 0, none⟩ = some (slV b 0 l.length c) ∧ V.cell? ⟨w.heap.size, 2, none⟩ = some (.int .i64 place) ∧ V.cell? ⟨b, j * 5, none⟩ = some (.int .i32 32) ∧ V.cell? ⟨b, j * 5 + 1, none⟩ = some (.int .i64 1) ∧ V.cell? ⟨b, j * 5 + 2, none⟩ = some (.int .i64 (-1)) ∧ V.cell? ⟨b, j * 5 + 3, none⟩ = some (.int .i64 s2) ∧ V.cell? ⟨b, j * 5 + 4, none⟩ = some (.int .i64 s3) ∧ Below W.heap.size W V) := fun V hkk => by
                obtain ⟨z0, z2, zc, _⟩ := SS V hkk
                have zz := zc.five j2
                rw [hq] at zz
                exact ⟨z0, z2, zz.1, zz.2.1, zz.2.2.1, zz.2.2.2.1, zz.2.2.2.2, hkk⟩
              have HQ := Lib.hid hq
              have HU := Lib.hid hu
              clear hq hu
              have p3 : (s2 == (-1)) = false := by simpa using q3
              have hne2 := Lib.hid (hun (by unfold plainCe; simp [q3]))
              go_wp2_with fail
              go_region_held3 (fun V => V.cell? ⟨w.heap.size, 0, none⟩ = some (slV b 0 l.length c) ∧ V.cell? ⟨w.heap.size, 2, none⟩ = some (.int .i64 place) ∧ V.cell? ⟨b, j * 5, none⟩ = some (.int .i32 32) ∧ V.cell? ⟨b, j * 5 + 1, none⟩ = some (.int .i64 1) ∧ V.cell? ⟨b, j * 5 + 2, none⟩ = some (.int .i64 (-1)) ∧ V.cell? ⟨b, j * 5 + 3, none⟩ = some (.int .i64 s2) ∧ V.cell? ⟨b, j * 5 + 4, none⟩ = some (.int .i64 s3) ∧ Below W.heap.size W V)
                (first
                  | (refine SS2 _ ?_; assumption)
                  | fail)
                (first
                  | (go_at_call 67; obtain ⟨_, _, _, _, _, _, _, k1⟩ := (by assumption : _ ∧ _ ∧ _ ∧ _ ∧ _ ∧ _ ∧ _ ∧ Below W.heap.size W _); refine (plain_any _).mono ?_; rintro _ w1 ⟨rfl, hb1⟩; have k2 := k1.trans (hb1.mono k1.size))
                  | (go_at_call 60; obtain ⟨_, _, _, _, _, _, _, k3⟩ := (by assumption : _ ∧ _ ∧ _ ∧ _ ∧ _ ∧ _ ∧ _ ∧ Below W.heap.size W _); refine (blank_any (-1) (-1) 0 _).mono ?_; rintro _ w2 ⟨rfl, hb2⟩; have k4 := k3.trans (hb2.mono k3.size)))
              all_goals go_wp2_with fail
              all_goals
                rw [HU.out]
                go_ret
                exact ⟨by rw [hne2.out]; rfl, hb0.trans (k4.mono hb0.size)⟩
          · have SS2 : ∀ V, Below W.heap.size W V → (V.cell? ⟨w.heap.size, 0, none⟩ = some (slV b 0 l.length c) ∧ V.cell? ⟨w.heap.size, 2, none⟩ = some (.int .i64 place) ∧ V.cell? ⟨b, j * 5, none⟩ = some (.int .i32 32) ∧ V.cell? ⟨b, j * 5 + 1, none⟩ = some (.int .i64 1) ∧ V.cell? ⟨b, j * 5 + 2, none⟩ = some (.int .i64 s1) ∧ V.cell? ⟨b, j * 5 + 3, none⟩ = some (.int .i64 s2) ∧ V.cell? ⟨b, j * 5 + 4, none⟩ = some (.int .i64 s3) ∧ Below W.heap.size W V) := fun V hkk => by
              obtain ⟨z0, z2, zc, _⟩ := SS V hkk
              have zz := zc.five j2
              rw [hq] at zz
              exact ⟨z0, z2, zz.1, zz.2.1, zz.2.2.1, zz.2.2.2.1, zz.2.2.2.2, hkk⟩
            have HQ := Lib.hid hq
            have HU := Lib.hid hu
            clear hq hu
            have p2 : (s1 == (-1)) = false := by simpa using q2
            have hne2 := Lib.hid (hun (by unfold plainCe; simp [q2]))
            go_wp2_with fail
            go_region_held3 (fun V => V.cell? ⟨w.heap.size, 0, none⟩ = some (slV b 0 l.length c) ∧ V.cell? ⟨w.heap.size, 2, none⟩ = some (.int .i64 place) ∧ V.cell? ⟨b, j * 5, none⟩ = some (.int .i32 32) ∧ V.cell? ⟨b, j * 5 + 1, none⟩ = some (.int .i64 1) ∧ V.cell? ⟨b, j * 5 + 2, none⟩ = some (.int .i64 s1) ∧ V.cell? ⟨b, j * 5 + 3, none⟩ = some (.int .i64 s2) ∧ V.cell? ⟨b, j * 5 + 4, none⟩ = some (.int .i64 s3) ∧ Below W.heap.size W V)
              (first
                | (refine SS2 _ ?_; assumption)
                | fail)
              (first
                | (go_at_call 67; obtain ⟨_, _, _, _, _, _, _, k1⟩ := (by assumption : _ ∧ _ ∧ _ ∧ _ ∧ _ ∧ _ ∧ _ ∧ Below W.heap.size W _); refine (plain_any _).mono ?_; rintro _ w1 ⟨rfl, hb1⟩; have k2 := k1.trans (hb1.mono k1.size))
                | (go_at_call 60; obtain ⟨_, _, _, _, _, _, _, k3⟩ := (by assumption : _ ∧ _ ∧ _ ∧ _ ∧ _ ∧ _ ∧ _ ∧ Below W.heap.size W _); refine (blank_any (-1) (-1) 0 _).mono ?_; rintro _ w2 ⟨rfl, hb2⟩; have k4 := k3.trans (hb2.mono k3.size)))
            all_goals go_wp2_with fail
            all_goals
              rw [HU.out]
              go_ret
              exact ⟨by rw [hne2.out]; rfl, hb0.trans (k4.mono hb0.size)⟩
        · have SS2 : ∀ V, Below W.heap.size W V → (V.cell? ⟨w.heap.size, 0, none⟩ = some (slV b 0 l.length c) ∧ V.cell? ⟨w.heap.size, 2, none⟩ = some (.int .i64 place) ∧ V.cell? ⟨b, j * 5, none⟩ = some (.int .i32 32) ∧ V.cell? ⟨b, j * 5 + 1, none⟩ = some (.int .i64 wd) ∧ V.cell? ⟨b, j * 5 + 2, none⟩ = some (.int .i64 s1) ∧ V.cell? ⟨b, j * 5 + 3, none⟩ = some (.int .i64 s2) ∧ V.cell? ⟨b, j * 5 + 4, none⟩ = some (.int .i64 s3) ∧ Below W.heap.size W V) := fun V hkk => by
            obtain ⟨z0, z2, zc, _⟩ := SS V hkk
            have zz := zc.five j2
            rw [hq] at zz
            exact ⟨z0, z2, zz.1, zz.2.1, zz.2.2.1, zz.2.2.2.1, zz.2.2.2.2, hkk⟩
          have HQ := Lib.hid hq
          have HU := Lib.hid hu
          clear hq hu
          have p1 : (wd == 1) = false := by simpa using q1
          have hne2 := Lib.hid (hun (by unfold plainCe; simp [q1]))
          go_wp2_with fail
          go_region_held3 (fun V => V.cell? ⟨w.heap.size, 0, none⟩ = some (slV b 0 l.length c) ∧ V.cell? ⟨w.heap.size, 2, none⟩ = some (.int .i64 place) ∧ V.cell? ⟨b, j * 5, none⟩ = some (.int .i32 32) ∧ V.cell? ⟨b, j * 5 + 1, none⟩ = some (.int .i64 wd) ∧ V.cell? ⟨b, j * 5 + 2, none⟩ = some (.int .i64 s1) ∧ V.cell? ⟨b, j * 5 + 3, none⟩ = some (.int .i64 s2) ∧ V.cell? ⟨b, j * 5 + 4, none⟩ = some (.int .i64 s3) ∧ Below W.heap.size W V)
            (first
              | (refine SS2 _ ?_; assumption)
              | fail)
            (first
              | (go_at_call 67; obtain ⟨_, _, _, _, _, _, _, k1⟩ := (by assumption : _ ∧ _ ∧ _ ∧ _ ∧ _ ∧ _ ∧ _ ∧ Below W.heap.size W _); refine (plain_any _).mono ?_; rintro _ w1 ⟨rfl, hb1⟩; have k2 := k1.trans (hb1.mono k1.size))
              | (go_at_call 60; obtain ⟨_, _, _, _, _, _, _, k3⟩ := (by assumption : _ ∧ _ ∧ _ ∧ _ ∧ _ ∧ _ ∧ _ ∧ Below W.heap.size W _); refine (blank_any (-1) (-1) 0 _).mono ?_; rintro _ w2 ⟨rfl, hb2⟩; have k4 := k3.trans (hb2.mono k3.size)))
          all_goals go_wp2_with fail
          all_goals
            rw [HU.out]
            go_ret
            exact ⟨by rw [hne2.out]; rfl, hb0.trans (k4.mono hb0.size)⟩
      · have SS2 : ∀ V, Below W.heap.size W V → (V.cell? ⟨w.heap.size, 0, none⟩ = some (slV b 0 l.length c) ∧ V.cell? ⟨w.heap.size, 2, none⟩ = some (.int .i64 place) ∧ V.cell? ⟨b, j * 5, none⟩ = some (.int .i32 r) ∧ V.cell? ⟨b, j * 5 + 1, none⟩ = some (.int .i64 wd) ∧ V.cell? ⟨b, j * 5 + 2, none⟩ = some (.int .i64 s1) ∧ V.cell? ⟨b, j * 5 + 3, none⟩ = some (.int .i64 s2) ∧ V.cell? ⟨b, j * 5 + 4, none⟩ = some (.int .i64 s3) ∧ Below W.heap.size W V) := fun V hkk => by
          obtain ⟨z0, z2, zc, _⟩ := SS V hkk
          have zz := zc.five j2
          rw [hq] at zz
          exact ⟨z0, z2, zz.1, zz.2.1, zz.2.2.1, zz.2.2.2.1, zz.2.2.2.2, hkk⟩
        have HQ := Lib.hid hq
        have HU := Lib.hid hu
        clear hq hu
        have p0 : (r == 32) = false := by simpa using q0
        have hne2 := Lib.hid (hun (by unfold plainCe; simp [q0]))
        go_wp2_with fail
        go_region_held3 (fun V => V.cell? ⟨w.heap.size, 0, none⟩ = some (slV b 0 l.length c) ∧ V.cell? ⟨w.heap.size, 2, none⟩ = some (.int .i64 place) ∧ V.cell? ⟨b, j * 5, none⟩ = some (.int .i32 r) ∧ V.cell? ⟨b, j * 5 + 1, none⟩ = some (.int .i64 wd) ∧ V.cell? ⟨b, j * 5 + 2, none⟩ = some (.int .i64 s1) ∧ V.cell? ⟨b, j * 5 + 3, none⟩ = some (.int .i64 s2) ∧ V.cell? ⟨b, j * 5 + 4, none⟩ = some (.int .i64 s3) ∧ Below W.heap.size W V)
          (first
            | (refine SS2 _ ?_; assumption)
            | fail)
          (first
            | (go_at_call 67; obtain ⟨_, _, _, _, _, _, _, k1⟩ := (by assumption : _ ∧ _ ∧ _ ∧ _ ∧ _ ∧ _ ∧ _ ∧ Below W.heap.size W _); refine (plain_any _).mono ?_; rintro _ w1 ⟨rfl, hb1⟩; have k2 := k1.trans (hb1.mono k1.size))
            | (go_at_call 60; obtain ⟨_, _, _, _, _, _, _, k3⟩ := (by assumption : _ ∧ _ ∧ _ ∧ _ ∧ _ ∧ _ ∧ _ ∧ Below W.heap.size W _); refine (blank_any (-1) (-1) 0 _).mono ?_; rintro _ w2 ⟨rfl, hb2⟩; have k4 := k3.trans (hb2.mono k3.size)))
        all_goals go_wp2_with fail
        all_goals
          rw [HU.out]
          go_ret
          exact ⟨by rw [hne2.out]; rfl, hb0.trans (k4.mono hb0.size)⟩
    · have hk0 : usedN l place k = k := by
        cases k with
        | zero => rfl
        | succ k => unfold usedN; rw [if_neg (fun e => hpk (by have := e.1; omega))]
      have d1 : decide ((k : Int) > place + 1) = false := by simpa using hpk
      have d2 : decide (place + 1 < (k : Int)) = false := by simpa using hpk
      rw [hk0] at hu
      go_wp2_with fail
      go_region
      all_goals go_wp2_with fail
      all_goals
        rw [hu]
        go_ret
        exact ⟨rfl, hb0.trans (hb.drew.mono hb0.size)⟩
end Go.Proofs.YtgjlohplgpcghaaDoor.Grd
/- A line laid. -/
namespace Go.Proofs.YtgjlohplgpcghaaDoor.Grd
open Go.RowKit

theorem usedN_le (l : List Ce) (place : Int) : ∀ n, usedN l place n ≤ n
  | 0 => Nat.le_refl _
  | n + 1 => by
    show (if _ then _ else _) ≤ _
    split
    · exact Nat.le_trans (usedN_le l place n) (Nat.le_succ n)
    · exact Nat.le_refl _
/-- A line's cell, and where the place is. -/
def stepF (place : Int) (P : PF) (i : Nat) (c : Ce) : PF := if (i : Int) = place then { onF P c with px := ((onF P c).next : Int) - 1, py := ((onF P c).rows.length : Int) - 1 } else onF P c
/-- The first n cells of a line. -/
def cellsF (place : Int) (l : List Ce) (P : PF) : Nat → PF
  | 0 => P
  | n + 1 => stepF place (cellsF place l P n) n (l.getD n default)
def layF (P : PF) (l : List Ce) (wr : Bool) (place : Int) : PF :=
  let Q := cellsF place l (beginF P) (usedN l place l.length)
  { Q with rows := setLast Q.rows fun r => (r.1, wr) }

theorem FlowIn.part {w : World} {f : Nat} {F : List Nat} {P : PF} (h : FlowIn w f F P) (h0 : P.rows ≠ []) :
    ∃ cols R m next px py p off c, FlowAt w f (slV p (2 * off) (R.length + 1) c) [p] ⟨cols, R ++ [m], next, px, py⟩ ∧ P = ⟨cols, R.map MR.pl ++ [m.pl], next, px, py⟩ ∧ F = footF f [p] ⟨cols, R ++ [m], next, px, py⟩ ∧
      w.cell? ⟨p, 2 * (off + R.length) + 1, none⟩ = some (.bool m.wr) ∧ w.frozen? ⟨p, 2 * (off + R.length) + 1, none⟩ = false := by
  obtain ⟨tv, ft, ⟨cols, rows, next, px, py⟩, h1, rfl, rfl⟩ := h
  obtain ⟨R, m, rfl⟩ : ∃ R m, rows = R ++ [m] := by
    have hne : rows ≠ [] := by intro e; subst e; exact h0 rfl
    exact ⟨rows.dropLast, rows.getLast hne, (List.dropLast_concat_getLast hne).symm⟩
  obtain ⟨p, off, c, pre, tail, rfl, rfl, h2, h3, h4, h5, h6⟩ := tab_open h1.tab
  obtain ⟨_, l1, l2⟩ := tab_last h4 h6
  exact ⟨cols, R, m, next, px, py, p, off, c, h1, by simp [FL.pl], rfl, l1, l2⟩
theorem FlowAt.mark_cells {w : World} {f p off c : Nat} {cols next : Nat} {px py : Int} {R : List MR} {m : MR} (h : FlowAt w f (slV p (2 * off) (R.length + 1) c) [p] ⟨cols, R ++ [m], next, px, py⟩) :
    w.cell? ⟨p, 2 * (off + R.length) + 1, none⟩ = some (.bool m.wr) ∧ w.frozen? ⟨p, 2 * (off + R.length) + 1, none⟩ = false := by
  obtain ⟨p2, off2, c2, pre, tail, e1, e2, h2, h3, h4, h5, h6⟩ := tab_open h.tab
  obtain rfl : p = p2 := by simpa using e2
  have e3 : off = off2 ∧ c = c2 := by simp only [slV, Value.slice.injEq, Option.some.injEq, Addr.mk.injEq] at e1; omega
  obtain ⟨rfl, rfl⟩ := e3
  obtain ⟨_, l1, l2⟩ := tab_last h4 h6
  exact ⟨l1, l2⟩
theorem FlowIn.set_place {w : World} {f : Nat} {F : List Nat} {P : PF} (h : FlowIn w f F P) (x y : Int) : FlowIn ((w.setCell ⟨f, 3, none⟩ (.int .i64 x)).setCell ⟨f, 4, none⟩ (.int .i64 y)) f F { P with px := x, py := y } ∧ Only [f] w ((w.setCell ⟨f, 3, none⟩ (.int .i64 x)).setCell ⟨f, 4, none⟩ (.int .i64 y)) := by
  obtain ⟨tv, ft, L, h1, rfl, rfl⟩ := h
  have ho : Only [f] w ((w.setCell ⟨f, 3, none⟩ (.int .i64 x)).setCell ⟨f, 4, none⟩ (.int .i64 y)) := ((Only.refl _ _).setCell (p := ⟨f, 3, none⟩) (.inl (by simp)) _).setCell (p := ⟨f, 4, none⟩) (.inl (by simp)) _
  exact ⟨⟨tv, ft, { L with px := x, py := y }, ⟨(h1.blk.set_ 3 _).set_ 4 _, h1.tab.only ho (fun x hx => by simp only [List.mem_singleton]; rintro rfl; exact h1.apart hx), h1.held.only ho (fun x hx => by simpa using (h1.far x hx).1), h1.apart, h1.far, h1.cells, h1.c1, h1.c2, h1.n2, h1.r2⟩, rfl, rfl⟩, ho⟩
theorem onF_rows (P : PF) (c : Ce) : (onF P c).rows.length ≤ P.rows.length + 2 ∧ (P.rows ≠ [] → (onF P c).rows ≠ []) := by
  unfold onF
  split
  · exact ⟨by omega, id⟩
  · split
    · exact ⟨by have := (putF_rows P (32, 1, c.2.2)).1; omega, (putF_rows P _).2⟩
    · split
      · exact ⟨by have := (putF_rows P plainCe).1; have := (putF_rows (putF P plainCe) c).1; omega, fun h => (putF_rows _ _).2 ((putF_rows P _).2 h)⟩
      · exact ⟨by have := (putF_rows P c).1; omega, (putF_rows P _).2⟩
theorem cellsF_rows (place : Int) (l : List Ce) (P : PF) : ∀ n, (cellsF place l P n).rows.length ≤ P.rows.length + 2 * n ∧ (P.rows ≠ [] → (cellsF place l P n).rows ≠ [])
  | 0 => ⟨by simp [cellsF], id⟩
  | n + 1 => by
    have ih := cellsF_rows place l P n
    have h1 := onF_rows (cellsF place l P n) (l.getD n default)
    have h2 : (cellsF place l P (n + 1)).rows = (onF (cellsF place l P n) (l.getD n default)).rows := by
      show (stepF _ _ _ _).rows = _
      unfold stepF
      split <;> rfl
    rw [h2]
    exact ⟨by omega, fun h => h1.2 (ih.2 h)⟩

set_option maxRecDepth 100000 in
set_option maxHeartbeats 1000000 in
theorem lay_in {w : World} {f : Nat} {F : List Nat} {P : PF} (h : FlowIn w f F P) {b cap : Nat} {l : List Ce} (hb : CellsAt w b l cap) (hbF : b ∉ F) (c : Nat) (hc : l.length ≤ c) (hl : l.length ≤ 400000) (hr : P.rows.length + 2 * l.length + 3 ≤ 900000) (wb : Bool) (place : Int) (hp0 : -1 ≤ place) (hp1 : place ≤ 1000000) :
    Calls Tryd.prog 63 #[.pointer (some ⟨f, 0, none⟩), .agg #[slV b 0 l.length c, .bool wb, .int .i64 place]] w fun e w' => e = .returned (.tuple #[]) ∧ ∃ F', FlowIn w' f F' (layF P l wb place) ∧ Went F F' w w' := by
  have hA := BL.new w 109 [slV b 0 l.length c, .bool wb, .int .i64 place]
  have ho0 : Only [] w (w.alloc (.cells #[slV b 0 l.length c, .bool wb, .int .i64 place] 109)) := (Only.refl _ _).alloc _
  have hI := h.only ho0 (by simp)
  have hcW := hb.only ho0 (by simp)
  have hz : (w.alloc (.cells #[slV b 0 l.length c, .bool wb, .int .i64 place] 109)).heap.size = w.heap.size + 1 := by rw [size_alloc]
  have hlt := h.lt
  have hbl := hb.lt
  have hul := usedN_le l place l.length
  have huc : usedN l place l.length ≤ c := by omega
  have HO := Lib.hid ho0
  go_enter Tryd.func63, Tryd.ntmps63
  go_wp2_with (first
    | (go_at_call 77; refine (begin_in hI (by omega)).mono ?_; rintro _ w1 ⟨rfl, F1, hF1, hw1⟩; have hA1 := hA.only hw1.only (fun x => by have := hlt _ x; omega); have hc1 := hcW.only hw1.only hbF; have y0 : w1.cell? ⟨w.heap.size, 0, none⟩ = some (slV b 0 l.length c) := hA1.cell 0; have y1 : w1.cell? ⟨w.heap.size, 1, none⟩ = some (.bool wb) := hA1.cell 1; have y2 : w1.cell? ⟨w.heap.size, 2, none⟩ = some (.int .i64 place) := hA1.cell 2)
    | (go_at_call 78; refine (used_any hc1 c (by omega) wb place hp0 hp1).mono ?_; rintro _ w2 ⟨rfl, hb2⟩; have hA2 := hA1.only (F := []) (Only.of_below hb2) (by simp); have hc2 := hc1.only (F := []) (Only.of_below hb2) (by simp); have hF2 := hF1.below hb2))
  have SS : ∀ V, Below w1.heap.size w1 V → (V.cell? ⟨w.heap.size, 0, none⟩ = some (slV b 0 l.length c) ∧ V.cell? ⟨w.heap.size, 1, none⟩ = some (.bool wb) ∧ V.cell? ⟨w.heap.size, 2, none⟩ = some (.int .i64 place) ∧ Below w1.heap.size w1 V) := fun V hkk => by
    have hA2 := hA1.only (F := []) (Only.of_below hkk) (by simp)
    exact ⟨hA2.cell 0, hA2.cell 1, hA2.cell 2, hkk⟩
  have hus := fun V hV => used_any (w := V) (b := b) (cap := cap) (l := l) hV c (by omega) wb place hp0 hp1
  have HLAY : Hid (∀ u, usedN l place l.length = u → layF P l wb place = { cellsF place l (beginF P) u with rows := setLast (cellsF place l (beginF P) u).rows fun r => (r.1, wb) }) := fun u hu => by subst hu; rfl
  obtain ⟨u, hu⟩ : ∃ u, usedN l place l.length = u := ⟨_, rfl⟩
  rw [hu] at hul huc hus
  have HL := Lib.hid (HLAY.out u hu)
  clear HLAY hu
  have i1 : (0 : Int) ≤ (u : Int) := Int.natCast_nonneg _
  have i2 : (u : Int) ≤ (c : Int) := by omega
  have i3 : (u : Int) ≤ (l.length : Int) := by omega
  have hdr : Below w1.heap.size w1 w1.drew := (Below.refl _ _).drew
  go_region_held3 (fun V => V.cell? ⟨w.heap.size, 0, none⟩ = some (slV b 0 l.length c) ∧ V.cell? ⟨w.heap.size, 1, none⟩ = some (.bool wb) ∧ V.cell? ⟨w.heap.size, 2, none⟩ = some (.int .i64 place) ∧ Below w1.heap.size w1 V)
    (first
      | (refine SS _ ?_; assumption)
      | fail)
    (first
      | (go_at_call 78; obtain ⟨_, _, _, k1⟩ := (by assumption : _ ∧ _ ∧ _ ∧ Below w1.heap.size w1 _); refine (hus _ (hc1.only (F := []) (Only.of_below k1) (by simp))).mono ?_; rintro _ w2 ⟨rfl, hb2⟩; have k2 := k1.trans (hb2.mono k1.size)))
  all_goals go_wp2_with fail
  have hF2 := hF1.below k2
  have hA2 := hA1.only (F := []) (Only.of_below k2) (by simp)
  have hc2 := hc1.only (F := []) (Only.of_below k2) (by simp)
  have hw2 := hw1.trans (⟨fun x hx => .inl hx, Only.of_below k2⟩ : Went F1 F1 w1 w2)
  generalize w.alloc (.cells #[slV b 0 l.length c, .bool wb, .int .i64 place] 109) = W at *
  clear SS hus hc1 hA1 y0 y1 y2 hF1
  go_loopw [4, 5, 14] (fun _ _ i wx => ∃ n F2, n ≤ u ∧ i = .int .i64 (n : Int) ∧ FlowIn wx f F2 (cellsF place l (beginF P) n) ∧ Went F F2 W wx ∧ BL wx w.heap.size 109 [slV b 0 l.length c, .bool wb, .int .i64 place] ∧ CellsAt wx b l cap) (fun _ _ i _ => u - (intOf i).toNat)
  case atStart => exact ⟨0, F1, Nat.zero_le _, rfl, hF2, hw2, hA2, hc2⟩
  case round =>
    obtain ⟨n, F2, hn, rfl, hF, hwt, hAx, hcx⟩ := hrel
    clear hF2 hA2 hc2 hw2
    have hFl := hF.lt
    by_cases hlt2 : n < u
    · have hnl : n < l.length := by omega
      obtain ⟨e0, e1, e2, e3, e4⟩ := hcx.five hnl
      have hce : l[n] = l.getD n default := by simp [hnl]
      obtain ⟨q, hq⟩ : ∃ q, l[n] = q := ⟨_, rfl⟩
      obtain ⟨r, wd, s1, s2, s3⟩ := q
      rw [hq] at e0 e1 e2 e3 e4
      simp only at e0 e1 e2 e3 e4
      have hne : (cellsF place l (beginF P) n).rows ≠ [] := (cellsF_rows place l (beginF P) n).2 (by simp [beginF])
      have hrb : (cellsF place l (beginF P) n).rows.length + 2 ≤ 900000 := by
        have h1 := (cellsF_rows place l (beginF P) n).1
        have h2 : (beginF P).rows.length = P.rows.length + 1 := by simp [beginF]
        omega
      have hAF : w.heap.size ∉ F2 := fun x => by
        rcases hwt.foot _ x with y | y
        · have := hlt _ y; omega
        · omega
      have hbF2 : b ∉ F2 := fun x => by
        rcases hwt.foot _ x with y | y
        · exact hbF y
        · omega
      have hfF := hF.mem
      have hcs : cellsF place l (beginF P) (n + 1) = stepF place (cellsF place l (beginF P) n) n (r, wd, s1, s2, s3) := by
        show stepF _ _ _ _ = _
        rw [← hce, hq]
      have j1 : IntKind.i64.wrap ((n : Int) + 1) = (n : Int) + 1 := IntWalk.i64_in _ ⟨by omega, by omega⟩
      have j3 : (0 : Int) ≤ (n : Int) := Int.natCast_nonneg _
      have j4 : (n : Int) < (u : Int) := by omega
      have ho1 : Only [] wr (wr.alloc (.cells #[.int .i32 r, .int .i64 wd, .int .i64 s1, .int .i64 s2, .int .i64 s3] 35)) := (Only.refl _ _).alloc _
      have hFa := hF.only ho1 (by simp)
      have HA := Lib.hid (hAx.only ho1 (by simp))
      have HC := Lib.hid (hcx.only ho1 (by simp))
      have hwa : Went F F2 W _ := hwt.trans (⟨fun x hx => .inl hx, ho1.mono (by simp)⟩ : Went F2 F2 wr _)
      have hfA : w.heap.size ≠ f := fun e => hAF (e ▸ hfF)
      have hfb : b ≠ f := fun e => hbF2 (e ▸ hfF)
      generalize hPF : cellsF place l (beginF P) n = Q at *
      clear hce hq hcx hAx hF hwt ho1 HL
      by_cases hpl : (n : Int) = place
      · have HS : Hid (stepF place Q n (r, wd, s1, s2, s3) = { onF Q (r, wd, s1, s2, s3) with px := ((onF Q (r, wd, s1, s2, s3)).next : Int) - 1, py := ((onF Q (r, wd, s1, s2, s3)).rows.length : Int) - 1 }) := by show _ = _; unfold stepF; rw [if_pos hpl]
        have HC2 := Lib.hid hcs
        clear hcs
        subst hpl
        have hne3 : (onF Q (r, wd, s1, s2, s3)).rows ≠ [] := (onF_rows Q _).2 hne
        go_wp2_with (go_at_call 79; refine (flowOn_in hFa hne hrb r wd s1 s2 s3).mono ?_; rintro _ w3 ⟨rfl, F3, hF3, hw3⟩; have hA3 := HA.out.only hw3.only hAF; have hc3 := HC.out.only hw3.only hbF2; have z2 : w3.cell? ⟨w.heap.size, 2, none⟩ = some (.int .i64 (n : Int)) := hA3.cell 2)
        obtain ⟨cols, R, m, next, px, py, p, off, c9, hFA, hQ, _, _, _⟩ := hF3.part hne3
        have v1 : w3.cell? ⟨f, 1, none⟩ = some (slV p (2 * off) (R.length + 1) c9) := hFA.blk.cell 1
        have v2 : w3.cell? ⟨f, 2, none⟩ = some (.int .i64 (next : Int)) := hFA.blk.cell 2
        have v3 : w3.cell? ⟨f, 3, none⟩ = some (.int .i64 px) := hFA.blk.cell 3
        have v4 : w3.cell? ⟨f, 4, none⟩ = some (.int .i64 py) := hFA.blk.cell 4
        have v5 : w3.frozen? ⟨f, 3, none⟩ = false := hFA.blk.frozen 3
        have v6 : w3.frozen? ⟨f, 4, none⟩ = false := hFA.blk.frozen 4
        have hn2 := hFA.n2
        have hc9 := hFA.c2
        have hr9 := hFA.r2
        simp only [List.length_append, List.length_singleton] at hn2 hc9 hr9
        have j5 : IntKind.i64.wrap ((R.length : Int) + 1 - 1) = (R.length : Int) := by rw [show (R.length : Int) + 1 - 1 = (R.length : Int) by omega]; exact IntWalk.i64_in _ ⟨by omega, by omega⟩
        have j6 : IntKind.i64.wrap (R.length : Int) = (R.length : Int) := IntWalk.i64_in _ ⟨by omega, by omega⟩
        have j7 : IntKind.i64.wrap ((next : Int) - 1) = (next : Int) - 1 := IntWalk.i64_in _ ⟨by omega, by omega⟩
        have j8 : (((R.map MR.pl ++ [m.pl]).length : Nat) : Int) - 1 = (R.length : Int) := by simp
        rw [hQ] at HS
        simp only [j8] at HS
        have hF4 := (hF3.only (w' := w3.drew) (G := []) ((Only.refl _ _).drew) (by simp)).set_place ((next : Int) - 1) (R.length : Int)
        rw [hQ] at hF4
        have HF4 := Lib.hid hF4
        clear hF4 hF3 hFA hQ j8
        go_region
        all_goals go_wp2_with fail
        all_goals
          have hf4 := HF4.out
          have hfF3 := hf4.1.mem
          go_roundw
          case rel => exact ⟨n + 1, F3, by omega, rfl, by rw [HC2.out, HS.out]; exact hf4.1, (hwa.trans hw3).trans ⟨fun x hx => .inl hx, ((Only.refl _ _).drew).trans (hf4.2.mono (by simp [hfF3]))⟩, (hA3.only (F := []) ((Only.refl _ _).drew) (by simp)).only hf4.2 (by simpa using hfA), (hc3.only (F := []) ((Only.refl _ _).drew) (by simp)).only hf4.2 (by simpa using hfb)⟩
          case measure => simp [intOf]; omega
      · have p1 : ((n : Int) == place) = false := by simpa using hpl
        have hst : stepF place Q n (r, wd, s1, s2, s3) = onF Q (r, wd, s1, s2, s3) := by unfold stepF; rw [if_neg hpl]
        rw [hst] at hcs
        have HS := Lib.hid hcs
        clear hst hcs
        go_wp2_with (go_at_call 79; refine (flowOn_in hFa hne hrb r wd s1 s2 s3).mono ?_; rintro _ w3 ⟨rfl, F3, hF3, hw3⟩; have hA3 := HA.out.only hw3.only hAF; have hc3 := HC.out.only hw3.only hbF2; have z2 : w3.cell? ⟨w.heap.size, 2, none⟩ = some (.int .i64 place) := hA3.cell 2)
        go_roundw
        case rel => exact ⟨n + 1, F3, by omega, rfl, by rw [HS.out]; exact hF3, hwa.trans hw3, hA3, hc3⟩
        case measure => simp [intOf]; omega
    · obtain rfl : n = u := by omega
      have hne : (cellsF place l (beginF P) n).rows ≠ [] := (cellsF_rows place l (beginF P) n).2 (by simp [beginF])
      obtain ⟨cols, R, m, next, px, py, p, off, c9, hFA, hQ, rfl, l1, l2⟩ := hF.part hne
      rw [hQ] at HL
      have hr9 := hFA.r2
      have hR9 : R.length ≤ 900000 := by simp at hr9; omega
      have la := fun V hV => last_any (w := V) (f := f) (p := p) (off := off) (c := c9) (n := R.length) (L := ⟨cols, R ++ [m], next, px, py⟩) hV hR9
      have y1 : wr.cell? ⟨w.heap.size, 1, none⟩ = some (.bool wb) := hAx.cell 1
      have HFIN : Hid (∀ V, Only [] wr V → FlowIn (V.setCell ⟨p, 2 * (off + R.length) + 1, none⟩ (.bool wb)) f (footF f [p] ⟨cols, R ++ [m], next, px, py⟩) (layF P l wb place) ∧ Went F (footF f [p] ⟨cols, R ++ [m], next, px, py⟩) w (V.setCell ⟨p, 2 * (off + R.length) + 1, none⟩ (.bool wb))) := fun V hV => by
        have k1 := (hFA.only hV (by simp) (by simp) (by simp)).turn_mark wb
        have k2 : Went (footF f [p] ⟨cols, R ++ [m], next, px, py⟩) (footF f [p] ⟨cols, R ++ [m], next, px, py⟩) wr (V.setCell ⟨p, 2 * (off + R.length) + 1, none⟩ (.bool wb)) := ⟨fun x hx => .inl hx, (hV.mono (by simp)).setCell (.inl (by simp [footF])) _⟩
        refine ⟨⟨_, _, _, k1, ?_, by simp [footF]⟩, (hwt.trans k2).after (HO.out.mono (by simp))⟩
        rw [HL.out, setLast_snoc]
        simp [FL.pl, MR.pl]
      have hfb := hFA.blk
      have hdr2 : Below wr.heap.size wr wr.drew := (Below.refl _ _).drew
      have hHF := Lib.hid hFA
      clear l1 l2 hwt HL hQ
      go_wp2_with fail
      go_region_law
        (first
          | (go_simp; go_at_call 80; refine (la wr.drew hfb).mono ?_; rintro _ w3 ⟨rfl, hb3⟩; have hb4 := hdr2.trans hb3; have hA3 := hAx.only (F := []) (Only.of_below hb4) (by simp); have z1 : w3.cell? ⟨w.heap.size, 1, none⟩ = some (.bool wb) := hA3.cell 1; obtain ⟨l1, l2⟩ := (hHF.out.only (Only.of_below (F := []) hb4) (by simp) (by simp) (by simp)).mark_cells))
      all_goals go_wp2_with fail
      all_goals
        have hk := HFIN.out w3 (Only.of_below hb4)
        exact body_end rfl rfl ⟨rfl, _, hk.1, hk.2⟩
end Go.Proofs.YtgjlohplgpcghaaDoor.Grd
