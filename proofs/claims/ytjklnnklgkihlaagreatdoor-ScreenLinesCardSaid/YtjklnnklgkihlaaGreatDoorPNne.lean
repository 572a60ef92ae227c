/- screen.New. -/
import Derived.Test.YtjklnnklgkihlaaGreatDoorPNnw
namespace Go.Proofs.YtjklnnklgkihlaaGreatDoor.Scr
open Go.RowKit Cel Sty Grd

/-- What a new screen brings with it: its parser and its tab stops, apart from the grid's blocks. -/
structure NewS (w w' : World) (sb g : Nat) (F : List Nat) (c lim r pb db tb : Nat) : Prop where
  scr : SG w' sb g F c lim [] (List.replicate r (plainR c)) (ptrV pb) (.slice (some ⟨tb, 0, none⟩) c c) (newP r)
  par : ∃ B, w.heap.size ≤ B ∧ (∀ x ∈ F, x < B) ∧ Vt.PAt w' B pb db Vt.nilV Vt.nilV Vt.ps0
  tab : BL w' tb 4 (boolsV (tabsL c))
  far : ∀ x ∈ F, x ≠ pb ∧ x ≠ db ∧ x ≠ tb
  new : w.heap.size ≤ sb ∧ w.heap.size ≤ pb ∧ w.heap.size ≤ db ∧ w.heap.size ≤ tb ∧ (∀ x ∈ F, w.heap.size ≤ x)
  own : pb ≠ tb ∧ db ≠ tb ∧ sb ≠ pb ∧ sb ≠ db ∧ sb ≠ tb
  bel : Below w.heap.size w w'
set_option maxRecDepth 100000 in
set_option maxHeartbeats 2000000 in
theorem new_screen (c r h : Nat) (hc1 : 1 ≤ c) (hc2 : c ≤ 250) (hr1 : 1 ≤ r) (hr2 : r ≤ 120) (hh : h ≤ 2000) (w : World) :
    Calls Tryz.prog 21 #[.int .i64 (c : Int), .int .i64 (r : Int), .int .i64 (h : Int)] w fun e w' => ∃ sb g F pb db tb, e = .returned (.tuple #[ptrV sb, .int .i64 0]) ∧ NewS w w' sb g F c h r pb db tb := by
  have kA : ∀ w1 g F, GA w1 g F c h [] (List.replicate r (plainR c)) → Calls Tryz.prog 39 #[.pointer (some ⟨g, 0, none⟩)] w1 fun e w' => ∃ pb db tb, e = .returned (.agg (scL (ptrV pb) (ptrV g) (.pointer none) (.slice (some ⟨tb, 0, none⟩) c c) (newP r)).toArray) ∧
      Vt.PAt w' w1.heap.size pb db Vt.nilV Vt.nilV Vt.ps0 ∧ BL w' tb 4 (boolsV (tabsL c)) ∧ w1.heap.size ≤ pb ∧ w1.heap.size ≤ db ∧ w1.heap.size ≤ tb ∧ pb ≠ tb ∧ db ≠ tb ∧ Below w1.heap.size w1 w' := fun w1 g F hG => by
    have := asNew_at hG
    rw [List.length_replicate] at this
    exact this
  have kN := new_ga c r h hc1 hc2 hr1 hr2 hh w
  have HA := Lib.hid kA
  have HN := Lib.hid kN
  clear kA kN
  go_enter Tryz.func21, Tryz.ntmps21
  go_wp2_with fail
  refine HN.out.mono ?_
  rintro _ w1 ⟨g, F, rfl, hG, hF, hb1⟩
  have HG := Lib.hid hG
  have HF := Lib.hid hF
  have HB := Lib.hid hb1
  clear hG hF hb1
  go_wp2_with fail
  refine (HA.out _ _ _ HG.out).mono ?_
  rintro _ w2 ⟨pb, db, tb, rfl, hP, hT, hp, hd, ht, h1, h2, hb2⟩
  have HP := Lib.hid hP
  have HT := Lib.hid hT
  have HB2 := Lib.hid hb2
  have hZ := BL.new w2 60 zeroSc
  have hbz : Below w2.heap.size w2 (w2.alloc (.cells zeroSc.toArray 60)) := (Below.refl _ _).alloc (Nat.le_refl _) _
  have hszz : (w2.alloc (.cells zeroSc.toArray 60)).heap.size = w2.heap.size + 1 := size_alloc _ _
  have HBZ := Lib.hid hbz
  have HSZ := Lib.hid hszz
  clear hP hT hb2 hbz hszz
  obtain ⟨A0, hA0⟩ : ∃ A0, (scL (ptrV pb) (ptrV g) (.pointer none) (.slice (some ⟨tb, 0, none⟩) c c) (newP r)) = A0 := ⟨_, rfl⟩
  have HA0 := Lib.hid hA0
  have hl0 : A0.length = zeroSc.length := by rw [← hA0]; rfl
  have ho0 : A0.toArray.all (·.oneCell') = true := by rw [← hA0]; kernel_rfl
  have hi0 : (Tryz.prog.info? 60).map (·.size) = some A0.length := by rw [← hA0]; kernel_rfl
  have hsp : splice zeroSc 0 A0 = A0 := by unfold splice; simp [hl0]
  rw [hA0]
  have HL0 := Lib.hid hl0
  have HO0 := Lib.hid ho0
  have HI0 := Lib.hid hi0
  have HSP := Lib.hid hsp
  clear hA0 hl0 ho0 hi0 hsp
  have HZ := Lib.hid hZ
  clear hZ
  go_wp2_with (refine wpList_store_bl rfl 60 (.tmp 10) (.tmp 22) rfl w2.heap.size 0 A0 rfl rfl 60 zeroSc HZ.out HI0.out (by rw [HL0.out]; exact Nat.le_of_eq (Nat.zero_add _)) HO0.out ?_; intro w3 hB3 hw3)
  have hB4 : BL w3 w2.heap.size 60 A0 := by rw [HSP.out] at hB3; exact hB3
  have how := hw3.only
  rw [← HA0.out] at hB4
  have s3 := HSZ.out
  have hsz := how.size
  have hB2s := HB2.out.size
  have hB1s := HB.out.size
  have hlt := HG.out.lt
  have tlt := HT.out.lt
  have plt := HP.out.lt pb (.inl rfl)
  have dlt := HP.out.lt db (.inr (.inl rfl))
  have hG3 := (((HG.out.below HB2.out).below HBZ.out)).only how (fun x hx => by have := hlt x hx; simp; omega)
  have hP3 := ((HP.out.keep (Cel.below_kept HBZ.out fun _ => False) (fun _ _ h => h))).keep (only_kept how) (fun i hi hp => by
    simp at hp
    rcases hi with q | q | q | q
    · omega
    · omega
    · exact absurd q (by simp [Value.ownBlock])
    · exact absurd q (by simp [Value.ownBlock]))
  have hT3 := (HT.out.only (F := []) (Only.of_below HBZ.out) (by simp)).only how (by simp; omega)
  have hBB := (HB.out.trans (HB2.out.mono hB1s)).trans ((HBZ.out.mono (Nat.le_trans hB1s hB2s)).trans (how.below (Nat.le_trans (Nat.le_trans hB1s hB2s) HBZ.out.size) (by simp; omega)))
  exact bodyPost_ret (v := .tuple #[ptrV w2.heap.size, .int .i64 0]) (by simp [results, Tryz.results21, go_sem, ptrV]) rfl ⟨w2.heap.size, g, F, pb, db, tb, rfl,
    ⟨hB4, hG3, fun hx => by have := hlt _ hx; omega⟩, ⟨w1.heap.size, hB1s, hlt, hP3⟩, hT3, fun x hx => by have := hlt x hx; omega, ⟨by omega, by omega, by omega, by omega, HF.out⟩, ⟨h1, h2, by omega, by omega, by omega⟩, hBB⟩
end Go.Proofs.YtjklnnklgkihlaaGreatDoor.Scr
