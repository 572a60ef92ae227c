/- screen.New. -/
import Derived.Test.YtjklnnklgkihlaaGreatDoorPNnw
namespace Go.Proofs.YtjklnnklgkihlaaGreatDoor.Scr
open Go.RowKit Cel Sty Grd

/-- What a new screen brings with it: its parser and its tab stops, apart from the grid's blocks. -/
structure NewS (w w' : World) (sb g : Nat) (F : List Nat) (c lim r pb db tb : Nat) : Prop where
  scr : SG w' sb g F c lim [] (List.replicate r (plainR c)) (ptrV pb) (.slice (some ⟨tb, 0, none⟩) c c) (newP r)
  par : ∃ B, w.heap.size ≤ B ∧ (∀ x ∈ F, x < B) ∧ Vt.PAt w' B pb db Vt.nilV Vt.nilV Vt.ps0
  tab : BL w' tb 4 (boolsV (tabsL c))
  far : ∀ x ∈ F, x ≠ pb ∧ x ≠ db ∧ x ≠ tb
  new : w.heap.size ≤ sb ∧ w.heap.size ≤ pb ∧ w.heap.size ≤ db ∧ w.heap.size ≤ tb ∧ (∀ x ∈ F, w.heap.size ≤ x)
  own : pb ≠ tb ∧ db ≠ tb ∧ sb ≠ pb ∧ sb ≠ db ∧ sb ≠ tb
  bel : Below w.heap.size w w'
set_option maxRecDepth 100000 in
set_option maxHeartbeats 2000000 in
theorem new_screen (c r h : Nat) (hc1 : 1 ≤ c) (hc2 : c ≤ 250) (hr1 : 1 ≤ r) (hr2 : r ≤ 120) (hh : h ≤ 2000) (w : World) :
    Calls Tryz.prog 21 #[.int .i64 (c : Int), .int .i64 (r : Int), .int .i64 (h : Int)] w fun e w' => ∃ sb g F pb db tb, e = .returned (.tuple #[ptrV sb, .int .i64 0]) ∧ NewS w w' sb g F c h r pb db tb := by
  have kA : ∀ w1 g F, GA w1 g F c h [] (List.replicate r (plainR c)) → Calls Tryz.prog 39 #[.pointer (some ⟨g, 0, none⟩)] w1 fun e w' => ∃ pb db tb, e = .returned (.agg (scL (ptrV pb) (ptrV g) (.pointer none) (.slice (some ⟨tb, 0, none⟩) c c) (newP r)).toArray) ∧
      Vt.PAt w' w1.heap.size pb db Vt.nilV Vt.nilV Vt.ps0 ∧ BL w' tb 4 (boolsV (tabsL c)) ∧ w1.heap.size ≤ pb ∧ w1.heap.size ≤ db ∧ w1.heap.size ≤ tb ∧ pb ≠ tb ∧ db ≠ tb ∧ Below w1.heap.size w1 w' := fun w1 g F hG => by
    have := asNew_at hG
    rw [List.length_replicate] at this
    exact this
  have kN := new_ga c r h hc1 hc2 hr1 hr2 hh w
  have HA := Lib.hid kA
  have HN := Lib.hid kN
  clear kA kN
  go_enter Tryz.func21, Tryz.ntmps21
  go_wp2_with fail
  refine HN.out.mono ?_
  rintro _ w1 ⟨g, F, rfl, hG, hF, hb1⟩
  have HG := Lib.hid hG
  have HF := Lib.hid hF
  have HB := Lib.hid hb1
  clear hG hF hb1
  go_wp2_with fail
  refine (HA.out _ _ _ HG.out).mono ?_
  rintro _ w2 ⟨pb, db, tb, rfl, hP, hT, hp, hd, ht, h1, h2, hb2⟩
  have HP := Lib.hid hP
  have HT := Lib.hid hT
  have HB2 := Lib.hid hb2
  have hZ := BL.new w2 60 zeroSc
  have hbz : Below w2.heap.size w2 (w2.alloc (.cells zeroSc.toArray 60)) := (Below.refl _ _).alloc (Nat.le_refl _) _
  have hszz : (w2.alloc (.cells zeroSc.toArray 60)).heap.size = w2.heap.size + 1 := size_alloc _ _
  have HBZ := Lib.hid hbz
  have HSZ := Lib.hid hszz
  clear hP hT hb2 hbz hszz
  obtain ⟨A0, hA0⟩ : ∃ A0, (scL (ptrV pb) (ptrV g) (.pointer none) (.slice (some ⟨tb, 0, none⟩) c c) (newP r)) = A0 := ⟨_, rfl⟩
  have HA0 := Lib.hid hA0
  have hl0 : A0.length = zeroSc.length := by rw [← hA0]; rfl
  have ho0 : A0.toArray.all (·.oneCell') = true := by rw [← hA0]; kernel_rfl
  have hi0 : (Tryz.prog.info? 60).map (·.size) = some A0.length := by rw [← hA0]; kernel_rfl
  have hsp : splice zeroSc 0 A0 = A0 := by unfold splice; simp [hl0]
  rw [hA0]
  have HL0 := Lib.hid hl0
  have HO0 := Lib.hid ho0
  have HI0 := Lib.hid hi0
  have HSP := Lib.hid hsp
  clear hA0 hl0 ho0 hi0 hsp
  have HZ := Lib.hid hZ
  clear hZ
  go_wp2_with (refine wpList_store_bl rfl 60 (.tmp 10) (.tmp 22) rfl w2.heap.size 0 A0 rfl rfl 60 zeroSc HZ.out HI0.out (by rw [HL0.out]; exact Nat.le_of_eq (Nat.zero_add _)) HO0.out ?_; intro w3 hB3 hw3)
  have hB4 : BL w3 w2.heap.size 60 A0 := by rw [HSP.out] at hB3; exact hB3
  have how := hw3.only
  rw [← HA0.out] at hB4
  have s3 := HSZ.out
  have hsz := how.size
  have hB2s := HB2.out.size
  have hB1s := HB.out.size
  have hlt := HG.out.lt
  have tlt := HT.out.lt
  have plt := HP.out.lt pb (.inl rfl)
  have dlt := HP.out.lt db (.inr (.inl rfl))
  have hG3 := (((HG.out.below HB2.out).below HBZ.out)).only how (fun x hx => by have := hlt x hx; simp; omega)
  have hP3 := ((HP.out.keep (Cel.below_kept HBZ.out fun _ => False) (fun _ _ h => h))).keep (only_kept how) (fun i hi hp => by
    simp at hp
    rcases hi with q | q | q | q
    · omega
    · omega
    · exact absurd q (by simp [Value.ownBlock])
    · exact absurd q (by simp [Value.ownBlock]))
  have hT3 := (HT.out.only (F := []) (Only.of_below HBZ.out) (by simp)).only how (by simp; omega)
  have hBB := (HB.out.trans (HB2.out.mono hB1s)).trans ((HBZ.out.mono (Nat.le_trans hB1s hB2s)).trans (how.below (Nat.le_trans (Nat.le_trans hB1s hB2s) HBZ.out.size) (by simp; omega)))
  exact bodyPost_ret (v := .tuple #[ptrV w2.heap.size, .int .i64 0]) (by simp [results, Tryz.results21, go_sem, ptrV]) rfl ⟨w2.heap.size, g, F, pb, db, tb, rfl,
    ⟨hB4, hG3, fun hx => by have := hlt _ hx; omega⟩, ⟨w1.heap.size, hB1s, hlt, hP3⟩, hT3, fun x hx => by have := hlt x hx; omega, ⟨by omega, by omega, by omega, by omega, HF.out⟩, ⟨h1, h2, by omega, by omega, by omega⟩, hBB⟩
end Go.Proofs.YtjklnnklgkihlaaGreatDoor.Scr
/- screen.New at sizes that are not allowed. -/
namespace Go.Proofs.YtjklnnklgkihlaaGreatDoor.Scr
open Go.RowKit Cel Sty Grd

/-- The sizes that a grid may have, and how much it may keep. -/
def mayNew (c r h : Int) : Bool := decide (1 ≤ c ∧ c ≤ 250 ∧ 1 ≤ r ∧ r ≤ 120) && (decide (0 ≤ h) && decide (h ≤ 2000))
set_option maxRecDepth 100000 in
theorem grid_no (c r h : Int) (hno : mayNew c r h = false) (w : World) :
    Calls Tryz.prog 38 #[.int .i64 c, .int .i64 r, .int .i64 h] w fun e w' => e = .returned (.tuple #[.pointer none, .int .i64 1]) ∧ w = w' := by
  obtain ⟨b, hb⟩ : ∃ b, decide (1 ≤ c ∧ c ≤ 250 ∧ 1 ≤ r ∧ r ≤ 120) = b := ⟨_, rfl⟩
  have hs := Lib.hid (fun w => isSize_any c r b hb w)
  unfold mayNew at hno
  rw [hb] at hno
  clear hb
  cases b
  case false =>
    clear hno
    go_enter Tryz.func38, Tryz.ntmps38
    go_wp2_with (go_at_call 61; refine (hs.out _).mono ?_; rintro _ w1 ⟨rfl, rfl⟩)
    exact bodyPost_ret (v := .tuple #[.pointer none, .int .i64 1]) (by simp [results, Tryz.results38, go_sem]) rfl ⟨rfl, rfl⟩
  case true =>
    by_cases h0 : h < 0
    · have d1 : decide (h < 0) = true := by simpa using h0
      clear hno
      go_enter Tryz.func38, Tryz.ntmps38
      go_wp2_with (go_at_call 61; refine (hs.out _).mono ?_; rintro _ w1 ⟨rfl, rfl⟩)
      exact bodyPost_ret (v := .tuple #[.pointer none, .int .i64 1]) (by simp [results, Tryz.results38, go_sem]) rfl ⟨rfl, rfl⟩
    · have d1 : decide (h < 0) = false := by simpa using h0
      have h2 : 2000 < h := by simp at hno; omega
      have d2 : decide (2000 < h) = true := by simpa using h2
      clear hno h0
      go_enter Tryz.func38, Tryz.ntmps38
      go_wp2_with (go_at_call 61; refine (hs.out _).mono ?_; rintro _ w1 ⟨rfl, rfl⟩)
      exact bodyPost_ret (v := .tuple #[.pointer none, .int .i64 1]) (by simp [results, Tryz.results38, go_sem]) rfl ⟨rfl, rfl⟩
set_option maxRecDepth 100000 in
theorem screen_no (c r h : Int) (hno : mayNew c r h = false) (w : World) :
    Calls Tryz.prog 21 #[.int .i64 c, .int .i64 r, .int .i64 h] w fun e w' => e = .returned (.tuple #[.pointer none, .int .i64 1]) ∧ w = w' := by
  have hs := Lib.hid (grid_no c r h hno w)
  clear hno
  go_enter Tryz.func21, Tryz.ntmps21
  go_wp2_with fail
  refine hs.out.mono ?_
  rintro _ w1 ⟨rfl, rfl⟩
  go_wp2_with fail
  exact bodyPost_ret (v := .tuple #[.pointer none, .int .i64 1]) (by simp [results, Tryz.results21, go_sem]) rfl ⟨rfl, rfl⟩
end Go.Proofs.YtjklnnklgkihlaaGreatDoor.Scr
/- A screen's rows as texts. -/
namespace Go.Proofs.YtjklnnklgkihlaaGreatDoor.Scr
open Go.RowKit Cel Sty Grd

theorem info_text : (Tryz.prog.info? 9).map (fun i => (i.zero, i.size, i.bytes)) = some (some (.string { data := #[] }), 1, 16) := by kernel_rfl
section
variable {ops : Array Oper} {rest : List Oper} {op : Oper} {a : Act} {w : World} {Q : Exit → Act → World → Prop}
/-- One text appended to a row of the call's own, or to nil. -/
theorem wpList_app_text (hgd : op.guard = none) (s x : Operand) (ho : op.op = .call { callee := .builtin .append, args := #[s, x], argTypes := #[49, 49] })
    (base : Nat) (v : Value) (n : Nat) (xs : List Value) (b : ByteArray) (c : Nat) (hs : a.eval s = v) (hown : w.ownsRow base 9 1 v n xs) (hx : a.eval x = .slice (some ⟨w.heap.size, 0, none⟩) 1 c) (hbase : base ≤ w.heap.size) (hn : n + 1 ≤ 8796093022208)
    (h : ∀ v' w', w'.ownsRow base 9 1 v' (n + 1) (xs ++ [.string b]) → Below base w w' → wpList Tryz.prog ops Q rest (a.put op.dst v') w') :
    wpList Tryz.prog ops Q (op :: rest) a (w.alloc (.cells #[.string b] 9)) := by
  obtain ⟨i0, hi0, hz0, hz1, hz2⟩ := info_parts info_text
  have hal := hown.alloc (.cells #[.string b] 9)
  refine wpList_append_own_at _ hgd s x 49 ho base 9 i0 (.string { data := #[] }) 1 16 Tryz.underlying49 hi0 hz0 hz1 hz2 rfl (by decide) v n xs hs hal ⟨w.heap.size, 0, none⟩ 1 c [.string b] hx rfl (cell_one_new _ _ _)
    (by intro u hu; simp at hu; subst hu; rfl) (by unfold maxLen; omega) (by omega) (by simp; omega) ?_
  intro v' w' hown' hgr _ hwh
  exact h v' w' hown' (((Below.refl base w).alloc hbase _).grown hgr (by simp; omega) (fun k hk => (hown.lt k hk).1))
end
/-- A row's text. -/
def rowT (r : Ro) : ByteArray := ⟨(Lib.trimRightB (lettersL r.1) 32).toArray⟩
def rowTs (rows : List Ro) : List Value := rows.map fun r => .string (rowT r)
theorem rowTs_succ {rows : List Ro} {k : Nat} (h : k < rows.length) : rowTs (rows.take k) ++ [.string (rowT rows[k])] = rowTs (rows.take (k + 1)) := by
  unfold rowTs
  rw [List.take_succ_eq_append_getElem h, List.map_append]
  rfl
section
variable {w : World} {sb g : Nat} {F : List Nat} {c lim : Nat} {past rows : List Ro} {pp tv : Value} {S : ScP}
set_option maxRecDepth 100000 in
set_option maxHeartbeats 2000000 in
theorem rows_at (h : SG w sb g F c lim past rows pp tv S) (ha : ∀ r ∈ rows, ∀ x ∈ r.1, x.2.1 ≠ 0 → 0 ≤ x.1 ∧ x.1 < 128) :
    Calls Tryz.prog 22 #[ptrV sb] w fun e w' => ∃ v, e = .returned v ∧ w'.ownsRow w.heap.size 9 1 v rows.length (rowTs rows) ∧ Below w.heap.size w w' := by
  have hr2 := h.grd.bd.r2
  have ks : ∀ V, Below w.heap.size w V → Calls Tryz.prog 29 #[.pointer (some ⟨sb, 0, none⟩)] V fun e w' => e = .returned (.pointer (some ⟨g, 0, none⟩)) ∧ V = w' := fun V hb => shown_at (h.below hb).blk
  have kr : ∀ V, Below w.heap.size w V → Calls Tryz.prog 15 #[.pointer (some ⟨g, 0, none⟩)] V fun e w' => e = .returned (.int .i64 (rows.length : Int)) ∧ V = w' := fun V hb => rows_ga (h.below hb).grd
  obtain ⟨tf, htf⟩ : ∃ tf : Nat → ByteArray, ∀ k (hk : k < rows.length), rowT rows[k] = tf k := ⟨fun k => rowT (rows.getD k ([], false)), fun k hk => by simp [List.getD, hk]⟩
  have kt : ∀ V k, k < rows.length → Below w.heap.size w V → Calls Tryz.prog 18 #[.pointer (some ⟨g, 0, none⟩), .int .i64 (k : Int)] V fun e w' => e = .returned (.string (tf k)) ∧ Below V.heap.size V w' := fun V k hk hb => by
    rw [← htf k hk]
    exact text_ga ((h.below hb).grd.scr_row k hk) (ha _ (List.getElem_mem hk))
  have hts : ∀ k, k < rows.length → rowTs (rows.take k) ++ [.string (tf k)] = rowTs (rows.take (k + 1)) := fun k hk => by
    rw [← htf k hk]
    exact rowTs_succ hk
  have hall : rowTs (rows.take rows.length) = rowTs rows := by rw [List.take_length]
  obtain ⟨n, hn⟩ : ∃ n, rows.length = n := ⟨_, rfl⟩
  rw [hn] at kr kt hts hall hr2 ⊢
  have HS := Lib.hid ks
  have HR := Lib.hid kr
  have HK := Lib.hid kt
  have HT := Lib.hid hts
  have HA := Lib.hid hall
  clear h ha ks kr kt hts hall htf
  unfold ptrV
  go_enter Tryz.func22, Tryz.ntmps22
  go_wp2_with (first
    | (go_at_call 29; refine (HS.out _ (Below.refl _ _)).mono ?_; rintro _ _ ⟨rfl, rfl⟩)
    | (go_at_call 15; refine (HR.out _ (Below.refl _ _)).mono ?_; rintro _ _ ⟨rfl, rfl⟩))
  go_loopw [3, 8] (fun v i wr => ∃ k : Nat, k ≤ n ∧ i = .int .i64 (k : Int) ∧ wr.ownsRow w.heap.size 9 1 v k (rowTs (rows.take k)) ∧ Below w.heap.size w wr) (fun _ i _ => n - (intOf i).toNat)
  case atStart => exact ⟨0, Nat.zero_le _, rfl, World.ownsRow_nil _ _ _ _, Below.refl _ _⟩
  case round =>
    obtain ⟨k, hk, rfl, hO, hb⟩ := hrel
    by_cases hlt : k < n
    · have k1 : (k : Int) < (n : Int) := by omega
      have k0 : (0 : Int) ≤ (k : Int) := Int.natCast_nonneg _
      have HO := Lib.hid hO
      have HB := Lib.hid hb
      have hT := Lib.hid (HT.out k (by omega))
      have hX := Lib.hid (HK.out wr k (by omega) hb)
      generalize tf k = tx at *
      clear hO hb
      go_wp2_with (first
        | (go_at_call 29; refine (HS.out _ HB.out).mono ?_; rintro _ _ ⟨rfl, rfl⟩)
        | fail)
      refine hX.out.mono ?_
      rintro _ w2 ⟨rfl, hb2⟩
      have hO2 := (Cel.below_kept hb2 fun _ => False).owns HO.out (fun _ _ h => h)
      have hs2 := Nat.le_trans HB.out.size hb2.size
      go_wp2_with (first
        | (at_builtin; refine wpList_app_text rfl (.tmp 11) (.tmp 16) rfl w.heap.size _ k _ tx 1 rfl hO2 rfl hs2 (by omega) ?_; intro v' w3 hO3 hb3))
      go_roundw
      case rel => exact ⟨k + 1, by omega, by go_num, hT.out ▸ hO3, (HB.out.trans (hb2.mono HB.out.size)).trans hb3⟩
      case measure => simp [intOf]; omega
    · have e : k = n := by omega
      subst e
      go_wp2_with fail
      go_ret
      exact ⟨_, rfl, HA.out ▸ hO, hb⟩
end
end Go.Proofs.YtjklnnklgkihlaaGreatDoor.Scr
