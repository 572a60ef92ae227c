/- A rune's width, as the program's table has it. -/
import Derived.Test.YtgjlohplgpcghaaDoorGcl
import Derived.Test.YtgjlohplgpcghaaDoorSpec
import Derived.Test.YtgjlohplgpcghaaDoorSp
namespace Go.Proofs.YtgjlohplgpcghaaDoor.Grd
open Go.RowKit Cel

theorem ret_int {k : IntKind} {a b : Int} (h : a = b) : Ending.returned (.int k a) = .returned (.int k b) := by rw [h]
def spanCells : Array Value := (spans.flatMap fun s => [Value.int .i32 s.1, Value.int .i32 s.2.1, Value.int .i64 s.2.2]).toArray
/-- The table of widths lies below block B. -/
structure Tabs (B : Nat) (w : World) : Prop where
  spans : ∃ t fr, w.heap[0]? = some (.cells spanCells t fr)
  low : 0 < B
theorem Tabs.below {B C : Nat} {w w' : World} (h : Tabs B w) (hb : Below C w w') (hC : B ≤ C) : Tabs B w' := by
  obtain ⟨t, fr, h1⟩ := h.spans
  exact ⟨⟨t, fr, (hb.block _ (by have := h.low; omega)).trans h1⟩, h.low⟩
theorem Tabs.only {B : Nat} {w w' : World} {F : List Nat} (h : Tabs B w) (ho : Only F w w') (hB : B ≤ w.heap.size) (hF : ∀ x ∈ F, B ≤ x) : Tabs B w' := h.below (ho.below hB hF) (Nat.le_refl _)

/-- A row of the table of widths, as it is taken out of the array. -/
theorem span_at (cs : Array Value) (hcs : cs = spanCells) (k : Nat) (hk : k < 18) : ∃ s : Int × Int × Int, spans[k]? = some s ∧ -1114112 ≤ s.1 ∧ s.1 ≤ 1114111 ∧ -1114112 ≤ s.2.1 ∧ s.2.1 ≤ 1114111 ∧ -1 ≤ s.2.2 ∧ s.2.2 ≤ 2 ∧
    ∀ w : World, (Instr.index 123 (.agg cs) (.int .i64 k)).run Tryd.prog w = .ok (.agg #[.int .i32 s.1, .int .i32 s.2.1, .int .i64 s.2.2]) w := by
  subst hcs
  match k, hk with
  | 0, _ => exact ⟨_, rfl, by decide, by decide, by decide, by decide, by decide, by decide, fun _ => by kernel_rfl⟩
  | 1, _ => exact ⟨_, rfl, by decide, by decide, by decide, by decide, by decide, by decide, fun _ => by kernel_rfl⟩
  | 2, _ => exact ⟨_, rfl, by decide, by decide, by decide, by decide, by decide, by decide, fun _ => by kernel_rfl⟩
  | 3, _ => exact ⟨_, rfl, by decide, by decide, by decide, by decide, by decide, by decide, fun _ => by kernel_rfl⟩
  | 4, _ => exact ⟨_, rfl, by decide, by decide, by decide, by decide, by decide, by decide, fun _ => by kernel_rfl⟩
  | 5, _ => exact ⟨_, rfl, by decide, by decide, by decide, by decide, by decide, by decide, fun _ => by kernel_rfl⟩
  | 6, _ => exact ⟨_, rfl, by decide, by decide, by decide, by decide, by decide, by decide, fun _ => by kernel_rfl⟩
  | 7, _ => exact ⟨_, rfl, by decide, by decide, by decide, by decide, by decide, by decide, fun _ => by kernel_rfl⟩
  | 8, _ => exact ⟨_, rfl, by decide, by decide, by decide, by decide, by decide, by decide, fun _ => by kernel_rfl⟩
  | 9, _ => exact ⟨_, rfl, by decide, by decide, by decide, by decide, by decide, by decide, fun _ => by kernel_rfl⟩
  | 10, _ => exact ⟨_, rfl, by decide, by decide, by decide, by decide, by decide, by decide, fun _ => by kernel_rfl⟩
  | 11, _ => exact ⟨_, rfl, by decide, by decide, by decide, by decide, by decide, by decide, fun _ => by kernel_rfl⟩
  | 12, _ => exact ⟨_, rfl, by decide, by decide, by decide, by decide, by decide, by decide, fun _ => by kernel_rfl⟩
  | 13, _ => exact ⟨_, rfl, by decide, by decide, by decide, by decide, by decide, by decide, fun _ => by kernel_rfl⟩
  | 14, _ => exact ⟨_, rfl, by decide, by decide, by decide, by decide, by decide, by decide, fun _ => by kernel_rfl⟩
  | 15, _ => exact ⟨_, rfl, by decide, by decide, by decide, by decide, by decide, by decide, fun _ => by kernel_rfl⟩
  | 16, _ => exact ⟨_, rfl, by decide, by decide, by decide, by decide, by decide, by decide, fun _ => by kernel_rfl⟩
  | 17, _ => exact ⟨_, rfl, by decide, by decide, by decide, by decide, by decide, by decide, fun _ => by kernel_rfl⟩
  | k + 18, hk => exact absurd hk (by omega)

theorem look_drop (r : Int) (k : Nat) (s : Int × Int × Int) (h : spans[k]? = some s) : Cel.look (spans.drop k) r = if s.1 ≤ r ∧ r ≤ s.2.1 then s.2.2 else Cel.look (spans.drop (k + 1)) r := by
  obtain ⟨hk, e⟩ := List.getElem?_eq_some_iff.1 h
  rw [List.drop_eq_getElem_cons hk, e]
  rfl

set_option maxRecDepth 100000 in
set_option maxHeartbeats 400000 in
theorem width_any (r : Int) (w : World) {B : Nat} (ht : Tabs B w) (hr0 : -2147483648 ≤ r) (hr1 : r ≤ 2147483647) :
    Calls Tryd.prog 58 #[.int .i32 r] w fun e w' => e = .returned (.int .i64 (width r)) ∧ Below w.heap.size w w' := by
  by_cases h : r < 32 ∨ 1114111 < r
  · have HW : Hid (width r = -1) := by show _ = _; unfold width; rw [if_pos h]
    rcases h with h | h
    · go_enter Tryd.func58, Tryd.ntmps58
      go_wp2
      go_ret
      exact ⟨ret_int HW.out.symm, Below.refl _ _⟩
    · have h2 : ¬ r < 32 := by omega
      go_enter Tryd.func58, Tryd.ntmps58
      go_wp2
      go_ret
      exact ⟨ret_int HW.out.symm, Below.refl _ _⟩
  · have h1 : ¬ r < 32 := by omega
    have h2 : ¬ 1114111 < r := by omega
    have HW : Hid (width r = Cel.look spans r) := by show _ = _; unfold width; rw [if_neg h]
    clear h
    obtain ⟨t, fr, hg⟩ := ht.spans
    obtain ⟨cs, hcs⟩ : ∃ cs, cs = spanCells := ⟨_, rfl⟩
    rw [← hcs] at hg
    have HS : Hid ((Tryd.prog.info? 123).map (·.size) = some cs.size) := by rw [hcs]; show _ = _; kernel_rfl
    have HA : Hid (∀ k : Nat, k < 18 → _) := span_at cs hcs
    clear hcs
    go_enter Tryd.func58, Tryd.ntmps58
    go_wp2_with (refine wpList_load_row rfl 123 _ rfl 0 rfl t cs fr _ hg Tryd.underlying123 rfl HS.out ?_)
    go_loopw [12] (fun i wr => ∃ k : Nat, k ≤ 18 ∧ i = .int .i64 k ∧ Hid (Cel.look (spans.drop k) r = Cel.look spans r) ∧ Below w.heap.size w wr) (fun i _ => 18 - (intOf i).toNat)
    case atStart => exact ⟨0, by omega, rfl, rfl, Below.refl _ _⟩
    case round =>
      obtain ⟨k, hk, rfl, HL, hb⟩ := hrel
      have hbs := hb.size
      by_cases hlt : k < 18
      · obtain ⟨s, hs, b1, b2, b3, b4, b5, b6, hidx⟩ := HA.out k hlt
        have HD := Lib.hid (look_drop r k s hs)
        clear hs
        obtain ⟨s1, s2, s3⟩ := s
        simp only at b1 b2 b3 b4 b5 b6 hidx
        by_cases c1 : s1 ≤ r
        · by_cases c2 : r ≤ s2
          · have HV : Hid (width r = s3) := by show _ = _; rw [HW.out, ← HL.out, HD.out, if_pos ⟨c1, c2⟩]
            go_wp2
            go_ret
            exact ⟨ret_int HV.out.symm, hb.alloc hbs _⟩
          · have HV : Hid (Cel.look (spans.drop (k + 1)) r = Cel.look spans r) := by show _ = _; rw [← HL.out, HD.out, if_neg (by simp only; omega)]
            go_wp2
            go_roundw
            case rel => exact ⟨k + 1, by omega, by go_num, HV, hb.alloc hbs _⟩
            case measure => simp [intOf]; omega
        · have HV : Hid (Cel.look (spans.drop (k + 1)) r = Cel.look spans r) := by show _ = _; rw [← HL.out, HD.out, if_neg (by simp only; omega)]
          go_wp2
          go_roundw
          case rel => exact ⟨k + 1, by omega, by go_num, HV, hb.alloc hbs _⟩
          case measure => simp [intOf]; omega
      · have HV : Hid (width r = 1) := by
          have e : k = 18 := by omega
          show _ = _
          rw [HW.out, ← HL.out, e]
          rfl
        go_wp2
        go_ret
        exact ⟨ret_int HV.out.symm, hb⟩

end Go.Proofs.YtgjlohplgpcghaaDoor.Grd
/- What a right look is; which cells may be put. -/
namespace Go.Proofs.YtgjlohplgpcghaaDoor.Grd
open Go.RowKit Sty

theorem col_cases (c : Int) : c < -1 ∨ (-1 ≤ c ∧ c ≤ 255) ∨ (255 < c ∧ c < 16777216) ∨ (16777216 ≤ c ∧ c ≤ 33554431) ∨ 33554431 < c := by omega

theorem isColour_any (c : Int) (b : Bool) (hb : isCol c = b) (w : World) :
    Calls Tryd.prog 75 #[.int .i64 c] w fun e w' => e = .returned (.bool b) ∧ w = w' := by
  subst hb
  rcases col_cases c with h | ⟨h1, h2⟩ | ⟨h1, h2⟩ | ⟨h1, h2⟩ | h
  · rw [(isCol_not c).2 (by omega)]
    have d1 : decide ((-1 : Int) ≤ c) = false := by simpa using h
    have d2 : decide ((16777216 : Int) ≤ c) = false := by simp; omega
    go_enter Tryd.func75, Tryd.ntmps75
    go_wp2
    go_ret
    exact ⟨rfl, rfl⟩
  · rw [(isCol_iff c).2 (by omega)]
    go_enter Tryd.func75, Tryd.ntmps75
    go_wp2
    go_ret
    exact ⟨rfl, rfl⟩
  · rw [(isCol_not c).2 (by omega)]
    have d0 : decide ((-1 : Int) ≤ c) = true := by simp; omega
    have d1 : decide (c ≤ 255) = false := by simpa using h1
    have d2 : decide ((16777216 : Int) ≤ c) = false := by simpa using h2
    go_enter Tryd.func75, Tryd.ntmps75
    go_wp2
    go_ret
    exact ⟨rfl, rfl⟩
  · rw [(isCol_iff c).2 (by omega)]
    have d0 : decide ((-1 : Int) ≤ c) = true := by simp; omega
    have d1 : decide (c ≤ 255) = false := by simp; omega
    go_enter Tryd.func75, Tryd.ntmps75
    go_wp2
    go_ret
    exact ⟨rfl, rfl⟩
  · rw [(isCol_not c).2 (by omega)]
    have d0 : decide ((-1 : Int) ≤ c) = true := by simp; omega
    have d1 : decide (c ≤ 255) = false := by simp; omega
    have d2 : decide ((16777216 : Int) ≤ c) = true := by simp; omega
    have d3 : decide (c ≤ 33554431) = false := by simpa using h
    go_enter Tryd.func75, Tryd.ntmps75
    go_wp2
    go_ret
    exact ⟨rfl, rfl⟩

/-- A right look. -/
def rightS (fg bg at_ : Int) : Bool := isCol fg && (isCol bg && (decide (0 ≤ at_) && decide (at_ ≤ 255)))

/-- The ways in which a look can be right or not. -/
theorem right_cases (fg bg at_ : Int) (P : Bool → Prop)
    (h0 : isCol fg = false → P false) (h1 : isCol fg = true → isCol bg = false → P false) (h2 : isCol fg = true → isCol bg = true → at_ < 0 → P false)
    (h3 : isCol fg = true → isCol bg = true → 0 ≤ at_ → 255 < at_ → P false) (h4 : isCol fg = true → isCol bg = true → 0 ≤ at_ → at_ ≤ 255 → P true) : P (rightS fg bg at_) := by
  unfold rightS
  cases f : isCol fg
  · exact h0 f
  · cases b : isCol bg
    · exact h1 f b
    · by_cases a0 : 0 ≤ at_
      · by_cases a1 : at_ ≤ 255
        · have := h4 f b a0 a1
          simpa [a0, a1] using this
        · have := h3 f b a0 (by omega)
          simpa [a0, a1] using this
      · have := h2 f b (by omega)
        simpa [a0] using this

theorem right_any (fg bg at_ : Int) (b : Bool) (hb : rightS fg bg at_ = b) (w : World) :
    Calls Tryd.prog 59 #[.agg #[.int .i64 fg, .int .i64 bg, .int .i64 at_]] w fun e w' => e = .returned (.bool b) ∧ Below w.heap.size w w' := by
  subst hb
  refine right_cases fg bg at_ (fun b => Calls Tryd.prog 59 #[.agg #[.int .i64 fg, .int .i64 bg, .int .i64 at_]] w fun e w' => e = .returned (.bool b) ∧ Below w.heap.size w w') ?_ ?_ ?_ ?_ ?_
  · intro h1
    have c1 := fun w => isColour_any fg _ h1 w
    clear h1
    go_enter Tryd.func59, Tryd.ntmps59
    go_wp2_with (go_at_call 75; (first | (with_reducible refine (c1 _).mono ?_) | (with_reducible refine (c2 _).mono ?_)); rintro e w' ⟨rfl, rfl⟩)
    go_ret
    exact ⟨rfl, (Below.refl _ _).alloc (Nat.le_refl _) _⟩
  · intro h1 h2
    have c1 := fun w => isColour_any fg _ h1 w
    have c2 := fun w => isColour_any bg _ h2 w
    clear h1 h2
    go_enter Tryd.func59, Tryd.ntmps59
    go_wp2_with (go_at_call 75; (first | (with_reducible refine (c1 _).mono ?_) | (with_reducible refine (c2 _).mono ?_)); rintro e w' ⟨rfl, rfl⟩)
    go_ret
    exact ⟨rfl, (Below.refl _ _).alloc (Nat.le_refl _) _⟩
  · intro h1 h2 h3
    have c1 := fun w => isColour_any fg _ h1 w
    have c2 := fun w => isColour_any bg _ h2 w
    have d2 : decide (0 ≤ at_) = false := by simpa using h3
    clear h1 h2
    go_enter Tryd.func59, Tryd.ntmps59
    go_wp2_with (go_at_call 75; (first | (with_reducible refine (c1 _).mono ?_) | (with_reducible refine (c2 _).mono ?_)); rintro e w' ⟨rfl, rfl⟩)
    go_ret
    exact ⟨rfl, (Below.refl _ _).alloc (Nat.le_refl _) _⟩
  · intro h1 h2 h3 h4
    have c1 := fun w => isColour_any fg _ h1 w
    have c2 := fun w => isColour_any bg _ h2 w
    have d2 : decide (0 ≤ at_) = true := by simpa using h3
    have d3 : decide (at_ ≤ 255) = false := by simpa using h4
    clear h1 h2
    go_enter Tryd.func59, Tryd.ntmps59
    go_wp2_with (go_at_call 75; (first | (with_reducible refine (c1 _).mono ?_) | (with_reducible refine (c2 _).mono ?_)); rintro e w' ⟨rfl, rfl⟩)
    go_ret
    exact ⟨rfl, (Below.refl _ _).alloc (Nat.le_refl _) _⟩
  · intro h1 h2 h3 h4
    have c1 := fun w => isColour_any fg _ h1 w
    have c2 := fun w => isColour_any bg _ h2 w
    have d2 : decide (0 ≤ at_) = true := by simpa using h3
    have d3 : decide (at_ ≤ 255) = true := by simpa using h4
    clear h1 h2
    go_enter Tryd.func59, Tryd.ntmps59
    go_wp2_with (go_at_call 75; (first | (with_reducible refine (c1 _).mono ?_) | (with_reducible refine (c2 _).mono ?_)); rintro e w' ⟨rfl, rfl⟩)
    go_ret
    exact ⟨rfl, (Below.refl _ _).alloc (Nat.le_refl _) _⟩

end Go.Proofs.YtgjlohplgpcghaaDoor.Grd
/- Which cells may be put. -/
namespace Go.Proofs.YtgjlohplgpcghaaDoor.Grd
open Go.RowKit Cel Sty

def mayS (r wd s1 s2 s3 : Int) : Bool := decide (0 < wd) && (decide (wd = width r) && rightS s1 s2 s3)
set_option maxRecDepth 100000 in
set_option maxHeartbeats 1000000 in
theorem mayBePut_any {B : Nat} (r wd s1 s2 s3 : Int) (hr0 : -2147483648 ≤ r) (hr1 : r ≤ 2147483647) (b : Bool) (hb : mayS r wd s1 s2 s3 = b) (w : World) (ht : Tabs B w) (hB : B ≤ w.heap.size) :
    Calls Tryd.prog 36 #[.agg #[.int .i32 r, .int .i64 wd, .int .i64 s1, .int .i64 s2, .int .i64 s3]] w fun e w' => e = .returned (.bool b) ∧ Below w.heap.size w w' := by
  have hA := BL.new w 35 [.int .i32 r, .int .i64 wd, .int .i64 s1, .int .i64 s2, .int .i64 s3]
  have hb0 : Below w.heap.size w (w.alloc (.cells #[.int .i32 r, .int .i64 wd, .int .i64 s1, .int .i64 s2, .int .i64 s3] 35)) := (Below.refl _ _).alloc (Nat.le_refl _) _
  have htW := ht.below hb0 hB
  have hAl := hA.lt
  have hwd := fun W ht => width_any (B := B) r W ht hr0 hr1
  have HA := Lib.hid hA
  have hWs := hb0.size
  by_cases h1 : 0 < wd
  · by_cases h2 : wd = width r
    · obtain rfl : rightS s1 s2 s3 = b := by rw [← hb]; simp [mayS, h1, ← h2]
      have hrt := fun W => right_any s1 s2 s3 _ rfl W
      generalize rightS s1 s2 s3 = b at *
      rw [← h2] at hwd
      clear hb h2 hr0 hr1 hA
      go_enter Tryd.func36, Tryd.ntmps36
      go_wp2_with fail
      generalize w.alloc (.cells #[.int .i32 r, .int .i64 wd, .int .i64 s1, .int .i64 s2, .int .i64 s3] 35) = W at *
      have SS : ∀ V, Below W.heap.size W V → (V.cell? ⟨w.heap.size, 0, none⟩ = some (.int .i32 r) ∧ V.cell? ⟨w.heap.size, 1, none⟩ = some (.int .i64 wd) ∧ V.cell? ⟨w.heap.size, 2, none⟩ = some (.int .i64 s1) ∧ V.cell? ⟨w.heap.size, 3, none⟩ = some (.int .i64 s2) ∧ V.cell? ⟨w.heap.size, 4, none⟩ = some (.int .i64 s3) ∧ Tabs B V ∧ Below W.heap.size W V) := fun V hkk => by
        have hA2 := HA.out.only (F := []) (Only.of_below hkk) (by simp)
        exact ⟨hA2.cell 0, hA2.cell 1, hA2.cell 2, hA2.cell 3, hA2.cell 4, htW.below hkk (by omega), hkk⟩
      have hdr : Below W.heap.size W W.drew := (Below.refl _ _).drew
      go_region_held3 (fun V => V.cell? ⟨w.heap.size, 0, none⟩ = some (.int .i32 r) ∧ V.cell? ⟨w.heap.size, 1, none⟩ = some (.int .i64 wd) ∧ V.cell? ⟨w.heap.size, 2, none⟩ = some (.int .i64 s1) ∧ V.cell? ⟨w.heap.size, 3, none⟩ = some (.int .i64 s2) ∧ V.cell? ⟨w.heap.size, 4, none⟩ = some (.int .i64 s3) ∧ Tabs B V ∧ Below W.heap.size W V)
        (first
          | (refine SS _ ?_; assumption)
          | fail)
        (first
          | (go_at_call 58; obtain ⟨_, _, _, _, _, kt, k3⟩ := (by assumption : _ ∧ _ ∧ _ ∧ _ ∧ _ ∧ Tabs B _ ∧ Below W.heap.size W _); refine (hwd _ kt).mono ?_; rintro _ w2 ⟨rfl, hb2⟩; have hbx := k3.trans (hb2.mono k3.size))
          | (go_at_call 59; obtain ⟨_, _, _, _, _, kt4, k4⟩ := (by assumption : _ ∧ _ ∧ _ ∧ _ ∧ _ ∧ Tabs B _ ∧ Below W.heap.size W _); refine (hrt _).mono ?_; rintro _ w3 ⟨rfl, hb3⟩; have hby := k4.trans (hb3.mono k4.size)))
      all_goals go_wp2_with fail
      go_ret
      exact ⟨by simp, hb0.trans (hby.mono (by omega))⟩
    · obtain rfl : b = false := by rw [← hb]; simp [mayS, h2]
      have h3 : (wd == width r) = false := by simpa using h2
      have h4 : decide (wd = width r) = false := by simpa using h2
      generalize width r = wr at *
      clear hb hr0 hr1 hA
      go_enter Tryd.func36, Tryd.ntmps36
      go_wp2_with fail
      generalize w.alloc (.cells #[.int .i32 r, .int .i64 wd, .int .i64 s1, .int .i64 s2, .int .i64 s3] 35) = W at *
      have hdr : Below W.heap.size W W.drew := (Below.refl _ _).drew
      have SS : ∀ V, Below W.heap.size W V → (V.cell? ⟨w.heap.size, 0, none⟩ = some (.int .i32 r) ∧ V.cell? ⟨w.heap.size, 1, none⟩ = some (.int .i64 wd) ∧ Tabs B V ∧ Below W.heap.size W V) := fun V hkk => by
        have hA2 := HA.out.only (F := []) (Only.of_below hkk) (by simp)
        exact ⟨hA2.cell 0, hA2.cell 1, htW.below hkk (by omega), hkk⟩
      obtain ⟨c0, c1, htd, _⟩ := SS _ hdr
      first
        | go_region_with (go_at_call 58; refine (hwd _ htd).mono ?_; rintro _ w2 ⟨rfl, hb2⟩; have hbx := hdr.trans (hb2.mono hdr.size))
        | fail
      all_goals go_wp2_with fail
      all_goals (go_ret; exact ⟨by rfl, hb0.trans (hbx.mono (by omega))⟩)
  · obtain rfl : b = false := by rw [← hb]; simp [mayS, h1]
    have d : decide (0 < wd) = false := by simpa using h1
    clear hb hr0 hr1
    have hc0 := hA.cell 1
    go_enter Tryd.func36, Tryd.ntmps36
    go_wp2_with fail
    go_region
    all_goals go_wp2_with fail
    go_ret
    exact ⟨rfl, hb0.drew⟩
end Go.Proofs.YtgjlohplgpcghaaDoor.Grd
