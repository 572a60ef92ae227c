/- Layer 3 in plain words: colours' names, texts made small. No word of the model. -/
import Derived.Lib.ItoaNum
import Derived.Test.YtjklnnklgkihlaaGreatDoorPab
import Derived.Deep.DeepAppendWide
import Derived.Deep.AppendSrc
namespace Go.Proofs.YtjklnnklgkihlaaGreatDoor.Sty
abbrev Tx := List UInt8

def isCol (c : Int) : Bool := (decide (-1 ≤ c) && decide (c ≤ 255)) || (decide (16777216 ≤ c) && decide (c ≤ 33554431))
theorem isCol_iff (c : Int) : isCol c = true ↔ (-1 ≤ c ∧ c ≤ 255) ∨ (16777216 ≤ c ∧ c ≤ 33554431) := by
  unfold isCol; simp
theorem isCol_not (c : Int) : isCol c = false ↔ ¬ ((-1 ≤ c ∧ c ≤ 255) ∨ (16777216 ≤ c ∧ c ≤ 33554431)) := by
  rw [← isCol_iff]; simp

def tDefault : Tx := [100, 101, 102, 97, 117, 108, 116]
def tBright : Tx := [98, 114, 105, 103, 104, 116]
def tColour : Tx := [99, 111, 108, 111, 117, 114]
def tColor : Tx := [99, 111, 108, 111, 114]
def eight : List Tx := [[98, 108, 97, 99, 107], [114, 101, 100], [103, 114, 101, 101, 110], [121, 101, 108, 108, 111, 119], [98, 108, 117, 101], [109, 97, 103, 101, 110, 116, 97], [99, 121, 97, 110], [119, 104, 105, 116, 101]]
def words : List Tx := [[98, 111, 108, 100], [100, 105, 109], [105, 116, 97, 108, 105, 99, 115], [117, 110, 100, 101, 114, 115, 99, 111, 114, 101], [98, 108, 105, 110, 107], [114, 101, 118, 101, 114, 115, 101], [104, 105, 100, 100, 101, 110], [115, 116, 114, 105, 107, 101, 116, 104, 114, 111, 117, 103, 104]]

/-- The decimal digits of a number below a thousand. -/
def dec (n : Nat) : Tx :=
  if n < 10 then [UInt8.ofNat (48 + n)]
  else if n < 100 then [UInt8.ofNat (48 + n / 10), UInt8.ofNat (48 + n % 10)]
  else [UInt8.ofNat (48 + n / 100), UInt8.ofNat (48 + n / 10 % 10), UInt8.ofNat (48 + n % 10)]
theorem dec_digits (n : Nat) (h : n < 1000) : Lib.decDigits n = dec n := by
  unfold dec
  by_cases h1 : n < 10
  · rw [if_pos h1, Lib.decDigits, dif_pos h1]
  · rw [if_neg h1, Lib.decDigits, dif_neg h1]
    by_cases h2 : n < 100
    · rw [if_pos h2, Lib.decDigits, dif_pos (by omega)]; rfl
    · rw [if_neg h2, Lib.decDigits, dif_neg (by omega), Lib.decDigits, dif_pos (by omega)]
      have e : n / 10 / 10 = n / 100 := by omega
      rw [e]; rfl
theorem itoa_dec (n : Nat) (h : n < 1000) : Lib.itoa (n : Int) = dec n := by
  unfold Lib.itoa
  rw [if_neg (by omega)]
  exact dec_digits n h

/-- One digit to the base 16. -/
def hx (d : Nat) : UInt8 := UInt8.ofNat (if d < 10 then 48 + d else 87 + d)
/-- The k lowest digits to the base 16, the highest ahead. -/
def hexk : Nat → Nat → Tx
  | 0, _ => []
  | k + 1, n => hx (n / 16 ^ k % 16) :: hexk k n
theorem hexk_length (k n : Nat) : (hexk k n).length = k := by induction k with | zero => rfl | succ k ih => simp [hexk, ih]
theorem hexk_pad (n : Nat) : ∀ (j k : Nat), n < 16 ^ k → hexk (k + j) n = List.replicate j 48 ++ hexk k n
  | 0, k, _ => by simp
  | j + 1, k, h => by
    have e : k + (j + 1) = (k + j) + 1 := by omega
    have hp : n / 16 ^ (k + j) = 0 := Nat.div_eq_of_lt (Nat.lt_of_lt_of_le h (Nat.pow_le_pow_right (by omega) (by omega)))
    rw [e, hexk, hexk_pad n j k h, hp, List.replicate_succ]
    rfl

/-- The name of a colour; empty, if it is none. -/
def name (c : Int) : Tx :=
  if isCol c = false then []
  else if c = -1 then tDefault
  else if c < 8 then eight.getD c.toNat []
  else if c < 16 then tBright ++ eight.getD (c - 8).toNat []
  else if c ≤ 255 then tColour ++ dec c.toNat
  else 35 :: hexk 6 (c - 16777216).toNat

/-- A letter made small. -/
def lw (b : UInt8) : UInt8 := if 65 ≤ b.toNat ∧ b.toNat ≤ 90 then b + 32 else b
def low (l : Tx) : Tx := l.map lw

theorem name_no {c : Int} (h : isCol c = false) : name c = [] := by unfold name; rw [if_pos h]
theorem name_default : name (-1) = tDefault := by decide
theorem name_eight {c : Int} (h0 : 0 ≤ c) (h1 : c < 8) : name c = eight.getD c.toNat [] := by
  have h : ¬ isCol c = false := by rw [isCol_not]; omega
  unfold name; rw [if_neg h, if_neg (by omega), if_pos h1]
theorem name_bright {c : Int} (h0 : 8 ≤ c) (h1 : c < 16) : name c = tBright ++ eight.getD (c - 8).toNat [] := by
  have h : ¬ isCol c = false := by rw [isCol_not]; omega
  unfold name; rw [if_neg h, if_neg (by omega), if_neg (by omega), if_pos h1]
theorem name_num {c : Int} (h0 : 16 ≤ c) (h1 : c ≤ 255) : name c = tColour ++ dec c.toNat := by
  have h : ¬ isCol c = false := by rw [isCol_not]; omega
  unfold name; rw [if_neg h, if_neg (by omega), if_neg (by omega), if_neg (by omega), if_pos h1]
theorem name_rgb {c : Int} (h0 : 16777216 ≤ c) (h1 : c ≤ 33554431) : name c = 35 :: hexk 6 (c - 16777216).toNat := by
  have h : ¬ isCol c = false := by rw [isCol_not]; omega
  unfold name; rw [if_neg h, if_neg (by omega), if_neg (by omega), if_neg (by omega), if_neg (by omega)]
theorem eight_len (k : Nat) : (eight.getD k []).length ≤ 7 := by
  by_cases h : k < 8
  · have : ∀ k, k < 8 → (eight.getD k []).length ≤ 7 := by decide
    exact this k h
  · rw [List.getD_eq_getElem?_getD, List.getElem?_eq_none (by show 8 ≤ k; omega)]; decide
theorem dec_len (n : Nat) : (dec n).length ≤ 3 := by
  unfold dec; split
  · simp
  · split <;> simp
end Go.Proofs.YtjklnnklgkihlaaGreatDoor.Sty
/- A rune's width, as the program's table has it. -/
namespace Go.Proofs.YtjklnnklgkihlaaGreatDoor.Grd
open Go.RowKit Cel

theorem ret_int {k : IntKind} {a b : Int} (h : a = b) : Ending.returned (.int k a) = .returned (.int k b) := by rw [h]
def spanCells : Array Value := (spans.flatMap fun s => [Value.int .i32 s.1, Value.int .i32 s.2.1, Value.int .i64 s.2.2]).toArray
/-- The table of widths lies below block B. -/
structure Tabs (B : Nat) (w : World) : Prop where
  spans : ∃ t fr, w.heap[0]? = some (.cells spanCells t fr)
  low : 0 < B
theorem Tabs.below {B C : Nat} {w w' : World} (h : Tabs B w) (hb : Below C w w') (hC : B ≤ C) : Tabs B w' := by
  obtain ⟨t, fr, h1⟩ := h.spans
  exact ⟨⟨t, fr, (hb.block _ (by have := h.low; omega)).trans h1⟩, h.low⟩
theorem Tabs.only {B : Nat} {w w' : World} {F : List Nat} (h : Tabs B w) (ho : Only F w w') (hB : B ≤ w.heap.size) (hF : ∀ x ∈ F, B ≤ x) : Tabs B w' := h.below (ho.below hB hF) (Nat.le_refl _)

/-- A row of the table of widths, as it is taken out of the array. -/
theorem span_at (cs : Array Value) (hcs : cs = spanCells) (k : Nat) (hk : k < 18) : ∃ s : Int × Int × Int, spans[k]? = some s ∧ -1114112 ≤ s.1 ∧ s.1 ≤ 1114111 ∧ -1114112 ≤ s.2.1 ∧ s.2.1 ≤ 1114111 ∧ -1 ≤ s.2.2 ∧ s.2.2 ≤ 2 ∧
    ∀ w : World, (Instr.index 155 (.agg cs) (.int .i64 k)).run Tryz.prog w = .ok (.agg #[.int .i32 s.1, .int .i32 s.2.1, .int .i64 s.2.2]) w := by
  subst hcs
  match k, hk with
  | 0, _ => exact ⟨_, rfl, by decide, by decide, by decide, by decide, by decide, by decide, fun _ => by kernel_rfl⟩
  | 1, _ => exact ⟨_, rfl, by decide, by decide, by decide, by decide, by decide, by decide, fun _ => by kernel_rfl⟩
  | 2, _ => exact ⟨_, rfl, by decide, by decide, by decide, by decide, by decide, by decide, fun _ => by kernel_rfl⟩
  | 3, _ => exact ⟨_, rfl, by decide, by decide, by decide, by decide, by decide, by decide, fun _ => by kernel_rfl⟩
  | 4, _ => exact ⟨_, rfl, by decide, by decide, by decide, by decide, by decide, by decide, fun _ => by kernel_rfl⟩
  | 5, _ => exact ⟨_, rfl, by decide, by decide, by decide, by decide, by decide, by decide, fun _ => by kernel_rfl⟩
  | 6, _ => exact ⟨_, rfl, by decide, by decide, by decide, by decide, by decide, by decide, fun _ => by kernel_rfl⟩
  | 7, _ => exact ⟨_, rfl, by decide, by decide, by decide, by decide, by decide, by decide, fun _ => by kernel_rfl⟩
  | 8, _ => exact ⟨_, rfl, by decide, by decide, by decide, by decide, by decide, by decide, fun _ => by kernel_rfl⟩
  | 9, _ => exact ⟨_, rfl, by decide, by decide, by decide, by decide, by decide, by decide, fun _ => by kernel_rfl⟩
  | 10, _ => exact ⟨_, rfl, by decide, by decide, by decide, by decide, by decide, by decide, fun _ => by kernel_rfl⟩
  | 11, _ => exact ⟨_, rfl, by decide, by decide, by decide, by decide, by decide, by decide, fun _ => by kernel_rfl⟩
  | 12, _ => exact ⟨_, rfl, by decide, by decide, by decide, by decide, by decide, by decide, fun _ => by kernel_rfl⟩
  | 13, _ => exact ⟨_, rfl, by decide, by decide, by decide, by decide, by decide, by decide, fun _ => by kernel_rfl⟩
  | 14, _ => exact ⟨_, rfl, by decide, by decide, by decide, by decide, by decide, by decide, fun _ => by kernel_rfl⟩
  | 15, _ => exact ⟨_, rfl, by decide, by decide, by decide, by decide, by decide, by decide, fun _ => by kernel_rfl⟩
  | 16, _ => exact ⟨_, rfl, by decide, by decide, by decide, by decide, by decide, by decide, fun _ => by kernel_rfl⟩
  | 17, _ => exact ⟨_, rfl, by decide, by decide, by decide, by decide, by decide, by decide, fun _ => by kernel_rfl⟩
  | k + 18, hk => exact absurd hk (by omega)

theorem look_drop (r : Int) (k : Nat) (s : Int × Int × Int) (h : spans[k]? = some s) : Cel.look (spans.drop k) r = if s.1 ≤ r ∧ r ≤ s.2.1 then s.2.2 else Cel.look (spans.drop (k + 1)) r := by
  obtain ⟨hk, e⟩ := List.getElem?_eq_some_iff.1 h
  rw [List.drop_eq_getElem_cons hk, e]
  rfl

set_option maxRecDepth 100000 in
set_option maxHeartbeats 400000 in
theorem width_any (r : Int) (w : World) {B : Nat} (ht : Tabs B w) (hr0 : -2147483648 ≤ r) (hr1 : r ≤ 2147483647) :
    Calls Tryz.prog 78 #[.int .i32 r] w fun e w' => e = .returned (.int .i64 (width r)) ∧ Below w.heap.size w w' := by
  by_cases h : r < 32 ∨ 1114111 < r
  · have HW : Hid (width r = -1) := by show _ = _; unfold width; rw [if_pos h]
    rcases h with h | h
    · go_enter Tryz.func78, Tryz.ntmps78
      go_wp2
      go_ret
      exact ⟨ret_int HW.out.symm, Below.refl _ _⟩
    · have h2 : ¬ r < 32 := by omega
      go_enter Tryz.func78, Tryz.ntmps78
      go_wp2
      go_ret
      exact ⟨ret_int HW.out.symm, Below.refl _ _⟩
  · have h1 : ¬ r < 32 := by omega
    have h2 : ¬ 1114111 < r := by omega
    have HW : Hid (width r = Cel.look spans r) := by show _ = _; unfold width; rw [if_neg h]
    clear h
    obtain ⟨t, fr, hg⟩ := ht.spans
    obtain ⟨cs, hcs⟩ : ∃ cs, cs = spanCells := ⟨_, rfl⟩
    rw [← hcs] at hg
    have HS : Hid ((Tryz.prog.info? 155).map (·.size) = some cs.size) := by rw [hcs]; show _ = _; kernel_rfl
    have HA : Hid (∀ k : Nat, k < 18 → _) := span_at cs hcs
    clear hcs
    go_enter Tryz.func78, Tryz.ntmps78
    go_wp2_with (refine wpList_load_row rfl 155 _ rfl 0 rfl t cs fr _ hg Tryz.underlying155 rfl HS.out ?_)
    go_loopw [12] (fun i wr => ∃ k : Nat, k ≤ 18 ∧ i = .int .i64 k ∧ Hid (Cel.look (spans.drop k) r = Cel.look spans r) ∧ Below w.heap.size w wr) (fun i _ => 18 - (intOf i).toNat)
    case atStart => exact ⟨0, by omega, rfl, rfl, Below.refl _ _⟩
    case round =>
      obtain ⟨k, hk, rfl, HL, hb⟩ := hrel
      have hbs := hb.size
      by_cases hlt : k < 18
      · obtain ⟨s, hs, b1, b2, b3, b4, b5, b6, hidx⟩ := HA.out k hlt
        have HD := Lib.hid (look_drop r k s hs)
        clear hs
        obtain ⟨s1, s2, s3⟩ := s
        simp only at b1 b2 b3 b4 b5 b6 hidx
        by_cases c1 : s1 ≤ r
        · by_cases c2 : r ≤ s2
          · have HV : Hid (width r = s3) := by show _ = _; rw [HW.out, ← HL.out, HD.out, if_pos ⟨c1, c2⟩]
            go_wp2
            go_ret
            exact ⟨ret_int HV.out.symm, hb.alloc hbs _⟩
          · have HV : Hid (Cel.look (spans.drop (k + 1)) r = Cel.look spans r) := by show _ = _; rw [← HL.out, HD.out, if_neg (by simp only; omega)]
            go_wp2
            go_roundw
            case rel => exact ⟨k + 1, by omega, by go_num, HV, hb.alloc hbs _⟩
            case measure => simp [intOf]; omega
        · have HV : Hid (Cel.look (spans.drop (k + 1)) r = Cel.look spans r) := by show _ = _; rw [← HL.out, HD.out, if_neg (by simp only; omega)]
          go_wp2
          go_roundw
          case rel => exact ⟨k + 1, by omega, by go_num, HV, hb.alloc hbs _⟩
          case measure => simp [intOf]; omega
      · have HV : Hid (width r = 1) := by
          have e : k = 18 := by omega
          show _ = _
          rw [HW.out, ← HL.out, e]
          rfl
        go_wp2
        go_ret
        exact ⟨ret_int HV.out.symm, hb⟩

end Go.Proofs.YtjklnnklgkihlaaGreatDoor.Grd
/- What a right look is; which cells may be put. -/
namespace Go.Proofs.YtjklnnklgkihlaaGreatDoor.Grd
open Go.RowKit Sty

theorem col_cases (c : Int) : c < -1 ∨ (-1 ≤ c ∧ c ≤ 255) ∨ (255 < c ∧ c < 16777216) ∨ (16777216 ≤ c ∧ c ≤ 33554431) ∨ 33554431 < c := by omega

theorem isColour_any (c : Int) (b : Bool) (hb : isCol c = b) (w : World) :
    Calls Tryz.prog 23 #[.int .i64 c] w fun e w' => e = .returned (.bool b) ∧ w = w' := by
  subst hb
  rcases col_cases c with h | ⟨h1, h2⟩ | ⟨h1, h2⟩ | ⟨h1, h2⟩ | h
  · rw [(isCol_not c).2 (by omega)]
    have d1 : decide ((-1 : Int) ≤ c) = false := by simpa using h
    have d2 : decide ((16777216 : Int) ≤ c) = false := by simp; omega
    go_enter Tryz.func23, Tryz.ntmps23
    go_wp2
    go_ret
    exact ⟨rfl, rfl⟩
  · rw [(isCol_iff c).2 (by omega)]
    go_enter Tryz.func23, Tryz.ntmps23
    go_wp2
    go_ret
    exact ⟨rfl, rfl⟩
  · rw [(isCol_not c).2 (by omega)]
    have d0 : decide ((-1 : Int) ≤ c) = true := by simp; omega
    have d1 : decide (c ≤ 255) = false := by simpa using h1
    have d2 : decide ((16777216 : Int) ≤ c) = false := by simpa using h2
    go_enter Tryz.func23, Tryz.ntmps23
    go_wp2
    go_ret
    exact ⟨rfl, rfl⟩
  · rw [(isCol_iff c).2 (by omega)]
    have d0 : decide ((-1 : Int) ≤ c) = true := by simp; omega
    have d1 : decide (c ≤ 255) = false := by simp; omega
    go_enter Tryz.func23, Tryz.ntmps23
    go_wp2
    go_ret
    exact ⟨rfl, rfl⟩
  · rw [(isCol_not c).2 (by omega)]
    have d0 : decide ((-1 : Int) ≤ c) = true := by simp; omega
    have d1 : decide (c ≤ 255) = false := by simp; omega
    have d2 : decide ((16777216 : Int) ≤ c) = true := by simp; omega
    have d3 : decide (c ≤ 33554431) = false := by simpa using h
    go_enter Tryz.func23, Tryz.ntmps23
    go_wp2
    go_ret
    exact ⟨rfl, rfl⟩

/-- A right look. -/
def rightS (fg bg at_ : Int) : Bool := isCol fg && (isCol bg && (decide (0 ≤ at_) && decide (at_ ≤ 255)))

/-- The ways in which a look can be right or not. -/
theorem right_cases (fg bg at_ : Int) (P : Bool → Prop)
    (h0 : isCol fg = false → P false) (h1 : isCol fg = true → isCol bg = false → P false) (h2 : isCol fg = true → isCol bg = true → at_ < 0 → P false)
    (h3 : isCol fg = true → isCol bg = true → 0 ≤ at_ → 255 < at_ → P false) (h4 : isCol fg = true → isCol bg = true → 0 ≤ at_ → at_ ≤ 255 → P true) : P (rightS fg bg at_) := by
  unfold rightS
  cases f : isCol fg
  · exact h0 f
  · cases b : isCol bg
    · exact h1 f b
    · by_cases a0 : 0 ≤ at_
      · by_cases a1 : at_ ≤ 255
        · have := h4 f b a0 a1
          simpa [a0, a1] using this
        · have := h3 f b a0 (by omega)
          simpa [a0, a1] using this
      · have := h2 f b (by omega)
        simpa [a0] using this

theorem right_any (fg bg at_ : Int) (b : Bool) (hb : rightS fg bg at_ = b) (w : World) :
    Calls Tryz.prog 7 #[.agg #[.int .i64 fg, .int .i64 bg, .int .i64 at_]] w fun e w' => e = .returned (.bool b) ∧ Below w.heap.size w w' := by
  subst hb
  refine right_cases fg bg at_ (fun b => Calls Tryz.prog 7 #[.agg #[.int .i64 fg, .int .i64 bg, .int .i64 at_]] w fun e w' => e = .returned (.bool b) ∧ Below w.heap.size w w') ?_ ?_ ?_ ?_ ?_
  · intro h1
    have c1 := fun w => isColour_any fg _ h1 w
    clear h1
    go_enter Tryz.func7, Tryz.ntmps7
    go_wp2_with (go_at_call 23; (first | (with_reducible refine (c1 _).mono ?_) | (with_reducible refine (c2 _).mono ?_)); rintro e w' ⟨rfl, rfl⟩)
    go_ret
    exact ⟨rfl, (Below.refl _ _).alloc (Nat.le_refl _) _⟩
  · intro h1 h2
    have c1 := fun w => isColour_any fg _ h1 w
    have c2 := fun w => isColour_any bg _ h2 w
    clear h1 h2
    go_enter Tryz.func7, Tryz.ntmps7
    go_wp2_with (go_at_call 23; (first | (with_reducible refine (c1 _).mono ?_) | (with_reducible refine (c2 _).mono ?_)); rintro e w' ⟨rfl, rfl⟩)
    go_ret
    exact ⟨rfl, (Below.refl _ _).alloc (Nat.le_refl _) _⟩
  · intro h1 h2 h3
    have c1 := fun w => isColour_any fg _ h1 w
    have c2 := fun w => isColour_any bg _ h2 w
    have d2 : decide (0 ≤ at_) = false := by simpa using h3
    clear h1 h2
    go_enter Tryz.func7, Tryz.ntmps7
    go_wp2_with (go_at_call 23; (first | (with_reducible refine (c1 _).mono ?_) | (with_reducible refine (c2 _).mono ?_)); rintro e w' ⟨rfl, rfl⟩)
    go_ret
    exact ⟨rfl, (Below.refl _ _).alloc (Nat.le_refl _) _⟩
  · intro h1 h2 h3 h4
    have c1 := fun w => isColour_any fg _ h1 w
    have c2 := fun w => isColour_any bg _ h2 w
    have d2 : decide (0 ≤ at_) = true := by simpa using h3
    have d3 : decide (at_ ≤ 255) = false := by simpa using h4
    clear h1 h2
    go_enter Tryz.func7, Tryz.ntmps7
    go_wp2_with (go_at_call 23; (first | (with_reducible refine (c1 _).mono ?_) | (with_reducible refine (c2 _).mono ?_)); rintro e w' ⟨rfl, rfl⟩)
    go_ret
    exact ⟨rfl, (Below.refl _ _).alloc (Nat.le_refl _) _⟩
  · intro h1 h2 h3 h4
    have c1 := fun w => isColour_any fg _ h1 w
    have c2 := fun w => isColour_any bg _ h2 w
    have d2 : decide (0 ≤ at_) = true := by simpa using h3
    have d3 : decide (at_ ≤ 255) = true := by simpa using h4
    clear h1 h2
    go_enter Tryz.func7, Tryz.ntmps7
    go_wp2_with (go_at_call 23; (first | (with_reducible refine (c1 _).mono ?_) | (with_reducible refine (c2 _).mono ?_)); rintro e w' ⟨rfl, rfl⟩)
    go_ret
    exact ⟨rfl, (Below.refl _ _).alloc (Nat.le_refl _) _⟩

end Go.Proofs.YtjklnnklgkihlaaGreatDoor.Grd
/- Which cells may be put. -/
namespace Go.Proofs.YtjklnnklgkihlaaGreatDoor.Grd
open Go.RowKit Cel Sty

def mayS (r wd s1 s2 s3 : Int) : Bool := decide (0 < wd) && (decide (wd = width r) && rightS s1 s2 s3)
set_option maxRecDepth 100000 in
set_option maxHeartbeats 1000000 in
theorem mayBePut_any {B : Nat} (r wd s1 s2 s3 : Int) (hr0 : -2147483648 ≤ r) (hr1 : r ≤ 2147483647) (b : Bool) (hb : mayS r wd s1 s2 s3 = b) (w : World) (ht : Tabs B w) (hB : B ≤ w.heap.size) :
    Calls Tryz.prog 120 #[.agg #[.int .i32 r, .int .i64 wd, .int .i64 s1, .int .i64 s2, .int .i64 s3]] w fun e w' => e = .returned (.bool b) ∧ Below w.heap.size w w' := by
  have hA := BL.new w 81 [.int .i32 r, .int .i64 wd, .int .i64 s1, .int .i64 s2, .int .i64 s3]
  have hb0 : Below w.heap.size w (w.alloc (.cells #[.int .i32 r, .int .i64 wd, .int .i64 s1, .int .i64 s2, .int .i64 s3] 81)) := (Below.refl _ _).alloc (Nat.le_refl _) _
  have htW := ht.below hb0 hB
  have hAl := hA.lt
  have hwd := fun W ht => width_any (B := B) r W ht hr0 hr1
  have HA := Lib.hid hA
  have hWs := hb0.size
  by_cases h1 : 0 < wd
  · by_cases h2 : wd = width r
    · obtain rfl : rightS s1 s2 s3 = b := by rw [← hb]; simp [mayS, h1, ← h2]
      have hrt := fun W => right_any s1 s2 s3 _ rfl W
      generalize rightS s1 s2 s3 = b at *
      rw [← h2] at hwd
      clear hb h2 hr0 hr1 hA
      go_enter Tryz.func120, Tryz.ntmps120
      go_wp2_with fail
      generalize w.alloc (.cells #[.int .i32 r, .int .i64 wd, .int .i64 s1, .int .i64 s2, .int .i64 s3] 81) = W at *
      have SS : ∀ V, Below W.heap.size W V → (V.cell? ⟨w.heap.size, 0, none⟩ = some (.int .i32 r) ∧ V.cell? ⟨w.heap.size, 1, none⟩ = some (.int .i64 wd) ∧ V.cell? ⟨w.heap.size, 2, none⟩ = some (.int .i64 s1) ∧ V.cell? ⟨w.heap.size, 3, none⟩ = some (.int .i64 s2) ∧ V.cell? ⟨w.heap.size, 4, none⟩ = some (.int .i64 s3) ∧ Tabs B V ∧ Below W.heap.size W V) := fun V hkk => by
        have hA2 := HA.out.only (F := []) (Only.of_below hkk) (by simp)
        exact ⟨hA2.cell 0, hA2.cell 1, hA2.cell 2, hA2.cell 3, hA2.cell 4, htW.below hkk (by omega), hkk⟩
      have hdr : Below W.heap.size W W.drew := (Below.refl _ _).drew
      go_region_held3 (fun V => V.cell? ⟨w.heap.size, 0, none⟩ = some (.int .i32 r) ∧ V.cell? ⟨w.heap.size, 1, none⟩ = some (.int .i64 wd) ∧ V.cell? ⟨w.heap.size, 2, none⟩ = some (.int .i64 s1) ∧ V.cell? ⟨w.heap.size, 3, none⟩ = some (.int .i64 s2) ∧ V.cell? ⟨w.heap.size, 4, none⟩ = some (.int .i64 s3) ∧ Tabs B V ∧ Below W.heap.size W V)
        (first
          | (refine SS _ ?_; assumption)
          | fail)
        (first
          | (go_at_call 78; obtain ⟨_, _, _, _, _, kt, k3⟩ := (by assumption : _ ∧ _ ∧ _ ∧ _ ∧ _ ∧ Tabs B _ ∧ Below W.heap.size W _); refine (hwd _ kt).mono ?_; rintro _ w2 ⟨rfl, hb2⟩; have hbx := k3.trans (hb2.mono k3.size))
          | (go_at_call 7; obtain ⟨_, _, _, _, _, kt4, k4⟩ := (by assumption : _ ∧ _ ∧ _ ∧ _ ∧ _ ∧ Tabs B _ ∧ Below W.heap.size W _); refine (hrt _).mono ?_; rintro _ w3 ⟨rfl, hb3⟩; have hby := k4.trans (hb3.mono k4.size)))
      all_goals go_wp2_with fail
      go_ret
      exact ⟨by simp, hb0.trans (hby.mono (by omega))⟩
    · obtain rfl : b = false := by rw [← hb]; simp [mayS, h2]
      have h3 : (wd == width r) = false := by simpa using h2
      have h4 : decide (wd = width r) = false := by simpa using h2
      generalize width r = wr at *
      clear hb hr0 hr1 hA
      go_enter Tryz.func120, Tryz.ntmps120
      go_wp2_with fail
      generalize w.alloc (.cells #[.int .i32 r, .int .i64 wd, .int .i64 s1, .int .i64 s2, .int .i64 s3] 81) = W at *
      have hdr : Below W.heap.size W W.drew := (Below.refl _ _).drew
      have SS : ∀ V, Below W.heap.size W V → (V.cell? ⟨w.heap.size, 0, none⟩ = some (.int .i32 r) ∧ V.cell? ⟨w.heap.size, 1, none⟩ = some (.int .i64 wd) ∧ Tabs B V ∧ Below W.heap.size W V) := fun V hkk => by
        have hA2 := HA.out.only (F := []) (Only.of_below hkk) (by simp)
        exact ⟨hA2.cell 0, hA2.cell 1, htW.below hkk (by omega), hkk⟩
      obtain ⟨c0, c1, htd, _⟩ := SS _ hdr
      first
        | go_region_with (go_at_call 78; refine (hwd _ htd).mono ?_; rintro _ w2 ⟨rfl, hb2⟩; have hbx := hdr.trans (hb2.mono hdr.size))
        | fail
      all_goals go_wp2_with fail
      all_goals (go_ret; exact ⟨by rfl, hb0.trans (hbx.mono (by omega))⟩)
  · obtain rfl : b = false := by rw [← hb]; simp [mayS, h1]
    have d : decide (0 < wd) = false := by simpa using h1
    clear hb hr0 hr1
    have hc0 := hA.cell 1
    go_enter Tryz.func120, Tryz.ntmps120
    go_wp2_with fail
    go_region
    all_goals go_wp2_with fail
    go_ret
    exact ⟨rfl, hb0.drew⟩
end Go.Proofs.YtjklnnklgkihlaaGreatDoor.Grd
/- A cell laid into a grid. -/
namespace Go.Proofs.YtjklnnklgkihlaaGreatDoor.Grd
open Go.RowKit Cel Sty

/-- A row with a cell laid at column x. -/
def putL (l : List Ce) (x : Nat) (c : Ce) : List Ce :=
  if c.2.1 = 2 then ((cutL (cutL l x) (x + 2)).set x c).set (x + 1) (0, 0, c.2.2) else (cutL (cutL l x) (x + 1)).set x c
theorem putL_len (l : List Ce) (x : Nat) (c : Ce) : (putL l x c).length = l.length := by
  unfold putL
  split
  · simp only [List.length_set, cutL_len]
  · simp only [List.length_set, cutL_len]
theorem rowsL_same {ms : List MR} {k : Nat} (hk : k < ms.length) {m : MR} (h : mrL m = mrL ms[k]) : rowsL (ms.set k m) = rowsL ms := by
  have h1 := rowsL_set hk m
  have h2 := rowsL_set hk ms[k]
  rw [h1, h, ← h2, List.set_getElem_self]
theorem GridAt.set_cells {w w' : World} {g s : Nat} {pv : Value} {fp : List Nat} {G : GS} (h : GridAt w g s pv fp G) {k : Nat} (hk : k < G.scr.length) {l : List Ce} (hl : l.length = G.cols)
    (hm : CellsAt w' G.scr[k].b l G.scr[k].cap) (ho : Only [G.scr[k].b] w w') : GridAt w' g s pv fp { G with scr := G.scr.set k { G.scr[k] with l := l } } := by
  have hmem : G.scr[k] ∈ G.past ++ G.scr := List.mem_append_right _ (List.getElem_mem hk)
  have hfar := h.far _ hmem
  simp only [List.mem_cons, not_or] at hfar
  refine h.set_row (m := { G.scr[k] with l := l }) hk rfl hl hm ho (by simp; exact fun e => hfar.1 e.symm) (fun x hx e => ?_) ?_ (fun x hx => .inr (by simpa using hx))
  · simp only [List.mem_cons, List.not_mem_nil, or_false] at e
    exact hfar.2.2 (e ▸ hx)
  · rw [rowsL_same hk (by unfold mrL; rw [show ({ G.scr[k] with l := l } : MR).l.length = G.scr[k].l.length from hl.trans (h.cells _ hmem).symm])]
    exact h.scr.only ho (by simp; exact fun e => hfar.2.1 e.symm)

set_option maxRecDepth 100000 in
set_option maxHeartbeats 2000000 in
theorem put_any {B : Nat} {w : World} {g s : Nat} {pv : Value} {fp : List Nat} {G : GS} (h : GridAt w g s pv fp G) (ht : Tabs B w) (hB : B ≤ w.heap.size) (x k : Nat) (hk : k < G.scr.length) (r wd s1 s2 s3 : Int) (hr0 : -2147483648 ≤ r) (hr1 : r ≤ 2147483647)
    (hmay : mayS r wd s1 s2 s3 = true) (hx : (x : Int) + wd ≤ (G.cols : Int)) :
    Calls Tryz.prog 83 #[.pointer (some ⟨g, 0, none⟩), .int .i64 (x : Int), .int .i64 (k : Int), .agg #[.int .i32 r, .int .i64 wd, .int .i64 s1, .int .i64 s2, .int .i64 s3]] w fun e w' => e = .returned (.tuple #[]) ∧
      GridAt w' g s pv fp { G with scr := G.scr.set k { G.scr[k] with l := putL G.scr[k].l x (r, wd, s1, s2, s3) } } ∧ Only [G.scr[k].b] w w' := by
  have hmem : G.scr[k] ∈ G.past ++ G.scr := List.mem_append_right _ (List.getElem_mem hk)
  have hcl := h.cells _ hmem
  have hc0 := h.held.at_ _ hmem
  have hfin := fun w' l => h.set_cells (w' := w') hk (l := l)
  have hfr := h.row_cells hk
  have hlt := h.held.lt hmem
  have hc1 := h.c1
  have hc2 := h.c2
  have hr2 := h.r2
  have hwd : wd = 1 ∨ wd = 2 := by
    have h1 : 0 < wd ∧ wd = width r := by unfold mayS at hmay; simp at hmay; exact ⟨hmay.1, hmay.2.1⟩
    have := width_bd r
    omega
  have hgl := h.blk.lt
  have hsl := h.scr.lt
  have hA := BL.new w 81 [.int .i32 r, .int .i64 wd, .int .i64 s1, .int .i64 s2, .int .i64 s3]
  have hb0 : Below w.heap.size w (w.alloc (.cells #[.int .i32 r, .int .i64 wd, .int .i64 s1, .int .i64 s2, .int .i64 s3] 81)) := (Below.refl _ _).alloc (Nat.le_refl _) _
  have hs0 := hb0.size
  have HA := Lib.hid hA
  have HG := Lib.hid (h.below hb0)
  have HT := Lib.hid (ht.below hb0 hB)
  have hAl := hA.lt
  have hsh := fun w h => shows_any (w := w) (g := g) (s := s) (pv := pv) (fp := fp) (G := G) h (k : Int) true (by simp; omega)
  have hmb := fun w ht hB => mayBePut_any (B := B) r wd s1 s2 s3 hr0 hr1 true hmay w ht hB
  clear hmay hr0 hr1 hA
  generalize hM : G.scr[k] = m at *
  have HC := Lib.hid hcl
  obtain ⟨n, hn⟩ : ∃ n, G.cols = n := ⟨_, rfl⟩
  rw [hn] at hx hcl hc1 hc2
  rcases hwd with rfl | rfl
  · have hx2 : x + 1 ≤ n := by omega
    have d1 : decide ((x : Int) < 0) = false := by simp
    have d2 : decide ((n : Int) - 1 < (x : Int)) = false := by simp; omega
    have d3 : (x : Int) ≤ (n : Int) - 1 := by omega
    have j1 : IntKind.i64.wrap ((n : Int) - 1) = (n : Int) - 1 := IntWalk.i64_in _ ⟨by omega, by omega⟩
    have hcap := hc0.1
    have cu1 := fun w h => cut_any m.b m.cap m.cap x m.l w h (by omega) hcap (by omega)
    have cu2 := fun w h => cut_any m.b m.cap m.cap (x + 1) (cutL m.l x) w h (by rw [cutL_len]; omega) (by rw [cutL_len]; exact hcap) (by omega)
    have e2 : ((x + 1 : Nat) : Int) = (x : Int) + 1 := by omega
    rw [cutL_len, e2] at cu2
    clear e2
    rw [hcl] at cu1 cu2
    have hPUT : Hid (putL m.l x (r, 1, s1, s2, s3) = (cutL (cutL m.l x) (x + 1)).set x (r, 1, s1, s2, s3)) := by show _ = _; unfold putL; rw [if_neg (by simp)]
    go_enter Tryz.func83, Tryz.ntmps83
    go_wp2_with fail
    generalize w.alloc (.cells #[.int .i32 r, .int .i64 1, .int .i64 s1, .int .i64 s2, .int .i64 s3] 81) = W at *
    go_cut [32] (fun s32 wx => s32 = .bool false ∧ Below W.heap.size W wx)
    case first =>
      have SS : ∀ V, Below W.heap.size W V → (V.cell? ⟨w.heap.size, 0, none⟩ = some (.int .i32 r) ∧ V.cell? ⟨w.heap.size, 1, none⟩ = some (.int .i64 1) ∧ V.cell? ⟨w.heap.size, 2, none⟩ = some (.int .i64 s1) ∧ V.cell? ⟨w.heap.size, 3, none⟩ = some (.int .i64 s2) ∧ V.cell? ⟨w.heap.size, 4, none⟩ = some (.int .i64 s3) ∧ V.cell? ⟨g, 0, none⟩ = some (.int .i64 (n : Int)) ∧ GridAt V g s pv fp G ∧ Tabs B V ∧ Below W.heap.size W V) := fun V hkk => by
        have hA2 := HA.out.only (F := []) (Only.of_below hkk) (by simp)
        have hG2 := HG.out.below hkk
        exact ⟨hA2.cell 0, hA2.cell 1, hA2.cell 2, hA2.cell 3, hA2.cell 4, by rw [← hn]; exact hG2.f0, hG2, HT.out.below hkk (by omega), hkk⟩
      have hdr : Below W.heap.size W W.drew := (Below.refl _ _).drew
      have HX := Lib.hid hn
      clear hn
      go_region_held3 (fun V => V.cell? ⟨w.heap.size, 0, none⟩ = some (.int .i32 r) ∧ V.cell? ⟨w.heap.size, 1, none⟩ = some (.int .i64 1) ∧ V.cell? ⟨w.heap.size, 2, none⟩ = some (.int .i64 s1) ∧ V.cell? ⟨w.heap.size, 3, none⟩ = some (.int .i64 s2) ∧ V.cell? ⟨w.heap.size, 4, none⟩ = some (.int .i64 s3) ∧ V.cell? ⟨g, 0, none⟩ = some (.int .i64 (n : Int)) ∧ GridAt V g s pv fp G ∧ Tabs B V ∧ Below W.heap.size W V)
        (first
          | (refine SS _ ?_; assumption)
          | fail)
        (first
          | (go_at_call 119; obtain ⟨_, _, _, _, _, _, kg, _, k2⟩ := (by assumption : _ ∧ _ ∧ _ ∧ _ ∧ _ ∧ _ ∧ GridAt _ g s pv fp G ∧ Tabs B _ ∧ Below W.heap.size W _); refine (hsh _ kg).mono ?_; rintro _ w2 ⟨rfl, rfl⟩)
          | (go_at_call 120; obtain ⟨_, _, _, _, _, _, _, kt, k3⟩ := (by assumption : _ ∧ _ ∧ _ ∧ _ ∧ _ ∧ _ ∧ GridAt _ g s pv fp G ∧ Tabs B _ ∧ Below W.heap.size W _); refine (hmb _ kt (by have := k3.size; omega)).mono ?_; rintro _ w3 ⟨rfl, hb3⟩; have hby := k3.trans (hb3.mono k3.size)))
      all_goals go_wp2_with fail
      all_goals go_meet
      all_goals exact ⟨rfl, hby⟩
    case rest =>
      obtain ⟨rfl, hb1⟩ := hcut
      have hG1 := HG.out.below hb1
      have hA1 := HA.out.only (F := []) (Only.of_below hb1) (by simp)
      have hbw := hb0.trans (hb1.mono hs0)
      have hcm := hc0.only (F := []) (Only.of_below hbw) (by simp)
      have g3 := hG1.f3
      obtain ⟨q0, _⟩ := hG1.row_cells hk
      rw [hM] at q0
      have a1 := hA1.cell 1
      have hxl : x < (cutL (cutL m.l x) (x + 1)).length := by simp only [cutL_len]; omega
      clear hG1 HG HT hsh hmb hfr hn hb0
      go_wp2_with fail
      with_reducible refine (cu1 _ hcm).mono ?_
      rintro _ w2 ⟨rfl, hc2, ho2⟩
      have hA2 := hA1.only ho2 (by simp; omega)
      have a2 := hA2.cell 1
      have how := (Only.of_below (F := [m.b]) hbw).trans ho2
      clear hA1 a1 hcm cu1 q0 g3
      go_wp2_with fail
      with_reducible refine (cu2 _ hc2).mono ?_
      rintro _ w3 ⟨rfl, hc3, ho3⟩
      have hA3 := hA2.only ho3 (by simp; omega)
      have a3 := hA3.cell 1
      have how3 := how.trans ho3
      clear hA2 a2 hc2 cu2
      go_wp2_with (first
        | (refine wpList_load_row rfl 81 _ rfl w.heap.size rfl _ _ _ _ hA3 Tryz.underlying81 rfl (by kernel_rfl) ?_)
        | (refine wpList_store_cell rfl (.tmp 53) (.tmp 52) rfl m.b _ x m.cap _ _ _ _ _ _ rfl rfl hc3 hxl (by omega) ?_; intro w4 hc4 hw4; have hA4 := hA3.only hw4.only (by simp; omega); have a4 := hA4.cell 1))
      have how4 := hw4.2 _ _ how3 (.inl (by simp))
      exact body_end rfl rfl ⟨rfl, hfin _ _ (by rw [putL_len]; exact HC.out) (by rw [hPUT.out]; exact hc4) how4, how4⟩
  · have hx2 : x + 2 ≤ n := by omega
    have d1 : decide ((x : Int) < 0) = false := by simp
    have d2 : decide ((n : Int) - 2 < (x : Int)) = false := by simp; omega
    have d3 : (x : Int) ≤ (n : Int) - 2 := by omega
    have j1 : IntKind.i64.wrap ((n : Int) - 2) = (n : Int) - 2 := IntWalk.i64_in _ ⟨by omega, by omega⟩
    have hcap := hc0.1
    have j3 : (0 : Int) ≤ (x : Int) + 1 := by omega
    have j4 : (x : Int) + 1 < (n : Int) := by omega
    have cu1 := fun w h => cut_any m.b m.cap m.cap x m.l w h (by omega) hcap (by omega)
    have cu2 := fun w h => cut_any m.b m.cap m.cap (x + 2) (cutL m.l x) w h (by rw [cutL_len]; omega) (by rw [cutL_len]; exact hcap) (by omega)
    have e2 : ((x + 2 : Nat) : Int) = (x : Int) + 2 := by omega
    rw [cutL_len, e2] at cu2
    clear e2
    rw [hcl] at cu1 cu2
    have hPUT : Hid (putL m.l x (r, 2, s1, s2, s3) = ((cutL (cutL m.l x) (x + 2)).set x (r, 2, s1, s2, s3)).set (x + 1) (0, 0, s1, s2, s3)) := by show _ = _; unfold putL; rw [if_pos rfl]
    go_enter Tryz.func83, Tryz.ntmps83
    go_wp2_with fail
    generalize w.alloc (.cells #[.int .i32 r, .int .i64 2, .int .i64 s1, .int .i64 s2, .int .i64 s3] 81) = W at *
    go_cut [32] (fun s32 wx => s32 = .bool false ∧ Below W.heap.size W wx)
    case first =>
      have SS : ∀ V, Below W.heap.size W V → (V.cell? ⟨w.heap.size, 0, none⟩ = some (.int .i32 r) ∧ V.cell? ⟨w.heap.size, 1, none⟩ = some (.int .i64 2) ∧ V.cell? ⟨w.heap.size, 2, none⟩ = some (.int .i64 s1) ∧ V.cell? ⟨w.heap.size, 3, none⟩ = some (.int .i64 s2) ∧ V.cell? ⟨w.heap.size, 4, none⟩ = some (.int .i64 s3) ∧ V.cell? ⟨g, 0, none⟩ = some (.int .i64 (n : Int)) ∧ GridAt V g s pv fp G ∧ Tabs B V ∧ Below W.heap.size W V) := fun V hkk => by
        have hA2 := HA.out.only (F := []) (Only.of_below hkk) (by simp)
        have hG2 := HG.out.below hkk
        exact ⟨hA2.cell 0, hA2.cell 1, hA2.cell 2, hA2.cell 3, hA2.cell 4, by rw [← hn]; exact hG2.f0, hG2, HT.out.below hkk (by omega), hkk⟩
      have hdr : Below W.heap.size W W.drew := (Below.refl _ _).drew
      have HX := Lib.hid hn
      clear hn
      go_region_held3 (fun V => V.cell? ⟨w.heap.size, 0, none⟩ = some (.int .i32 r) ∧ V.cell? ⟨w.heap.size, 1, none⟩ = some (.int .i64 2) ∧ V.cell? ⟨w.heap.size, 2, none⟩ = some (.int .i64 s1) ∧ V.cell? ⟨w.heap.size, 3, none⟩ = some (.int .i64 s2) ∧ V.cell? ⟨w.heap.size, 4, none⟩ = some (.int .i64 s3) ∧ V.cell? ⟨g, 0, none⟩ = some (.int .i64 (n : Int)) ∧ GridAt V g s pv fp G ∧ Tabs B V ∧ Below W.heap.size W V)
        (first
          | (refine SS _ ?_; assumption)
          | fail)
        (first
          | (go_at_call 119; obtain ⟨_, _, _, _, _, _, kg, _, k2⟩ := (by assumption : _ ∧ _ ∧ _ ∧ _ ∧ _ ∧ _ ∧ GridAt _ g s pv fp G ∧ Tabs B _ ∧ Below W.heap.size W _); refine (hsh _ kg).mono ?_; rintro _ w2 ⟨rfl, rfl⟩)
          | (go_at_call 120; obtain ⟨_, _, _, _, _, _, _, kt, k3⟩ := (by assumption : _ ∧ _ ∧ _ ∧ _ ∧ _ ∧ _ ∧ GridAt _ g s pv fp G ∧ Tabs B _ ∧ Below W.heap.size W _); refine (hmb _ kt (by have := k3.size; omega)).mono ?_; rintro _ w3 ⟨rfl, hb3⟩; have hby := k3.trans (hb3.mono k3.size)))
      all_goals go_wp2_with fail
      all_goals go_meet
      all_goals exact ⟨rfl, hby⟩
    case rest =>
      obtain ⟨rfl, hb1⟩ := hcut
      have hG1 := HG.out.below hb1
      have hA1 := HA.out.only (F := []) (Only.of_below hb1) (by simp)
      have hbw := hb0.trans (hb1.mono hs0)
      have hcm := hc0.only (F := []) (Only.of_below hbw) (by simp)
      have g3 := hG1.f3
      obtain ⟨q0, _⟩ := hG1.row_cells hk
      rw [hM] at q0
      have a1 := hA1.cell 1
      have hxl : x < (cutL (cutL m.l x) (x + 2)).length := by simp only [cutL_len]; omega
      have hxl2 : x + 1 < (cutL (cutL m.l x) (x + 2)).length := by simp only [cutL_len]; omega
      clear hG1 HG HT hsh hmb hfr hn hb0
      go_wp2_with fail
      with_reducible refine (cu1 _ hcm).mono ?_
      rintro _ w2 ⟨rfl, hc2, ho2⟩
      have hA2 := hA1.only ho2 (by simp; omega)
      have a2 := hA2.cell 1
      have how := (Only.of_below (F := [m.b]) hbw).trans ho2
      clear hA1 a1 hcm cu1 q0 g3
      go_wp2_with fail
      with_reducible refine (cu2 _ hc2).mono ?_
      rintro _ w3 ⟨rfl, hc3, ho3⟩
      have hA3 := hA2.only ho3 (by simp; omega)
      have a3 := hA3.cell 1
      have how3 := how.trans ho3
      clear hA2 a2 hc2 cu2
      go_wp2_with (first
        | (refine wpList_load_row rfl 81 _ rfl w.heap.size rfl _ _ _ _ hA3 Tryz.underlying81 rfl (by kernel_rfl) ?_)
        | (refine wpList_store_cell rfl (.tmp 53) (.tmp 52) rfl m.b _ x m.cap _ _ _ _ _ _ rfl rfl hc3 hxl (by omega) ?_; intro w4 hc4 hw4; have hA4 := hA3.only hw4.only (by simp; omega); have a4 := hA4.cell 1; have a42 := hA4.cell 2; have a43 := hA4.cell 3; have a44 := hA4.cell 4; have how4 := hw4.2 _ _ how3 (.inl (by simp)))
        | (go_at_call 121; refine (padding_any _ _ _ _).mono ?_; rintro _ w5 ⟨rfl, hb5⟩; have hc5 := hc4.only (F := []) (Only.of_below hb5) (by simp); have how5 := how4.trans (Only.of_below hb5))
        | (refine wpList_store_cell rfl (.tmp 63) (.tmp 62) rfl m.b _ (x + 1) m.cap _ _ _ _ _ _ rfl rfl hc5 (by rw [List.length_set]; omega) (by omega) ?_; intro w6 hc6 hw6))
      have how6 := hw6.2 _ _ how5 (.inl (by simp))
      exact body_end rfl rfl ⟨rfl, hfin _ _ (by rw [putL_len]; exact HC.out) (by rw [hPUT.out]; exact hc6) how6, how6⟩
end Go.Proofs.YtjklnnklgkihlaaGreatDoor.Grd
/- The rows from one to another one. -/
namespace Go.Proofs.YtjklnnklgkihlaaGreatDoor.Grd
open Go.RowKit Cel Sty

set_option maxRecDepth 100000 in
set_option maxHeartbeats 1000000 in
theorem region_any {w : World} {g s : Nat} {pv : Value} {fp : List Nat} {G : GS} (h : GridAt w g s pv fp G) (top bottom q : Nat) (htb : top ≤ bottom) (hbr : bottom < G.scr.length) (n : Int) (hn : 1 ≤ n) (hq : (q : Int) = min n ((bottom : Int) + 1 - (top : Int)))
    (s1 s2 s3 : Int) (hst : rightS s1 s2 s3 = true) :
    Calls Tryz.prog 202 #[.pointer (some ⟨g, 0, none⟩), .int .i64 (top : Int), .int .i64 (bottom : Int), .int .i64 n, .agg #[.int .i64 s1, .int .i64 s2, .int .i64 s3]] w fun e w' => e = .returned (.tuple #[.slice (some ⟨s, top * 2, none⟩) (bottom + 1 - top) (G.scr.length - top), .int .i64 (q : Int)]) ∧ Below w.heap.size w w' := by
  have h3 := h.f3
  have hr2 := h.r2
  have hgl := h.blk.lt
  have hrt := fun w => right_any s1 s2 s3 _ hst w
  have hA := BL.new w 23 [.int .i64 s1, .int .i64 s2, .int .i64 s3]
  have a0 := hA.cell 0
  have a1 := hA.cell 1
  have a2 := hA.cell 2
  have hb0 : Below w.heap.size w (w.alloc (.cells #[.int .i64 s1, .int .i64 s2, .int .i64 s3] 23)) := (Below.refl _ _).alloc (Nat.le_refl _) _
  have hs0 := hb0.size
  obtain ⟨r, hr⟩ : ∃ r, G.scr.length = r := ⟨_, rfl⟩
  rw [hr] at h3 hr2 hbr ⊢
  clear hr h hst
  have HQ := Lib.hid hq
  clear hq
  have d1 : decide ((top : Int) < 0) = false := by simp
  have d2 : decide ((bottom : Int) < (top : Int)) = false := by simp; omega
  have d3 : decide ((r : Int) ≤ (bottom : Int)) = false := by simp; omega
  have d4 : decide (n < 1) = false := by simp; omega
  have i0 : (0 : Int) ≤ (top : Int) := Int.natCast_nonneg _
  have i1 : (top : Int) ≤ (bottom : Int) + 1 := by omega
  have i2 : (bottom : Int) + 1 ≤ (r : Int) := by omega
  have i3 : (0 : Int) ≤ (bottom : Int) + 1 := by omega
  have cy : ¬ r = top := by omega
  have j1 : IntKind.i64.wrap ((bottom : Int) + 1) = (bottom : Int) + 1 := IntWalk.i64_in _ ⟨by omega, by omega⟩
  have m1 : max ((bottom : Int) + 1) 0 = (bottom : Int) + 1 := by omega
  go_enter Tryz.func202, Tryz.ntmps202
  go_wp2_with (go_at_call 7; refine (hrt _).mono ?_; rintro _ w1 ⟨rfl, hb1⟩; have hbw := hb0.trans (hb1.mono hs0); have g3 : w1.cell? ⟨g, 3, none⟩ = some (.slice (some ⟨s, 0, none⟩) r r) := (hbw.cell (p := ⟨g, 3, none⟩) hgl).trans h3)
  all_goals
    go_ret2
    refine ⟨?_, hbw⟩
    have e := HQ.out
    first
      | (have e2 : n = (q : Int) := by omega
         rw [← e2]; rfl)
      | (have e2 : ((bottom + 1 - top : Nat) : Int) = (q : Int) := by omega
         rw [← e2]; rfl)
end Go.Proofs.YtjklnnklgkihlaaGreatDoor.Grd
/- Rows put behind those of a table. -/
namespace Go.Proofs.YtjklnnklgkihlaaGreatDoor.Grd
open Go.RowKit

theorem one_rows (ms : List MR) : ∀ u ∈ rowsL ms, u.oneCell' = true := by
  intro u hu
  unfold rowsL at hu
  obtain ⟨m, _, hc⟩ := List.mem_flatMap.1 hu
  unfold mrL at hc
  simp only [List.mem_cons, List.not_mem_nil, or_false] at hc
  rcases hc with rfl | rfl <;> rfl
theorem append_rows (w : World) {pv : Value} {past : List MR} {fp : List Nat} (ht : TabAt w pv past fp) (ty : TypeId) (a : Addr) (c : Nat) (new : List MR) (h0 : 0 < new.length) (hnews : ∀ j u, (rowsL new)[j]? = some u → w.cell? (a.add j) = some u) (hl : past.length + new.length ≤ 1000000) :
    ∃ v' w' fp', (Builtin.append_ #[70, 70] ty #[pv, .slice (some a) new.length c]).run Tryz.prog w = .ok v' w' ∧ TabAt w' v' (past ++ new) fp' ∧ (∀ x ∈ fp', x ∈ fp ∨ w.heap.size ≤ x) ∧ Only fp w w' := by
  have hi := info_row
  cases hq : Tryz.prog.info? 78 with
  | none => rw [hq] at hi; cases hi
  | some i =>
    rw [hq] at hi
    simp only [Option.map_some, Option.some.injEq, Prod.mk.injEq] at hi
    obtain ⟨hz, hsz, hby⟩ := hi
    have hnl := rowsL_len new
    have hmx : maxLen = 9223372036854775807 := rfl
    have hlen : (rowsL new).length = new.length * i.size := by rw [hsz]; omega
    have grown : ∀ (olds : List Value) (k old : Nat), olds.length = 2 * k → ∀ cap, k + new.length ≤ cap → BL (w.drew.alloc (.cells (olds.toArray ++ (rowsL new).toArray ++ Builtin.zeroCells (Value.cells (.agg #[.slice none 0 0, .bool false])) (cap - (k + new.length))) 78)) w.heap.size 78 (olds ++ rowsL new ++ (Builtin.zeroCells (Value.cells (.agg #[.slice none 0 0, .bool false])) (cap - (k + new.length))).toList) := by
      intro olds k old _ cap _
      generalize Builtin.zeroCells (Value.cells (.agg #[.slice none 0 0, .bool false])) (cap - (k + new.length)) = Z
      have e : olds.toArray ++ (rowsL new).toArray ++ Z = (olds ++ rowsL new ++ Z.toList).toArray := by apply Array.toList_inj.1; simp
      rw [e]
      exact BL.new w.drew 78 (olds ++ rowsL new ++ Z.toList)
    have hzl : ∀ n, (Builtin.zeroCells (Value.cells (.agg #[.slice none 0 0, .bool false])) n).toList.length = n * 2 := fun n => by
      have := size_zeroCells (Value.cells (.agg #[.slice none 0 0, .bool false])) n
      exact (Array.length_toList (xs := Builtin.zeroCells (Value.cells (.agg #[.slice none 0 0, .bool false])) n)).trans this
    have ho : ∀ o : Obj, Only fp w (w.drew.alloc o) := fun o => (Only.refl fp w).drew.alloc o
    rcases ht with ⟨rfl, rfl, rfl⟩ | ⟨p, off, cp, pre, tail, rfl, hc1, hc2, hpre, htl, hB, rfl⟩
    · have hr := run_append_nil (P := Tryz.prog) w 70 ty 78 i _ Tryz.underlying70 hq hz a new.length c (rowsL new) hlen hnews h0 (by omega) (by rw [hby]; omega)
      have hge := grownCap_ge w new.length 0 78
      have hle := grownCap_le_maxLen w new.length 0 78 (by omega)
      have hb := grown [] 0 0 rfl (grownCap w new.length 0 78) (by omega)
      simp only [Nat.zero_add, List.nil_append, Array.empty_append] at hb
      refine ⟨_, _, [w.heap.size], hr, .inr ⟨w.heap.size, 0, _, [], (Builtin.zeroCells (Value.cells (.agg #[.slice none 0 0, .bool false])) (grownCap w new.length 0 78 - new.length)).toList, rfl, hge, hle, rfl, ?_, hb, rfl⟩, (fun x hx => .inr (by simp at hx; omega)), ho _⟩
      rw [hzl]
      show 2 * (_ - new.length) ≤ (_ - new.length) * 2
      omega
    · by_cases hroom : past.length + new.length ≤ cp
      · have hpl := rowsL_len past
        have hfit : 2 * off + past.length * 2 + (rowsL new).length ≤ (pre ++ rowsL past ++ tail).length := by simp only [List.length_append]; omega
        have hthere := hB.there (o := 2 * off + past.length * 2) (n := (rowsL new).length) hfit
        have hr := run_append_room_src (P := Tryz.prog) w 70 70 ty 78 i Tryz.underlying70 hq p (2 * off) past.length cp (.slice (some a) new.length c) new.length (rowsL new)
          (Src.ofSlice w Tryz.underlying70 a new.length c (rowsL new) hlen hnews (one_rows new)) hroom (fun j hj => by rw [hsz]; exact (hthere j hj).1) (fun j hj => by rw [hsz]; exact (hthere j hj).2)
        rw [hsz] at hr
        have hB2 := hB.setCells (rowsL new) (2 * off + past.length * 2) hfit
        have hsp : splice (pre ++ rowsL past ++ tail) (2 * off + past.length * 2) (rowsL new) = pre ++ rowsL (past ++ new) ++ tail.drop (2 * new.length) := by
          have h1 : (pre ++ rowsL past).length = 2 * off + past.length * 2 := by rw [List.length_append]; omega
          unfold splice
          rw [List.take_left' h1, List.drop_append, h1, List.drop_of_length_le (l := pre ++ rowsL past) (by omega), List.nil_append, hnl, show 2 * off + past.length * 2 + 2 * new.length - (2 * off + past.length * 2) = 2 * new.length by omega, rowsL_app]
          simp only [List.append_assoc]
        rw [hsp] at hB2
        refine ⟨_, _, [p], hr, .inr ⟨p, off, cp, pre, _, by rw [List.length_append], by rw [List.length_append]; exact hroom, hc2, hpre, ?_, hB2, rfl⟩, (fun x hx => .inl hx), (Only.refl _ _).setCells p _ _ (.inl (by simp))⟩
        rw [List.length_drop, List.length_append]
        omega
      · have hpl := rowsL_len past
        have hr := run_append_grow (P := Tryz.prog) w 70 ty 78 i _ Tryz.underlying70 hq hz ⟨p, 2 * off, none⟩ past.length cp (rowsL past) (by rw [hsz]; omega)
          (fun j u hj => by
            have hj2 := (List.getElem?_eq_some_iff.1 hj).1
            rw [Addr.add_mid, hB.cell, List.append_assoc, List.getElem?_append_right (by omega), hpre, show 2 * off + j - 2 * off = j by omega, List.getElem?_append_left hj2]
            exact hj)
          a new.length c (rowsL new) hlen hnews (by omega) (by omega) (growslice_fits_wide (by omega) (by rw [hby]; omega))
        have hge := grownCap_ge w (past.length + new.length) cp 78
        have hle := grownCap_le_maxLen w (past.length + new.length) cp 78 (by omega)
        have hb := grown (rowsL past) past.length 0 hpl (grownCap w (past.length + new.length) cp 78) (by omega)
        refine ⟨_, _, [w.heap.size], hr, .inr ⟨w.heap.size, 0, _, [], (Builtin.zeroCells (Value.cells (.agg #[.slice none 0 0, .bool false])) (grownCap w (past.length + new.length) cp 78 - (past.length + new.length))).toList, by rw [List.length_append], by rw [List.length_append]; exact hge, hle, rfl, ?_, ?_, rfl⟩, (fun x hx => .inr (by simp at hx; omega)), ho _⟩
        · rw [hzl, List.length_append]
          show 2 * (_ - (past.length + new.length)) ≤ (_ - (past.length + new.length)) * 2
          omega
        · rw [List.nil_append, rowsL_app]
          exact hb
end Go.Proofs.YtjklnnklgkihlaaGreatDoor.Grd
