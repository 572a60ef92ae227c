/- format: texts that belong together, merged (Fmr Fmc Fmw Fmb Fbe Fmx). -/
import Derived.Test.YtfkknjgbaiegmaaGreatDoorFsq
import Derived.Test.YtfkknjgbaiegmaaGreatDoorFad
namespace Go.Proofs.YtfkknjgbaiegmaaGreatDoor.Fmt
open Go.RowKit
/-- The first part of a pattern's rest. -/
def partR : Tx → Part
  | [] => .star
  | c :: r =>
    if c = 42 then .star
    else if c = 63 then .one (fun _ => true)
    else if c = 91 then match bracketR r with
      | none => .one (fun x => x == 91)
      | some (f, _) => .one f
    else if c = 92 then match r with
      | [] => .one (fun x => x == 92)
      | e :: _ => .one (fun x => x == e)
    else .one (fun x => x == c)
/-- How many bytes it takes. -/
def stepR : Tx → Nat
  | [] => 1
  | c :: r =>
    if c = 91 then match bracketR r with
      | none => 1
      | some (_, t) => 1 + (r.length - t.length)
    else if c = 92 then match r with
      | [] => 1
      | _ :: _ => 2
    else 1
theorem classR_suf : ∀ (n : Nat) (b : Bool) (r : Tx) (f g : UInt8 → Bool) (t : Tx), r.length ≤ n → classR b r f = some (g, t) → t <:+ r ∧ t.length < r.length
  | _, _, [], _, _, _, _, h => by unfold classR at h; cases h
  | n + 1, b, c :: r, f, g, t, hn, h => by
    rw [List.length_cons] at hn
    unfold classR at h
    by_cases h1 : c = 93 ∧ b = false
    · rw [if_pos h1] at h
      cases h
      exact ⟨List.suffix_cons _ _, by simp⟩
    · rw [if_neg h1] at h
      match r, hn, h with
      | [], _, h => cases h
      | [d], hn, h =>
        obtain ⟨h2, h3⟩ := classR_suf n false [d] _ g t (by simp at hn ⊢; omega) h
        exact ⟨h2.trans (List.suffix_cons _ _), by simp only [List.length_cons, List.length_nil] at h3 ⊢; omega⟩
      | d :: e :: r', hn, h =>
        simp only at h
        by_cases h4 : d = 45 ∧ e ≠ 93
        · rw [if_pos h4] at h
          obtain ⟨h2, h3⟩ := classR_suf n false r' _ g t (by simp at hn; omega) h
          exact ⟨h2.trans ((List.suffix_cons _ _).trans ((List.suffix_cons _ _).trans (List.suffix_cons _ _))), by simp; omega⟩
        · rw [if_neg h4] at h
          obtain ⟨h2, h3⟩ := classR_suf n false (d :: e :: r') _ g t (by simp at hn ⊢; omega) h
          exact ⟨h2.trans (List.suffix_cons _ _), by simp only [List.length_cons] at h3 ⊢; omega⟩
theorem bracketR_suf {r t : Tx} {f : UInt8 → Bool} (h : bracketR r = some (f, t)) : t <:+ r ∧ t.length < r.length := by
  unfold bracketR at h
  cases hc : classR true (notR r).2 (fun _ => false) with
  | none => rw [hc] at h; cases h
  | some p =>
    obtain ⟨g, u⟩ := p
    rw [hc] at h
    cases h
    obtain ⟨h1, h2⟩ := classR_suf _ _ _ _ _ _ (Nat.le_refl _) hc
    have h3 : (notR r).2 <:+ r := by
      cases r with
      | nil => exact List.suffix_refl _
      | cons c r =>
        show (if c = 33 ∨ c = 94 then (true, r) else (false, c :: r)).2 <:+ c :: r
        by_cases hc : c = 33 ∨ c = 94
        · rw [if_pos hc]; exact List.suffix_cons _ _
        · rw [if_neg hc]; exact List.suffix_refl _
    exact ⟨h1.trans h3, Nat.lt_of_lt_of_le h2 h3.length_le⟩
theorem drop_suf {r t : Tx} (h : t <:+ r) : r.drop (r.length - t.length) = t := by
  obtain ⟨a, rfl⟩ := h
  rw [List.length_append, Nat.add_sub_cancel]
  exact List.drop_left
theorem partR_cons (c : UInt8) (r : Tx) : partR (c :: r) = if c = 42 then .star
    else if c = 63 then .one (fun _ => true)
    else if c = 91 then match bracketR r with
      | none => .one (fun x => x == 91)
      | some (f, _) => .one f
    else if c = 92 then match r with
      | [] => .one (fun x => x == 92)
      | e :: _ => .one (fun x => x == e)
    else .one (fun x => x == c) := rfl
theorem stepR_cons (c : UInt8) (r : Tx) : stepR (c :: r) = if c = 91 then match bracketR r with
      | none => 1
      | some (_, t) => 1 + (r.length - t.length)
    else if c = 92 then match r with
      | [] => 1
      | _ :: _ => 2
    else 1 := rfl
theorem compP_cons (k : Nat) (c : UInt8) (r : Tx) : compP (k + 1) (c :: r) = if c = 42 then .star :: compP k r
    else if c = 63 then .one (fun _ => true) :: compP k r
    else if c = 91 then match bracketR r with
      | none => .one (fun x => x == 91) :: compP k r
      | some (f, t) => .one f :: compP k t
    else if c = 92 then match r with
      | [] => [.one (fun x => x == 92)]
      | e :: r' => .one (fun x => x == e) :: compP k r'
    else .one (fun x => x == c) :: compP k r := rfl
theorem comp_step (k : Nat) (c : UInt8) (r : Tx) : compP (k + 1) (c :: r) = partR (c :: r) :: compP k ((c :: r).drop (stepR (c :: r))) := by
  rw [compP_cons, partR_cons, stepR_cons]
  by_cases h1 : c = 42
  · subst h1
    rw [if_pos rfl, if_pos rfl, if_neg (by decide), if_neg (by decide)]; rfl
  rw [if_neg h1, if_neg h1]
  by_cases h2 : c = 63
  · subst h2
    rw [if_pos rfl, if_pos rfl, if_neg (by decide), if_neg (by decide)]; rfl
  rw [if_neg h2, if_neg h2]
  by_cases h3 : c = 91
  · rw [if_pos h3, if_pos h3, if_pos h3]
    cases hb : bracketR r with
    | none => rfl
    | some p =>
      obtain ⟨f, t⟩ := p
      show _ :: compP k t = _ :: compP k ((c :: r).drop (1 + (r.length - t.length)))
      rw [Nat.add_comm 1, List.drop_succ_cons, drop_suf (bracketR_suf hb).1]
  rw [if_neg h3, if_neg h3, if_neg h3]
  by_cases h4 : c = 92
  · rw [if_pos h4, if_pos h4, if_pos h4]
    cases r with
    | nil => cases k <;> rfl
    | cons e r' => rfl
  rw [if_neg h4, if_neg h4, if_neg h4]
  rfl
theorem stepR_pos (s : Tx) : 1 ≤ stepR s := by
  unfold stepR
  split
  · exact Nat.le_refl _
  · split
    · split <;> omega
    · split
      · split <;> omega
      · exact Nat.le_refl _
/-- Where a pattern's parts begin. -/
def begF : Nat → Nat → Tx → List Nat
  | 0, _, _ => []
  | k + 1, i, p => if p.length ≤ i then [] else i :: begF k (i + stepR (p.drop i)) p
theorem comp_beg (p : Tx) : ∀ (k i : Nat), compP k (p.drop i) = (begF k i p).map fun j => partR (p.drop j)
  | 0, i => by
    cases p.drop i <;> rfl
  | k + 1, i => by
    unfold begF
    by_cases h : p.length ≤ i
    · rw [if_pos h, List.drop_of_length_le h]; rfl
    · rw [if_neg h, List.map_cons]
      have hd : p.drop i = p[i] :: p.drop (i + 1) := List.drop_eq_getElem_cons (by omega)
      rw [hd, comp_step, ← hd, List.drop_drop, comp_beg p k]
theorem begF_lt (p : Tx) : ∀ (k i : Nat), ∀ j ∈ begF k i p, j < p.length
  | 0, _, _, h => by cases h
  | k + 1, i, j, h => by
    unfold begF at h
    split at h
    · cases h
    · rcases List.mem_cons.1 h with rfl | h
      · omega
      · exact begF_lt p k _ j h
theorem mt_star (l : List Part) (s : Tx) : Mt (.star :: l) s = (match s with | [] => Mt l [] | _ :: t => Mt l s || Mt (.star :: l) t) := by
  cases s <;> (conv => lhs; unfold Mt)
theorem mt_one (f : UInt8 → Bool) (l : List Part) (s : Tx) : Mt (.one f :: l) s = (match s with | [] => false | c :: t => f c && Mt l t) := by
  cases s <;> (conv => lhs; unfold Mt)
theorem mt_end (s : Tx) : Mt [] s = s.isEmpty := by cases s <;> (unfold Mt; rfl)
/-- A row of the table: whether these parts mean what stands from each place on. -/
def rowP (l : List Part) (s : Tx) : List Bool := (List.range (s.length + 1)).map fun j => Mt l (s.drop j)
def starK (l : List Part) (s : Tx) (j : Nat) : List Bool := (List.range (s.length + 1)).map fun i => decide (j ≤ i) && Mt (.star :: l) (s.drop i)
def oneK (f : UInt8 → Bool) (l : List Part) (s : Tx) (j : Nat) : List Bool := (List.range (s.length + 1)).map fun i => decide (i < j) && Mt (.one f :: l) (s.drop i)
def isK (l : List Part) (s : Tx) (j : Nat) : Bool := decide (j ≤ s.length) && Mt (.star :: l) (s.drop j)
theorem starK_end (l : List Part) (s : Tx) : starK l s 0 = rowP (.star :: l) s := by
  unfold starK rowP
  exact List.map_congr_left fun i _ => by simp
theorem starK_start (l : List Part) (s : Tx) : starK l s (s.length + 1) = List.replicate (s.length + 1) false := by
  unfold starK
  refine List.ext_getElem (by simp) fun i h1 h2 => ?_
  rw [List.getElem_map, List.getElem_range, List.getElem_replicate]
  simp at h1
  rw [decide_eq_false (by omega)]; rfl
theorem isK_start (l : List Part) (s : Tx) : isK l s (s.length + 1) = false := by
  unfold isK
  rw [decide_eq_false (by omega)]; rfl
theorem isK_step (l : List Part) (s : Tx) {j : Nat} (h : j ≤ s.length) : isK l s j = (isK l s (j + 1) || Mt l (s.drop j)) := by
  unfold isK
  rw [decide_eq_true h, Bool.true_and, mt_star]
  rcases Nat.lt_or_ge j s.length with hj | hj
  · rw [List.drop_eq_getElem_cons hj, decide_eq_true (by omega : j + 1 ≤ s.length), Bool.true_and, Bool.or_comm]
  · rw [List.drop_of_length_le hj, decide_eq_false (by omega : ¬ j + 1 ≤ s.length)]
    simp
theorem starK_step (l : List Part) (s : Tx) {j : Nat} (h : j ≤ s.length) : (starK l s (j + 1)).set j (isK l s j) = starK l s j := by
  unfold starK
  refine List.ext_getElem (by simp) fun i h1 h2 => ?_
  simp at h1
  rw [List.getElem_set, List.getElem_map, List.getElem_range, List.getElem_map, List.getElem_range]
  by_cases hi : j = i
  · subst hi
    rw [if_pos rfl]
    unfold isK
    rw [decide_eq_true h, decide_eq_true (Nat.le_refl j)]
  · rw [if_neg hi]
    congr 1
    exact decide_eq_decide.2 (by omega)
theorem oneK_start (f : UInt8 → Bool) (l : List Part) (s : Tx) : oneK f l s 0 = List.replicate (s.length + 1) false := by
  unfold oneK
  refine List.ext_getElem (by simp) fun i h1 h2 => ?_
  rw [List.getElem_map, List.getElem_range, List.getElem_replicate]
  simp
theorem oneK_step (f : UInt8 → Bool) (l : List Part) (s : Tx) {j : Nat} (h : j < s.length) : (oneK f l s j).set j (Mt l (s.drop (j + 1)) && f s[j]) = oneK f l s (j + 1) := by
  unfold oneK
  refine List.ext_getElem (by simp) fun i h1 h2 => ?_
  simp at h1
  rw [List.getElem_set, List.getElem_map, List.getElem_range, List.getElem_map, List.getElem_range]
  by_cases hi : j = i
  · subst hi
    rw [if_pos rfl, decide_eq_true (by omega : j < j + 1), Bool.true_and, List.drop_eq_getElem_cons h, mt_one]
    exact Bool.and_comm _ _
  · rw [if_neg hi]
    congr 1
    exact decide_eq_decide.2 (by omega)
theorem oneK_end (f : UInt8 → Bool) (l : List Part) (s : Tx) : oneK f l s s.length = rowP (.one f :: l) s := by
  unfold oneK rowP
  refine List.map_congr_left fun i hi => ?_
  rw [List.mem_range] at hi
  rcases Nat.lt_or_ge i s.length with h | h
  · rw [decide_eq_true h, Bool.true_and]
  · rw [List.drop_of_length_le h, mt_one, decide_eq_false (by omega)]; rfl
theorem rowP_end (s : Tx) : (List.replicate (s.length + 1) false).set s.length true = rowP [] s := by
  unfold rowP
  refine List.ext_getElem (by simp) fun i h1 h2 => ?_
  simp at h1
  rw [List.getElem_set, List.getElem_replicate, List.getElem_map, List.getElem_range, mt_end]
  by_cases hi : s.length = i
  · subst hi
    rw [if_pos rfl, List.drop_length]; rfl
  · rw [if_neg hi, List.drop_eq_getElem_cons (by omega)]; rfl
theorem rowP_head (l : List Part) (s : Tx) : (rowP l s)[0]? = some (Mt l s) := by
  unfold rowP
  rw [List.getElem?_map, List.getElem?_range (by omega)]
  rfl
theorem rowP_at (l : List Part) (s : Tx) {j : Nat} (h : j ≤ s.length) : (rowP l s)[j]? = some (Mt l (s.drop j)) := by
  unfold rowP
  rw [List.getElem?_map, List.getElem?_range (by omega)]
  rfl
/-- One step within a class. -/
theorem classR_end {r : Tx} {f : UInt8 → Bool} : classR false (93 :: r) f = some (f, r) := by
  unfold classR
  rw [if_pos ⟨rfl, rfl⟩]
theorem classR_nil {b : Bool} {f : UInt8 → Bool} : classR b [] f = none := by unfold classR; rfl
theorem classR_range {b : Bool} {c e : UInt8} {r : Tx} {f : UInt8 → Bool} (h : ¬ (c = 93 ∧ b = false)) (he : e ≠ 93) : classR b (c :: 45 :: e :: r) f = classR false r (fun x => f x || (decide (c ≤ x) && decide (x ≤ e))) := by
  conv => lhs; unfold classR
  rw [if_neg h]
  show (if (45 : UInt8) = 45 ∧ e ≠ 93 then _ else _) = _
  rw [if_pos ⟨rfl, he⟩]
theorem classR_byte {b : Bool} {c : UInt8} {r : Tx} {f : UInt8 → Bool} (h : ¬ (c = 93 ∧ b = false)) (hr : ∀ d e r', r = d :: e :: r' → ¬ (d = 45 ∧ e ≠ 93)) : classR b (c :: r) f = classR false r (fun x => f x || x == c) := by
  conv => lhs; unfold classR
  rw [if_neg h]
  match r, hr with
  | [], _ => rw [classR_nil]
  | [d], _ => rfl
  | d :: e :: r', hr =>
    show (if d = 45 ∧ e ≠ 93 then _ else _) = _
    rw [if_neg (hr d e r' rfl)]
/-- What a class from a place on tells of a byte: what is behind it, and is it in it? -/
def clsP (r : Tx) (c : UInt8) : Option (Tx × Bool) := (bracketR r).map fun p => (p.2, p.1 c)
theorem clsP_eq (r : Tx) (c : UInt8) : clsP r c = (classR true (notR r).2 (fun _ => false)).map fun p => (p.2, p.1 c != (notR r).1) := by
  unfold clsP bracketR
  cases classR true (notR r).2 (fun _ => false) with
  | none => rfl
  | some p => rfl
end Go.Proofs.YtfkknjgbaiegmaaGreatDoor.Fmt
namespace Go.Proofs.YtfkknjgbaiegmaaGreatDoor.Fmt
open Go.RowKit
/-- What the document tells of a class at a place: where it ends, and is a byte in it? -/
def clsE (p : Tx) (i : Nat) (c : UInt8) : Nat × Bool := match clsP (p.drop (i + 1)) c with
  | none => (0, false)
  | some (t, b) => (p.length - t.length, b)
theorem u8_beq (a b : UInt8) : ((a.toNat : Int) == (b.toNat : Int)) = (a == b) := by
  rw [Bool.eq_iff_iff, beq_iff_eq, beq_iff_eq]
  constructor
  · intro h
    exact UInt8.toNat_inj.1 (by omega)
  · rintro rfl; rfl
theorem u8_of {c : UInt8} {n : Nat} (h : c.toNat = n) : c = UInt8.ofNat n := by rw [← h]; simp
theorem u8_eqb {a b : UInt8} {m n : Nat} (ha : a.toNat = m) (hb : b.toNat = n) : (a == b) = ((m : Int) == (n : Int)) := by rw [← u8_beq, ha, hb]
theorem u8_le (a b : UInt8) : (a ≤ b) ↔ (a.toNat : Int) ≤ (b.toNat : Int) := by
  rw [UInt8.le_iff_toNat_le]; omega
theorem u8_ne {a : UInt8} {n : Nat} (hn : n < 256) : a ≠ UInt8.ofNat n ↔ ¬ ((a.toNat : Int) = (n : Int)) := by
  constructor
  · intro h e
    exact h (by rw [← (by omega : a.toNat = n)]; simp)
  · intro h e
    apply h
    rw [e]
    simp
    omega
/-- What the loop over a class keeps: k bytes are read, F tells what was found. -/
def ClK (p : Tx) (fs : Nat) (c : UInt8) (k : Nat) (inn : Bool) : Prop :=
  ∃ F : UInt8 → Bool, classR true (p.drop fs) (fun _ => false) = classR (decide (k = fs)) (p.drop k) F ∧ inn = F c
theorem ClK.start (p : Tx) (fs : Nat) (c : UInt8) : ClK p fs c fs false := ⟨fun _ => false, by rw [decide_eq_true rfl], rfl⟩
theorem ClK.range {p : Tx} {fs k : Nat} {c : UInt8} {b : Bool} (h : ClK p fs c k b) (hk : fs ≤ k) (h2 : k + 2 < p.length) (h93 : ¬ (p[k] = 93 ∧ k ≠ fs)) (hm : p[k + 1] = 45) (he : p[k + 2] ≠ 93) :
    ClK p fs c (k + 3) (b || (decide (p[k] ≤ c) && decide (c ≤ p[k + 2]))) := by
  obtain ⟨F, h1, rfl⟩ := h
  refine ⟨fun x => F x || (decide (p[k] ≤ x) && decide (x ≤ p[k + 2])), ?_, rfl⟩
  rw [h1, List.drop_eq_getElem_cons (by omega : k < p.length), List.drop_eq_getElem_cons (by omega : k + 1 < p.length), List.drop_eq_getElem_cons (by omega : k + 1 + 1 < p.length), hm]
  rw [classR_range (fun hh => h93 ⟨hh.1, of_decide_eq_false hh.2⟩) he, decide_eq_false (by omega : ¬ k + 3 = fs)]
theorem ClK.byte {p : Tx} {fs k : Nat} {c : UInt8} {b : Bool} (h : ClK p fs c k b) (hk : fs ≤ k) (h1 : k < p.length) (h93 : ¬ (p[k] = 93 ∧ k ≠ fs)) (hr : ∀ h2 : k + 2 < p.length, ¬ (p[k + 1] = 45 ∧ p[k + 2] ≠ 93)) :
    ClK p fs c (k + 1) (b || c == p[k]) := by
  obtain ⟨F, h3, rfl⟩ := h
  refine ⟨fun x => F x || x == p[k], ?_, rfl⟩
  rw [h3, List.drop_eq_getElem_cons h1, classR_byte (fun hh => h93 ⟨hh.1, of_decide_eq_false hh.2⟩) (fun d e r' hd => ?_), decide_eq_false (by omega : ¬ k + 1 = fs)]
  have hl : k + 2 < p.length := by
    have := congrArg List.length hd
    simp at this
    omega
  rw [List.drop_eq_getElem_cons (by omega : k + 1 < p.length), List.drop_eq_getElem_cons (by omega : k + 1 + 1 < p.length)] at hd
  simp only [List.cons.injEq] at hd
  obtain ⟨rfl, rfl, -⟩ := hd
  exact hr hl
theorem ClK.none {p : Tx} {fs k : Nat} {c : UInt8} {b : Bool} (h : ClK p fs c k b) (h1 : p.length ≤ k) : classR true (p.drop fs) (fun _ => false) = none := by
  obtain ⟨F, h3, -⟩ := h
  rw [h3, List.drop_of_length_le h1, classR_nil]
theorem ClK.done {p : Tx} {fs k : Nat} {c : UInt8} {b : Bool} (h : ClK p fs c k b) (h1 : k < p.length) (h93 : p[k] = 93) (hk : k ≠ fs) : ∃ F : UInt8 → Bool, classR true (p.drop fs) (fun _ => false) = some (F, p.drop (k + 1)) ∧ b = F c := by
  obtain ⟨F, h3, h4⟩ := h
  refine ⟨F, ?_, h4⟩
  rw [h3, List.drop_eq_getElem_cons h1, h93, decide_eq_false hk, classR_end]
/-- Is what stands behind the bracket a sign that turns the class? -/
theorem notR_yes {p : Tx} {i : Nat} (h : i + 1 < p.length) (hc : p[i + 1] = 33 ∨ p[i + 1] = 94) : notR (p.drop (i + 1)) = (true, p.drop (i + 2)) := by
  rw [List.drop_eq_getElem_cons h]
  unfold notR
  exact if_pos hc
theorem notR_no {p : Tx} {i : Nat} (hc : ∀ h : i + 1 < p.length, ¬ (p[i + 1] = 33 ∨ p[i + 1] = 94)) : notR (p.drop (i + 1)) = (false, p.drop (i + 1)) := by
  by_cases h : i + 1 < p.length
  · rw [List.drop_eq_getElem_cons h]
    unfold notR
    exact if_neg (hc h)
  · rw [List.drop_of_length_le (by omega)]
    rfl
theorem clsE_none {p : Tx} {i fs : Nat} {c : UInt8} {nt : Bool} (hn : notR (p.drop (i + 1)) = (nt, p.drop fs)) (h : classR true (p.drop fs) (fun _ => false) = none) : clsE p i c = (0, false) := by
  have : clsP (p.drop (i + 1)) c = none := by
    rw [clsP_eq, hn]
    show Option.map _ (classR true (p.drop fs) fun _ => false) = _
    rw [h]; rfl
  unfold clsE
  rw [this]
theorem clsE_some {p : Tx} {i fs k : Nat} {c : UInt8} {nt : Bool} {F : UInt8 → Bool} (hk : k < p.length) (hn : notR (p.drop (i + 1)) = (nt, p.drop fs)) (h : classR true (p.drop fs) (fun _ => false) = some (F, p.drop (k + 1))) : clsE p i c = (k + 1, F c != nt) := by
  have : clsP (p.drop (i + 1)) c = some (p.drop (k + 1), F c != nt) := by
    rw [clsP_eq, hn]
    show Option.map _ (classR true (p.drop fs) fun _ => false) = _
    rw [h]; rfl
  unfold clsE
  rw [this]
  show (p.length - (p.drop (k + 1)).length, _) = _
  rw [List.length_drop]
  have : p.length - (p.length - (k + 1)) = k + 1 := by omega
  rw [this]
theorem clsE_br (p : Tx) (i : Nat) (c : UInt8) : clsE p i c = match bracketR (p.drop (i + 1)) with | none => (0, false) | some (f, t) => (p.length - t.length, f c) := by
  unfold clsE clsP
  cases bracketR (p.drop (i + 1)) with
  | none => rfl
  | some q => rfl
/-- What the document tells of one byte at a part. -/
def oneE (p : Tx) (i : Nat) (c : UInt8) (h : i < p.length) : Bool :=
  if p[i] = 63 then true
  else if p[i] = 91 ∧ 0 < (clsE p i c).1 then (clsE p i c).2
  else if hh : p[i] = 92 ∧ i + 1 < p.length then p[i + 1]'hh.2 == c
  else p[i] == c
theorem part_star {p : Tx} {i : Nat} (h : i < p.length) (hc : p[i] = 42) : partR (p.drop i) = .star := by
  rw [List.drop_eq_getElem_cons h, partR_cons, if_pos hc]
theorem part_one {p : Tx} {i : Nat} (h : i < p.length) (hc : p[i] ≠ 42) : partR (p.drop i) = .one fun c => oneE p i c h := by
  rw [List.drop_eq_getElem_cons h, partR_cons, if_neg hc]
  unfold oneE
  by_cases h1 : p[i] = 63
  · simp only [if_pos h1]
  simp only [if_neg h1]
  by_cases h2 : p[i] = 91
  · rw [if_pos h2]
    simp only [clsE_br]
    cases hb : bracketR (p.drop (i + 1)) with
    | none =>
      have hn : ¬ (p[i] = 91 ∧ 0 < 0) := fun h => absurd h.2 (by decide)
      have h92 : ¬ (p[i] = 92 ∧ i + 1 < p.length) := fun h => by rw [h2] at h; exact absurd h.1 (by decide)
      simp only [if_neg hn, dif_neg h92]
      rw [h2]
      congr 1
      funext c
      exact Bool.beq_comm ..
    | some q =>
      obtain ⟨f, t⟩ := q
      have hs := (bracketR_suf hb).2
      rw [List.length_drop] at hs
      have hy : p[i] = 91 ∧ 0 < p.length - t.length := ⟨h2, by omega⟩
      simp only [if_pos hy]
  rw [if_neg h2]
  have hn : ∀ c, ¬ (p[i] = 91 ∧ 0 < (clsE p i c).1) := fun c h => h2 h.1
  simp only [if_neg (hn _)]
  by_cases h3 : p[i] = 92
  · rw [if_pos h3]
    by_cases h4 : i + 1 < p.length
    · have hy : p[i] = 92 ∧ i + 1 < p.length := ⟨h3, h4⟩
      simp only [dif_pos hy]
      rw [List.drop_eq_getElem_cons h4]
      show Part.one (fun x => x == p[i + 1]) = _
      congr 1
      funext c
      exact Bool.beq_comm ..
    · have hy : ¬ (p[i] = 92 ∧ i + 1 < p.length) := fun h => h4 h.2
      simp only [dif_neg hy]
      rw [List.drop_of_length_le (by omega), h3]
      show Part.one (fun x => x == 92) = _
      congr 1
      funext c
      exact Bool.beq_comm ..
  · rw [if_neg h3]
    have hy : ¬ (p[i] = 92 ∧ i + 1 < p.length) := fun h => h3 h.1
    simp only [dif_neg hy]
    congr 1
    funext c
    exact Bool.beq_comm ..
theorem cls_le (p : Tx) (i : Nat) (c : UInt8) : (clsE p i c).1 ≤ p.length := by
  rw [clsE_br]
  cases bracketR (p.drop (i + 1)) with
  | none => exact Nat.zero_le _
  | some q => exact Nat.sub_le _ _
/-- Where the next part begins. -/
theorem step_at {p : Tx} {i : Nat} (h : i < p.length) : i + stepR (p.drop i) = if p[i] = 91 ∧ 0 < (clsE p i 0).1 then (clsE p i 0).1 else if p[i] = 92 ∧ i + 1 < p.length then i + 2 else i + 1 := by
  rw [List.drop_eq_getElem_cons h, stepR_cons, clsE_br]
  by_cases h2 : p[i] = 91
  · rw [if_pos h2]
    cases hb : bracketR (p.drop (i + 1)) with
    | none =>
      have hn : ¬ (p[i] = 91 ∧ 0 < (0, false).1) := fun h => absurd h.2 (by decide)
      have h92 : ¬ (p[i] = 92 ∧ i + 1 < p.length) := fun h => by rw [h2] at h; exact absurd h.1 (by decide)
      show _ = if p[i] = 91 ∧ 0 < 0 then _ else _
      rw [if_neg hn, if_neg h92]
    | some q =>
      obtain ⟨f, t⟩ := q
      have hs := (bracketR_suf hb).2
      rw [List.length_drop] at hs
      have hy : p[i] = 91 ∧ 0 < p.length - t.length := ⟨h2, by omega⟩
      show i + (1 + ((p.drop (i + 1)).length - t.length)) = if p[i] = 91 ∧ 0 < p.length - t.length then p.length - t.length else _
      rw [if_pos hy, List.length_drop]
      omega
  rw [if_neg h2]
  generalize (match bracketR (p.drop (i + 1)) with | none => ((0, false) : Nat × Bool) | some (f, t) => (p.length - t.length, f 0)) = z
  have hn : ¬ (p[i] = 91 ∧ 0 < z.1) := fun h => h2 h.1
  rw [if_neg hn]
  by_cases h3 : p[i] = 92
  · rw [if_pos h3]
    by_cases h4 : i + 1 < p.length
    · have hy : p[i] = 92 ∧ i + 1 < p.length := ⟨h3, h4⟩
      rw [if_pos hy, List.drop_eq_getElem_cons h4]
    · have hy : ¬ (p[i] = 92 ∧ i + 1 < p.length) := fun h => h4 h.2
      rw [if_neg hy, List.drop_of_length_le (by omega)]
  · have hy : ¬ (p[i] = 92 ∧ i + 1 < p.length) := fun h => h3 h.1
    rw [if_neg h3, if_neg hy]
theorem begF_succ {p : Tx} {fu i : Nat} (h : i < p.length) (hf : p.length ≤ i + fu) : ∃ fu', p.length ≤ (i + stepR (p.drop i)) + fu' ∧ begF fu i p = i :: begF fu' (i + stepR (p.drop i)) p := by
  obtain ⟨k, rfl⟩ : ∃ k, fu = k + 1 := ⟨fu - 1, by omega⟩
  refine ⟨k, by have := stepR_pos (p.drop i); omega, ?_⟩
  conv => lhs; unfold begF
  exact if_neg (by omega)
theorem begF_end {p : Tx} {fu i : Nat} (h : p.length ≤ i) : begF fu i p = [] := by
  cases fu with
  | zero => rfl
  | succ k => unfold begF; exact if_pos h
theorem begF_len (p : Tx) : ∀ (k i : Nat), (begF k i p).length ≤ k
  | 0, _ => Nat.le_refl _
  | k + 1, i => by
    unfold begF
    split
    · exact Nat.zero_le _
    · rw [List.length_cons]
      have := begF_len p k (i + stepR (p.drop i))
      omega
end Go.Proofs.YtfkknjgbaiegmaaGreatDoor.Fmt
namespace Go.Proofs.YtfkknjgbaiegmaaGreatDoor.Fmt
open Go.RowKit
def fsP (nt : Bool) (i : Nat) : Nat := if nt then i + 2 else i + 1
theorem not_at (p : Tx) (i : Nat) : ∃ nt : Bool, (nt = true ↔ ∃ h : i + 1 < p.length, p[i + 1] = 33 ∨ p[i + 1] = 94) ∧ notR (p.drop (i + 1)) = (nt, p.drop (fsP nt i)) := by
  by_cases h : ∃ h : i + 1 < p.length, p[i + 1] = 33 ∨ p[i + 1] = 94
  · obtain ⟨h1, h2⟩ := h
    exact ⟨true, ⟨fun _ => ⟨h1, h2⟩, fun _ => rfl⟩, notR_yes h1 h2⟩
  · exact ⟨false, ⟨fun e => (by cases e), fun e => absurd e h⟩, notR_no (fun h1 h2 => h ⟨h1, h2⟩)⟩
set_option maxRecDepth 100000 in
set_option maxHeartbeats 16000000 in
theorem class_any (p : Tx) (i : Nat) (c : UInt8) (hl : p.length ≤ 100000) (hi : i < p.length) (w : World) :
    Calls Tryz.prog 22 #[.string (bs p), .int .i64 (i : Int), .int .u8 (c.toNat : Int)] w fun e w' => e = .returned (.tuple #[.int .i64 ((clsE p i c).1 : Int), .bool (clsE p i c).2]) ∧ w' = w := by
  obtain ⟨S, hS⟩ : ∃ S, S = bs p := ⟨_, rfl⟩
  have hsz : S.size = p.length := by rw [hS]; exact bs_size p
  have HG : Hid (∀ (j : Nat) (h : j < S.size) (h' : j < p.length), S[j] = p[j]) := by subst hS; exact Lib.hid (fun j h h' => rfl)
  rw [← hS]
  have HSZ := Lib.hid hsz
  have z1 : (S.size : Int) ≤ 100000 := by omega
  have z2 : (i : Int) < (S.size : Int) := by omega
  obtain ⟨E, hE⟩ : ∃ E, E = clsE p i c := ⟨_, rfl⟩
  have HE := Lib.hid hE
  rw [← hE]
  obtain ⟨cn, hcn⟩ : ∃ cn : Nat, cn = c.toNat := ⟨_, rfl⟩
  have HCN := Lib.hid hcn
  rw [← hcn]
  obtain ⟨nt, hnt, hnr⟩ := not_at p i
  have HNT := Lib.hid hnt
  have HN := Lib.hid hnr
  have HI := Lib.hid hi
  clear hS hE hl hcn hnt hnr hsz hi
  go_enter Tryz.func22, Tryz.ntmps22
  go_upto_region 2 with fail
  go_cut [9] (fun s9 wx => s9 = .bool nt ∧ w = wx)
  case first =>
    by_cases h1 : i + 1 < S.size
    · have h1p : i + 1 < p.length := by have := HSZ.out; omega
      have h1i : (i : Int) + 1 < (S.size : Int) := by omega
      obtain ⟨n, hn⟩ : ∃ n : Nat, n = S[i + 1].toNat := ⟨_, rfl⟩
      have hxi : ((S[i + 1].toNat : Nat) : Int) = (n : Int) := by rw [hn]
      have HX : Hid (p[i + 1].toNat = n) := Lib.hid (by rw [← HG.out (i + 1) h1 h1p, hn])
      clear hn
      by_cases h33 : n = 33 ∨ n = 94
      · obtain rfl : nt = true := HNT.out.2 ⟨h1p, by
          rcases h33 with h | h
          · exact .inl (UInt8.toNat_inj.1 (HX.out.trans h))
          · exact .inr (UInt8.toNat_inj.1 (HX.out.trans h))⟩
        rcases h33 with rfl | rfl <;>
        · go_wp2_with fail
          go_meet
          exact ⟨rfl, rfl⟩
      · have hf : nt = false := by
          cases nt with
          | false => rfl
          | true =>
            obtain ⟨_, h⟩ := HNT.out.1 rfl
            exact absurd (h.imp (fun e => by rw [← HX.out, e]; rfl) (fun e => by rw [← HX.out, e]; rfl)) h33
        subst hf
        have hq : (n : Int) < 33 ∨ (33 < (n : Int) ∧ (n : Int) < 94) ∨ 94 < (n : Int) := by omega
        clear HX h33 h1p
        rcases hq with q1 | ⟨q1, q2⟩ | q1 <;>
        · go_wp2_with fail
          all_goals first
            | (exfalso; rename_i hx; first | omega | (simp at hx; omega))
            | (go_meet; exact ⟨by first | rfl | (simp; omega), rfl⟩)
    · have hf : nt = false := by
        cases nt with
        | false => rfl
        | true =>
          obtain ⟨h, _⟩ := HNT.out.1 rfl
          exact absurd (by have := HSZ.out; omega) h1
      subst hf
      have h1i : ¬ (i : Int) + 1 < (S.size : Int) := by omega
      go_wp2_with fail
      go_meet
      exact ⟨rfl, rfl⟩
  case rest =>
  obtain ⟨rfl, hwx⟩ := hcut
  subst hwx
  obtain ⟨fs, hfs⟩ : ∃ fs : Nat, fs = fsP nt i := ⟨_, rfl⟩
  have HNR : Hid (notR (p.drop (i + 1)) = (nt, p.drop fs)) := Lib.hid (by rw [hfs]; exact HN.out)
  have HFB : Hid (fs ≤ p.length) := Lib.hid (by
    rw [hfs]
    unfold fsP
    cases nt with
    | true =>
      obtain ⟨h, _⟩ := HNT.out.1 rfl
      simp only [if_pos]
      omega
    | false =>
      have := HI.out
      simp
      omega)
  go_upto_if 30 with fail
  go_cut [8] (fun kv wx => kv = .int .i64 (fs : Int) ∧ w = wx)
  case first =>
    cases nt with
    | true =>
      have hf : (fs : Int) = (i : Int) + 1 + 1 := by rw [hfs]; unfold fsP; simp; omega
      have HF := Lib.hid hf
      clear hfs hf
      go_wp2_with fail
      go_meet
      exact ⟨by rw [HF.out], rfl⟩
    | false =>
      have hf : (fs : Int) = (i : Int) + 1 := by rw [hfs]; unfold fsP; simp
      have HF := Lib.hid hf
      clear hfs hf
      go_wp2_with fail
      go_meet
      exact ⟨by rw [HF.out], rfl⟩
  case rest =>
  obtain ⟨rfl, hwx⟩ := hcut
  subst hwx
  clear hfs
  go_wp2_with fail
  go_loopg [8, 10] (S.size - fs) (fun gh kv bv wr => ∃ (k : Nat) (b : Bool), gh = S.size - k ∧ k ≤ S.size ∧ fs ≤ k ∧ kv = .int .i64 (k : Int) ∧ bv = .bool b ∧ wr = w ∧ Hid (ClK p fs c k b))
  case atStart => exact ⟨fs, false, rfl, by have := HFB.out; have := HSZ.out; omega, Nat.le_refl _, rfl, rfl, rfl, ClK.start _ _ _⟩
  case round =>
    obtain ⟨k, b, hgh, hk, hfk, rfl, rfl, hww, hcl⟩ := hrel
    subst hww
    have hsz := HSZ.out
    by_cases hlt : k < S.size
    · have hki : (k : Int) < (S.size : Int) := by omega
      have hkp : k < p.length := by omega
      obtain ⟨m, hm⟩ : ∃ m : Nat, m = S[k].toNat := ⟨_, rfl⟩
      have hmi : ((S[k].toNat : Nat) : Int) = (m : Int) := by rw [hm]
      have HM : Hid (p[k].toNat = m) := Lib.hid (by rw [← HG.out k hlt hkp, hm])
      clear hm
      by_cases hend : m = 93 ∧ k ≠ fs
      · obtain ⟨F, hF, hb⟩ := hcl.out.done hkp (UInt8.toNat_inj.1 (by rw [HM.out, hend.1]; rfl)) hend.2
        have HEV := Lib.hid (HE.out.trans (clsE_some hkp HNR.out hF))
        rw [← hb] at HEV
        obtain ⟨rfl, hne⟩ := hend
        have hne1 : ¬ ((k : Int) = (fs : Int)) := by omega
        clear hcl hF hb hne hsz HM hkp
        cases b <;> cases nt <;>
        · go_wp2_with fail
          go_ret2
          exact ⟨by rw [HEV.out]; rfl, rfl⟩
      · have hb93 : ¬ (p[k] = 93 ∧ k ≠ fs) := fun h => hend ⟨by rw [← HM.out, h.1]; rfl, h.2⟩
        have hgo : (m : Int) < 93 ∨ 93 < (m : Int) ∨ ((m : Int) = 93 ∧ k = fs) := by
          by_cases hm93 : m = 93
          · right; right
            refine ⟨by omega, ?_⟩
            exact Classical.byContradiction fun h => hend ⟨hm93, h⟩
          · omega
        clear hend
        have hk2 : (k : Int) ≤ 100000 := by omega
        go_upto_region 7 with fail
        go_cut [48] (fun t wx => t = .bool true ∧ wr = wx)
        case first =>
          clear hsz hcl HM hb93 hkp hgh
          rcases hgo with g1 | g1 | ⟨g1, rfl⟩ <;>
          · go_wp2_with fail
            all_goals first
              | (exfalso; rename_i hx; first | omega | (simp at hx; omega))
              | (go_meet; exact ⟨by first | rfl | (congr 1; simp; omega), rfl⟩)
        case rest =>
        obtain ⟨rfl, hwx⟩ := hcut
        subst hwx
        clear hgo
        by_cases h2 : k + 2 < S.size
        · have h2p : k + 2 < p.length := by omega
          have h2i : (k : Int) + 2 < (S.size : Int) := by omega
          have h1s : k + 1 < S.size := by omega
          have h1p : k + 1 < p.length := by omega
          obtain ⟨m1, hm1⟩ : ∃ m : Nat, m = S[k + 1].toNat := ⟨_, rfl⟩
          have hm1i : ((S[k + 1].toNat : Nat) : Int) = (m1 : Int) := by rw [hm1]
          have HM1 : Hid (p[k + 1].toNat = m1) := Lib.hid (by rw [← HG.out (k + 1) h1s h1p, hm1])
          obtain ⟨m2, hm2⟩ : ∃ m : Nat, m = S[k + 2].toNat := ⟨_, rfl⟩
          have hm2i : ((S[k + 2].toNat : Nat) : Int) = (m2 : Int) := by rw [hm2]
          have HM2 : Hid (p[k + 2].toNat = m2) := Lib.hid (by rw [← HG.out (k + 2) h2 h2p, hm2])
          clear hm1 hm2
          by_cases hr : m1 = 45 ∧ m2 ≠ 93
          · obtain ⟨rfl, hne⟩ := hr
            have HCR := Lib.hid (hcl.out.range hfk h2p hb93 (UInt8.toNat_inj.1 (by rw [HM1.out]; rfl)) (fun e => hne (by rw [← HM2.out, e]; rfl)))
            have HLO : Hid ((decide (p[k] ≤ c)) = decide ((m : Int) ≤ (cn : Int))) := Lib.hid (decide_eq_decide.2 (by rw [u8_le, HM.out, HCN.out]))
            have HHI : Hid ((decide (c ≤ p[k + 2])) = decide ((cn : Int) ≤ (m2 : Int))) := Lib.hid (decide_eq_decide.2 (by rw [u8_le, HM2.out, HCN.out]))
            rw [HLO.out, HHI.out] at HCR
            have hn2 : (m2 : Int) < 93 ∨ 93 < (m2 : Int) := by omega
            have HS2 := Lib.hid h2
            have HFK := Lib.hid hfk
            clear hcl hsz HM HM1 HM2 HLO HHI hb93 hne h2p h1p hkp hfk
            go_upto_region 8 with fail
            go_cut [67] (fun t wx => t = .bool true ∧ wr = wx)
            case first =>
              clear HCR hgh
              rcases hn2 with g3 | g3 <;>
              · go_wp2_with fail
                all_goals first
                  | (exfalso; rename_i hx; first | omega | (simp at hx; omega))
                  | (go_meet; exact ⟨by first | rfl | (congr 1; simp; omega), rfl⟩)
            case rest =>
            obtain ⟨rfl, hwx⟩ := hcut
            subst hwx
            obtain ⟨b2, hb2⟩ : ∃ b2, b2 = (b || (decide ((m : Int) ≤ (cn : Int)) && decide ((cn : Int) ≤ (m2 : Int)))) := ⟨_, rfl⟩
            rw [← hb2] at HCR
            go_upto_region 9 with fail
            go_cut [10] (fun t wx => t = .bool b2 ∧ wr = wx)
            case first =>
              have HB2 := Lib.hid hb2
              clear HCR hgh hb2 hn2
              have hcs : b = true ∨ (b = false ∧ (cn : Int) < (m : Int)) ∨ (b = false ∧ (m : Int) ≤ (cn : Int)) := by
                cases b with
                | true => exact .inl rfl
                | false =>
                  rcases Int.lt_or_le (cn : Int) (m : Int) with h | h
                  · exact .inr (.inl ⟨rfl, h⟩)
                  · exact .inr (.inr ⟨rfl, h⟩)
              rcases hcs with rfl | ⟨rfl, g4⟩ | ⟨rfl, g4⟩ <;>
              · go_wp2_with fail
                all_goals first
                  | (exfalso; rename_i hx; first | omega | (simp at hx; omega))
                  | (go_meet; exact ⟨by rw [HB2.out]; first | rfl | (congr 1; simp; omega) | (congr 1; simp [g4]), rfl⟩)
            case rest =>
            obtain ⟨rfl, hwx⟩ := hcut
            subst hwx
            clear hb2 hn2
            go_wp2_with fail
            go_roundg (S.size - (k + 3))
            case rel => exact ⟨k + 3, b2, rfl, by have := HS2.out; omega, by have := HFK.out; omega, by go_num, rfl, by trivial, HCR⟩
            case measure => have := HS2.out; omega
          · have HCR := Lib.hid (hcl.out.byte hfk hkp hb93 (fun _ h => hr ⟨by rw [← HM1.out, h.1]; rfl, fun e => h.2 (UInt8.toNat_inj.1 (by rw [HM2.out, e]; rfl))⟩))
            rw [u8_eqb HCN.out.symm HM.out] at HCR
            have hn2 : ((m1 : Int) < 45 ∨ 45 < (m1 : Int)) ∨ ((m1 : Int) = 45 ∧ (m2 : Int) = 93) := by
              by_cases h : m1 = 45
              · exact .inr ⟨by omega, by
                  by_cases h' : m2 = 93
                  · omega
                  · exact absurd ⟨h, h'⟩ hr⟩
              · omega
            have HLT := Lib.hid hlt
            have HFK := Lib.hid hfk
            clear hcl hsz HM HM1 HM2 hb93 hr h2p h1p hkp hfk
            go_upto_region 8 with fail
            go_cut [67] (fun t wx => t = .bool false ∧ wr = wx)
            case first =>
              clear HCR hgh
              rcases hn2 with (g3 | g3) | ⟨g3, g4⟩ <;>
              · go_wp2_with fail
                all_goals first
                  | (exfalso; rename_i hx; first | omega | (simp at hx; omega))
                  | (go_meet; exact ⟨by first | rfl | (congr 1; simp; omega), rfl⟩)
            case rest =>
            obtain ⟨rfl, hwx⟩ := hcut
            subst hwx
            clear hn2
            cases b <;>
            · go_wp2_with fail
              go_roundg (S.size - (k + 1))
              case rel => exact ⟨k + 1, _, rfl, by have := HLT.out; omega, by have := HFK.out; omega, by go_num, by first | rfl | (congr 1; simp; omega), by trivial, HCR⟩
              case measure => have := HLT.out; omega
        · have HCR := Lib.hid (hcl.out.byte hfk hkp hb93 (fun h _ => h2 (by omega)))
          rw [u8_eqb HCN.out.symm HM.out] at HCR
          have h2i : ¬ (k : Int) + 2 < (S.size : Int) := by omega
          have HLT := Lib.hid hlt
          have HFK := Lib.hid hfk
          clear hcl hsz HM hb93 h2 hkp hfk
          cases b <;>
          · go_wp2_with fail
            go_roundg (S.size - (k + 1))
            case rel => exact ⟨k + 1, _, rfl, by have := HLT.out; omega, by have := HFK.out; omega, by go_num, by first | rfl | (congr 1; simp; omega), by trivial, HCR⟩
            case measure => have := HLT.out; omega
    · obtain rfl : k = S.size := by omega
      have HEV := Lib.hid (HE.out.trans (clsE_none HNR.out (hcl.out.none (by omega))))
      have hki : ¬ (S.size : Int) < (S.size : Int) := by omega
      clear hcl hsz
      cases b <;>
      · go_wp2_with fail
        go_ret2
        exact ⟨by rw [HEV.out]; rfl, rfl⟩
end Go.Proofs.YtfkknjgbaiegmaaGreatDoor.Fmt
namespace Go.Proofs.YtfkknjgbaiegmaaGreatDoor.Fmt
open Go.RowKit
theorem one_63 {p : Tx} {i : Nat} {c : UInt8} (h : i < p.length) (hc : p[i] = 63) : oneE p i c h = true := by unfold oneE; exact if_pos hc
theorem one_cls {p : Tx} {i : Nat} {c : UInt8} (h : i < p.length) (hc : p[i] = 91) (he : 0 < (clsE p i c).1) : oneE p i c h = (clsE p i c).2 := by
  unfold oneE
  rw [if_neg (by rw [hc]; decide), if_pos ⟨hc, he⟩]
theorem one_ncls {p : Tx} {i : Nat} {c : UInt8} (h : i < p.length) (hc : p[i] = 91) (he : ¬ 0 < (clsE p i c).1) : oneE p i c h = (p[i] == c) := by
  unfold oneE
  rw [if_neg (by rw [hc]; decide), if_neg (fun hh => he hh.2), dif_neg (fun hh => by rw [hc] at hh; exact absurd hh.1 (by decide))]
theorem one_esc {p : Tx} {i : Nat} {c : UInt8} (h : i < p.length) (hc : p[i] = 92) (he : i + 1 < p.length) : oneE p i c h = (p[i + 1] == c) := by
  have hy : p[i] = 92 ∧ i + 1 < p.length := ⟨hc, he⟩
  unfold oneE
  rw [if_neg (by rw [hc]; decide), if_neg (fun hh => by rw [hc] at hh; exact absurd hh.1 (by decide)), dif_pos hy]
theorem one_self {p : Tx} {i : Nat} {c : UInt8} (h : i < p.length) (h1 : p[i] ≠ 63) (h2 : p[i] ≠ 91) (h3 : ¬ (p[i] = 92 ∧ i + 1 < p.length)) : oneE p i c h = (p[i] == c) := by
  unfold oneE
  rw [if_neg h1, if_neg (fun hh => h2 hh.1), dif_neg h3]
set_option maxRecDepth 100000 in
set_option maxHeartbeats 4000000 in
theorem one_any (p : Tx) (i : Nat) (c : UInt8) (hl : p.length ≤ 100000) (hi : i < p.length) (w : World) :
    Calls Tryz.prog 16 #[.string (bs p), .int .i64 (i : Int), .int .u8 (c.toNat : Int)] w fun e w' => e = .returned (.bool (oneE p i c hi)) ∧ w' = w := by
  have HCL := Lib.hid (class_any p i c hl hi w)
  obtain ⟨S, hS⟩ : ∃ S, S = bs p := ⟨_, rfl⟩
  have hsz : S.size = p.length := by rw [hS]; exact bs_size p
  have HG : Hid (∀ (j : Nat) (h : j < S.size) (h' : j < p.length), S[j] = p[j]) := by subst hS; exact Lib.hid (fun j h h' => rfl)
  rw [← hS] at HCL ⊢
  have HSZ := Lib.hid hsz
  have z1 : (S.size : Int) ≤ 100000 := by omega
  have z2 : (i : Int) < (S.size : Int) := by omega
  have his : i < S.size := by omega
  obtain ⟨n, hn⟩ : ∃ n : Nat, n = S[i].toNat := ⟨_, rfl⟩
  have hn2 : p[i].toNat = n := by rw [← HG.out i his hi, hn]
  have hxi : ((S[i].toNat : Nat) : Int) = (n : Int) := by rw [hn]
  obtain ⟨cn, hcn⟩ : ∃ cn : Nat, c.toNat = cn := ⟨_, rfl⟩
  rw [hcn] at HCL ⊢
  have HNE : Hid ((p[i] == c) = ((n : Int) == (cn : Int))) := Lib.hid (u8_eqb hn2 hcn)
  obtain ⟨O, hO⟩ : ∃ O, O = oneE p i c hi := ⟨_, rfl⟩
  have HO := Lib.hid hO
  rw [← hO]
  have HPN := Lib.hid hn2
  clear hS hn hO
  by_cases h63 : n = 63
  · have HV := Lib.hid (show O = true by rw [HO.out]; exact one_63 hi (u8_of (HPN.out.trans h63)))
    subst h63
    go_enter Tryz.func16, Tryz.ntmps16
    go_wp2_with fail
    go_ret
    exact ⟨by rw [HV.out]; rfl, rfl⟩
  have q63 : ¬ ((n : Int) = 63) := by omega
  by_cases h91 : n = 91
  · have HP := Lib.hid (show p[i] = 91 from u8_of (HPN.out.trans h91))
    obtain ⟨E, hE⟩ : ∃ E, E = clsE p i c := ⟨_, rfl⟩
    have HE := Lib.hid hE
    rw [← hE] at HCL
    have hle : E.1 ≤ p.length := by rw [hE]; exact cls_le _ _ _
    obtain ⟨e, b⟩ := E
    simp only at hle HCL
    clear hE
    subst h91
    by_cases he : 0 < e
    · have hei : (0 : Int) < (e : Int) := by omega
      have HV := Lib.hid (show O = b by rw [HO.out, one_cls hi HP.out (by rw [← HE.out]; exact he), ← HE.out])
      clear he
      go_enter Tryz.func16, Tryz.ntmps16
      go_wp2_with fail
      refine HCL.out.mono ?_
      rintro _ w1 ⟨rfl, rfl⟩
      go_wp2_with fail
      go_ret
      exact ⟨by rw [HV.out]; rfl, rfl⟩
    · obtain rfl : e = 0 := by omega
      have HV := Lib.hid (show O = ((91 : Int) == (cn : Int)) by rw [HO.out, one_ncls hi HP.out (by rw [← HE.out]; exact he)]; exact HNE.out)
      go_enter Tryz.func16, Tryz.ntmps16
      go_wp2_with fail
      refine HCL.out.mono ?_
      rintro _ w1 ⟨rfl, rfl⟩
      go_wp2_with fail
      go_ret
      exact ⟨by rw [HV.out]; rfl, rfl⟩
  have q91 : ¬ ((n : Int) = 91) := by omega
  by_cases h92 : n = 92 ∧ i + 1 < p.length
  · obtain ⟨rfl, h1⟩ := h92
    have h1i : (i : Int) + 1 < (S.size : Int) := by omega
    have h1s : i + 1 < S.size := by omega
    obtain ⟨m, hm⟩ : ∃ m : Nat, m = S[i + 1].toNat := ⟨_, rfl⟩
    have hm2 : p[i + 1].toNat = m := by rw [← HG.out (i + 1) h1s h1, hm]
    have hmi : ((S[i + 1].toNat : Nat) : Int) = (m : Int) := by rw [hm]
    have HV := Lib.hid (show O = ((m : Int) == (cn : Int)) by rw [HO.out, one_esc hi (u8_of HPN.out) h1]; exact u8_eqb hm2 hcn)
    clear hm hm2
    go_enter Tryz.func16, Tryz.ntmps16
    go_wp2_with fail
    go_ret
    exact ⟨by rw [HV.out]; rfl, rfl⟩
  · have HV := Lib.hid (show O = ((n : Int) == (cn : Int)) by
      rw [HO.out, one_self hi (fun h => h63 (by rw [← HPN.out, h]; rfl)) (fun h => h91 (by rw [← HPN.out, h]; rfl)) (fun h => h92 ⟨by rw [← HPN.out, h.1]; rfl, h.2⟩)]
      exact HNE.out)
    by_cases n92 : n = 92
    · have h1i : ¬ (i : Int) + 1 < (S.size : Int) := by
        intro h
        exact h92 ⟨n92, by omega⟩
      subst n92
      clear h92
      go_enter Tryz.func16, Tryz.ntmps16
      go_wp2_with fail
      go_ret
      exact ⟨by rw [HV.out]; rfl, rfl⟩
    · have q92 : ¬ ((n : Int) = 92) := by omega
      clear h92
      go_enter Tryz.func16, Tryz.ntmps16
      go_wp2_with fail
      go_ret
      exact ⟨by rw [HV.out]; rfl, rfl⟩
end Go.Proofs.YtfkknjgbaiegmaaGreatDoor.Fmt
namespace Go.Proofs.YtfkknjgbaiegmaaGreatDoor.Fmt
open Go.RowKit
theorem info_int : (Tryz.prog.info? 3).map (fun i => (i.zero, i.size, i.bytes)) = some (some (.int .i64 0), 1, 8) := by kernel_rfl
def intL (l : List Nat) : List Value := l.map fun (n : Nat) => Value.int .i64 (n : Int)
theorem intL_app (l : List Nat) (n : Nat) : intL (l ++ [n]) = intL l ++ [.int .i64 (n : Int)] := by simp [intL]
section
variable {ops : Array Oper} {rest : List Oper} {op : Oper} {a : Act} {w : World} {Q : Exit → Act → World → Prop}
/-- One number appended to a row of the call's own. -/
theorem wpList_app_int (hgd : op.guard = none) (s x : Operand) (ho : op.op = .call { callee := .builtin .append, args := #[s, x], argTypes := #[44, 44] })
    (B : Nat) (v : Value) (l : List Nat) (y : Nat) (hs : a.eval s = v) (hown : w.ownsRow B 3 1 v l.length (intL l)) (g c : Nat) (hx : a.eval x = .slice (some ⟨g, 0, none⟩) 1 c) (hg : BL w g 3 [.int .i64 (y : Int)]) (hB : B ≤ w.heap.size) (hn : l.length ≤ 100000)
    (h : ∀ v' w', w'.ownsRow B 3 1 v' (l ++ [y]).length (intL (l ++ [y])) → w.grownBy w' v.ownBlock → wpList Tryz.prog ops Q rest (a.put op.dst v') w') :
    wpList Tryz.prog ops Q (op :: rest) a w := by
  obtain ⟨i0, hi0, hz0, hz1, hz2⟩ := info_parts info_int
  refine wpList_append_own_at w hgd s x 44 ho B 3 i0 _ 1 8 Tryz.underlying44 hi0 hz0 hz1 hz2 rfl (by decide) v l.length (intL l) hs hown ⟨g, 0, none⟩ 1 c [.int .i64 (y : Int)] hx rfl
    (fun j u hj => by rw [Addr.add_mid, Nat.zero_add, hg.cell j]; exact hj) (by simp [Value.oneCell']) (by unfold maxLen; omega) (by omega) hB ?_
  intro v' w' h2 h3 _ _
  refine h v' w' ?_ h3
  rw [intL_app, List.length_append]
  exact h2
end
set_option maxRecDepth 100000 in
set_option maxHeartbeats 8000000 in
theorem begins_any (p : Tx) (hl : p.length ≤ 50000) (w : World) :
    Calls Tryz.prog 15 #[.string (bs p)] w fun e w' => ∃ v, e = .returned v ∧ w'.ownsRow w.heap.size 3 1 v (begF p.length 0 p).length (intL (begF p.length 0 p)) ∧ Below w.heap.size w w' := by
  have HCL : Hid (∀ (i : Nat) (hi : i < p.length) (V : World), Calls Tryz.prog 22 #[.string (bs p), .int .i64 (i : Int), .int .u8 0] V fun e w' => e = .returned (.tuple #[.int .i64 ((clsE p i 0).1 : Int), .bool (clsE p i 0).2]) ∧ w' = V) := Lib.hid fun i hi V => class_any p i 0 (by omega) hi V
  obtain ⟨S, hS⟩ : ∃ S, S = bs p := ⟨_, rfl⟩
  have hsz : S.size = p.length := by rw [hS]; exact bs_size p
  have HG : Hid (∀ (j : Nat) (h : j < S.size) (h' : j < p.length), S[j] = p[j]) := by subst hS; exact Lib.hid (fun j h h' => rfl)
  rw [← hS] at HCL ⊢
  have HSZ := Lib.hid hsz
  have z1 : (S.size : Int) ≤ 50000 := by omega
  obtain ⟨L, hL⟩ : ∃ L, L = begF p.length 0 p := ⟨_, rfl⟩
  rw [← hL]
  have HL0 := Lib.hid hL
  clear hS hL hl
  go_enter Tryz.func15, Tryz.ntmps15
  go_wp2_with fail
  go_loopw [3, 4] (fun ov iv wr => ∃ (i fu : Nat) (out : List Nat), i ≤ S.size ∧ iv = .int .i64 (i : Int) ∧ p.length ≤ i + fu ∧ Hid (L = out ++ begF fu i p) ∧ out.length ≤ i ∧ wr.ownsRow w.heap.size 3 1 ov out.length (intL out) ∧ Below w.heap.size w wr) (fun _ iv _ => S.size - (intOf iv).toNat)
  case atStart => exact ⟨0, p.length, [], Nat.zero_le _, rfl, by omega, Lib.hid (by rw [HL0.out]; rfl), Nat.le_refl _, World.ownsRow_nil _ _ _ _, Below.refl _ _⟩
  case round =>
    obtain ⟨i, fu, out, hi, rfl, hfu, hL, ho, hown, hb⟩ := hrel
    have hs := HSZ.out
    obtain ⟨A2, c2, rfl⟩ := own_slice hown
    by_cases hlt : i < S.size
    · have hii : (i : Int) < (S.size : Int) := by omega
      have hip : i < p.length := by omega
      obtain ⟨fu', hf1, hf2⟩ := begF_succ hip hfu
      have HLn := Lib.hid (show L = (out ++ [i]) ++ begF fu' (i + stepR (p.drop i)) p by rw [hL.out, hf2]; simp)
      have HST := Lib.hid (step_at hip)
      have hpos := stepR_pos (p.drop i)
      obtain ⟨i2, hi2⟩ : ∃ i2, i2 = i + stepR (p.drop i) := ⟨_, rfl⟩
      rw [← hi2] at HLn HST hf1
      have hgt : i < i2 := by omega
      obtain ⟨n, hn⟩ : ∃ n : Nat, n = S[i].toNat := ⟨_, rfl⟩
      have hxi : ((S[i].toNat : Nat) : Int) = (n : Int) := by rw [hn]
      have HPN : Hid (p[i].toNat = n) := Lib.hid (by rw [← HG.out i hlt hip, hn])
      obtain ⟨E, hE⟩ : ∃ E, E = clsE p i 0 := ⟨_, rfl⟩
      have HE := Lib.hid hE
      have HCI := Lib.hid (HCL.out i hip)
      rw [← hE] at HCI HST
      have hle : E.1 ≤ S.size := by rw [hE, hs]; exact cls_le _ _ _
      obtain ⟨n0, hn0⟩ : ∃ m, m = out.length := ⟨_, rfl⟩
      have HO1 : Hid (∀ v, v = Value.slice A2 n0 c2 → (wr.alloc (.cells #[.int .i64 (i : Int)] 3)).ownsRow w.heap.size 3 1 v out.length (intL out)) := Lib.hid fun v hv => by rw [hv, hn0]; exact hown.alloc _
      have HB1 := Lib.hid (hb.alloc hb.size (.cells #[.int .i64 (i : Int)] 3))
      have HN1 := Lib.hid (BL.new wr 3 [.int .i64 (i : Int)])
      have HK := Lib.hid (show out.length ≤ 100000 by omega)
      obtain ⟨n1, hn1⟩ : ∃ m, (out ++ [i]).length = m := ⟨_, rfl⟩
      have HNN := Lib.hid hn1
      have HOL := Lib.hid (show (out ++ [i]).length ≤ i2 by rw [List.length_append]; simp; omega)
      have HF1 := Lib.hid hf1
      rw [← hn0]
      clear hL hown hb hf1 hf2 hfu hi2 hn hE hn0 hn1 ho hpos
      obtain ⟨e, b⟩ := E
      simp only at hle HCI HST
      have DONE : Hid True := Lib.hid trivial
      clear DONE
      by_cases h91 : n = 91 ∧ 0 < e
      · obtain ⟨rfl, he⟩ := h91
        have hei : (0 : Int) < (e : Int) := by omega
        have hi2e : i2 = e := by rw [HST.out, if_pos ⟨u8_of HPN.out, he⟩]
        subst hi2e
        go_wp2_with (at_builtin; refine wpList_app_int rfl _ _ rfl w.heap.size (.slice A2 n0 c2) out i rfl (HO1.out _ rfl) _ 1 rfl HN1.out HB1.out.size HK.out ?_; intro v5 w5 ho5 hg5; rw [HNN.out] at ho5; obtain ⟨A5, c5, rfl⟩ := own_slice ho5; have HO5 := Lib.hid ho5; have HB5 := Lib.hid (HB1.out.grown hg5 HB1.out.size (fun i hi => ((HO1.out _ rfl).lt i hi).1)); clear ho5 hg5)
        refine (HCI.out _).mono ?_
        rintro _ w6 ⟨rfl, rfl⟩
        go_wp2_with fail
        go_roundw
        case rel => exact ⟨i2, fu', out ++ [i], hle, rfl, HF1.out, HLn, HOL.out, by rw [HNN.out]; exact HO5.out, HB5.out⟩
        case measure => simp [intOf]; omega
      · by_cases h92 : n = 92 ∧ i + 1 < S.size
        · obtain ⟨rfl, h1⟩ := h92
          have h1i : (i : Int) + 1 < (S.size : Int) := by omega
          have hi2e : i2 = i + 2 := by rw [HST.out, if_neg (fun h => by have := h.1; rw [u8_of HPN.out] at this; exact absurd this (by decide)), if_pos ⟨u8_of HPN.out, by omega⟩]
          subst hi2e
          clear h91
          go_wp2_with (at_builtin; refine wpList_app_int rfl _ _ rfl w.heap.size (.slice A2 n0 c2) out i rfl (HO1.out _ rfl) _ 1 rfl HN1.out HB1.out.size HK.out ?_; intro v5 w5 ho5 hg5; rw [HNN.out] at ho5; obtain ⟨A5, c5, rfl⟩ := own_slice ho5; have HO5 := Lib.hid ho5; have HB5 := Lib.hid (HB1.out.grown hg5 HB1.out.size (fun i hi => ((HO1.out _ rfl).lt i hi).1)); clear ho5 hg5)
          refine (HCI.out _).mono ?_
          rintro _ w6 ⟨rfl, rfl⟩
          go_wp2_with fail
          go_roundw
          case rel => exact ⟨i + 2, fu', out ++ [i], by omega, by go_num, HF1.out, HLn, HOL.out, by rw [HNN.out]; exact HO5.out, HB5.out⟩
          case measure => simp [intOf]; omega
        · have hi2e : i2 = i + 1 := by
            rw [HST.out, if_neg (fun h => h91 ⟨by rw [← HPN.out, h.1]; rfl, h.2⟩), if_neg (fun h => h92 ⟨by rw [← HPN.out, h.1]; rfl, by omega⟩)]
          subst hi2e
          have hcase : (n = 91 ∧ ¬ (0 : Int) < (e : Int)) ∨ (n = 92 ∧ ¬ (i : Int) + 1 < (S.size : Int)) ∨ (¬ ((n : Int) = 91) ∧ ¬ ((n : Int) = 92)) := by
            by_cases a : n = 91
            · exact .inl ⟨a, fun h => h91 ⟨a, by omega⟩⟩
            · by_cases b : n = 92
              · exact .inr (.inl ⟨b, fun h => h92 ⟨b, by omega⟩⟩)
              · exact .inr (.inr ⟨by omega, by omega⟩)
          clear h91 h92
          rcases hcase with ⟨rfl, q⟩ | ⟨rfl, q⟩ | ⟨q, q2⟩ <;>
          · go_wp2_with (at_builtin; refine wpList_app_int rfl _ _ rfl w.heap.size (.slice A2 n0 c2) out i rfl (HO1.out _ rfl) _ 1 rfl HN1.out HB1.out.size HK.out ?_; intro v5 w5 ho5 hg5; rw [HNN.out] at ho5; obtain ⟨A5, c5, rfl⟩ := own_slice ho5; have HO5 := Lib.hid ho5; have HB5 := Lib.hid (HB1.out.grown hg5 HB1.out.size (fun i hi => ((HO1.out _ rfl).lt i hi).1)); clear ho5 hg5)
            refine (HCI.out _).mono ?_
            rintro _ w6 ⟨rfl, rfl⟩
            go_wp2_with fail
            go_roundw
            case rel => exact ⟨i + 1, fu', out ++ [i], by omega, by go_num, HF1.out, HLn, HOL.out, by rw [HNN.out]; exact HO5.out, HB5.out⟩
            case measure => simp [intOf]; omega
    · obtain rfl : i = S.size := by omega
      have hii : ¬ (S.size : Int) < (S.size : Int) := by omega
      have hLe : L = out := by rw [hL.out, begF_end (by omega), List.append_nil]
      subst hLe
      have HO := Lib.hid hown
      have HB := Lib.hid hb
      clear hown hb
      go_wp2_with fail
      go_ret
      exact ⟨_, rfl, HO.out, HB.out⟩
end Go.Proofs.YtfkknjgbaiegmaaGreatDoor.Fmt
namespace Go.Proofs.YtfkknjgbaiegmaaGreatDoor.Fmt
open Go.RowKit
def boolsV (l : List Bool) : List Value := l.map Value.bool
theorem boolsV_set (l : List Bool) (k : Nat) (b : Bool) : (boolsV l).set k (.bool b) = boolsV (l.set k b) := by unfold boolsV; rw [List.map_set]
theorem boolsV_at {l : List Bool} {k : Nat} {b : Bool} (h : l[k]? = some b) : (boolsV l)[k]? = some (.bool b) := by unfold boolsV; rw [List.getElem?_map, h]; rfl
theorem madeCells_rep (z : List Value) (n : Nat) : (madeCells z.toArray (n * z.length)).toList = (List.replicate n z).flatten := by
  induction n with
  | zero => simp [madeCells]
  | succ n ih =>
    rw [List.replicate_succ', List.flatten_append, ← ih]
    unfold madeCells
    rw [Nat.succ_mul]
    apply List.ext_getElem?
    intro j
    simp only [Array.toList_map, List.getElem?_map, List.flatten_cons, List.flatten_nil, List.append_nil, Array.toList_range, List.size_toArray]
    by_cases h : j < n * z.length
    · rw [List.getElem?_append_left (by simpa using h)]
      simp [h, show j < n * z.length + z.length by omega]
    · rw [List.getElem?_append_right (by simpa using h)]
      simp only [List.length_map, List.length_range]
      by_cases h2 : j < n * z.length + z.length
      · have hz : 0 < z.length := by omega
        have e : j % z.length = j - n * z.length := by
          have hj : j = (j - n * z.length) + z.length * n := by rw [Nat.mul_comm z.length n]; omega
          rw [hj, Nat.add_mul_mod_self_left, Nat.mod_eq_of_lt (by omega)]
          rw [Nat.mul_comm z.length n]
          omega
        rw [List.getElem?_range h2]
        simp only [Option.map_some, e]
        rw [List.getElem?_eq_getElem (by omega)]
        simp [show j - n * z.length < z.length by omega]
      · rw [List.getElem?_eq_none (by simp; omega), List.getElem?_eq_none (by omega)]
        rfl
theorem info_bool : (Tryz.prog.info? 4).map (fun i => (i.zero, i.size, i.bytes)) = some (some (.bool false), 1, 1) := by kernel_rfl
section
variable {ops : Array Oper} {rest : List Oper} {op : Oper} {a : Act} {w : World} {Q : Exit → Act → World → Prop}
theorem wpList_make_bools (hgd : op.guard = none) (x y : Operand) (ho : op.op = .makeSlice 43 x y) (n : Nat) (hx : a.eval x = .int .i64 (n : Int)) (hy : a.eval y = .int .i64 (n : Int)) (hn : n ≤ 1000000)
    (h : ∀ w1, BL w1 w.heap.size 4 (boolsV (List.replicate n false)) → Below w.heap.size w w1 → w.heap.size < w1.heap.size → wpList Tryz.prog ops Q rest (a.put op.dst (.slice (some ⟨w.heap.size, 0, none⟩) n n)) w1) : wpList Tryz.prog ops Q (op :: rest) a w := by
  obtain ⟨i, hq, hz, hs, hby⟩ := info_parts info_bool
  refine wpList_plain hgd fun K hK => ?_
  have hrun := run_make (P := Tryz.prog) w 43 4 i _ Tryz.underlying43 hq hz .i64 .i64 (n : Int) (n : Int) (Int.natCast_nonneg _) (Int.le_refl _) (by rw [hby, ← Int.natCast_mul]; omega) (by omega)
  have hf : (List.replicate n [Value.bool false]).flatten = boolsV (List.replicate n false) := by
    unfold boolsV
    rw [List.map_replicate]
    induction n with
    | zero => rfl
    | succ n ih => simp_all [List.replicate_succ]
  have hl : (madeCells (Value.cells (.bool false)) ((n : Int).toNat * i.size)) = (boolsV (List.replicate n false)).toArray := by
    rw [hs, Int.toNat_natCast, ← hf]
    have hmc := madeCells_rep [.bool false] n
    rw [← hmc]
    rfl
  rw [hl, Int.toNat_natCast] at hrun
  have hk := hK _ _ (h _ (BL.new w 4 _) ((Below.refl _ _).alloc (Nat.le_refl _) _) (by simp))
  generalize w.alloc (.cells (boolsV (List.replicate n false)).toArray 4) = w2 at hk hrun
  unfold Oper.wp
  simp [execOp, ho, hx, hy, hrun, Result.andThen]
  exact hk
end
/-- The parts of a pattern from the m-th on. -/
def partsD (p : Tx) (m : Nat) : List Part := (compP p.length p).drop m
theorem parts_all (p : Tx) : compP p.length p = (begF p.length 0 p).map fun j => partR (p.drop j) := by
  have := comp_beg p p.length 0
  rwa [List.drop_zero] at this
theorem partsD_step {p : Tx} {m : Nat} (h : m < (begF p.length 0 p).length) : partsD p m = partR (p.drop (begF p.length 0 p)[m]) :: partsD p (m + 1) := by
  have hl : m < (compP p.length p).length := by rw [parts_all, List.length_map]; exact h
  unfold partsD
  rw [List.drop_eq_getElem_cons hl]
  congr 1
  simp only [parts_all, List.getElem_map]
theorem partsD_end (p : Tx) : partsD p (begF p.length 0 p).length = [] := by
  unfold partsD
  rw [parts_all]
  exact List.drop_of_length_le (by simp)
theorem rowP_len (l : List Part) (s : Tx) : (rowP l s).length = s.length + 1 := by unfold rowP; simp
theorem bools_cell {w : World} {g : Nat} {l : List Bool} {k : Nat} {b : Bool} (h : BL w g 4 (boolsV l)) (hk : l[k]? = some b) : w.cell? ⟨g, k, none⟩ = some (.bool b) := (h.cell k).trans (boolsV_at hk)
theorem own_ints {w : World} {B : Nat} {v : Value} {l : List Nat} (h : w.ownsRow B 3 1 v l.length (intL l)) {k : Nat} (hk : k < l.length) : ∃ g c, v = .slice (some ⟨g, 0, none⟩) l.length c ∧ g < w.heap.size ∧ w.cell? ⟨g, k, none⟩ = some (.int .i64 (l[k] : Int)) := by
  rcases h.2 with ⟨_, h0⟩ | ⟨g, cap, cur, hv, hB, hh, hn, hm, hs, ht⟩
  · omega
  refine ⟨g, cap, hv, (Array.getElem?_eq_some_iff.1 hh).1, ?_⟩
  rw [cell_of_row w g k cur _ _ hh, ← Array.getElem?_toList]
  have h8 : (cur.toList.take (l.length * 1))[k]? = (intL l)[k]? := by rw [ht]
  rw [List.getElem?_take, if_pos (by omega)] at h8
  rw [h8]
  unfold intL
  rw [List.getElem?_map, List.getElem?_eq_getElem hk]; rfl
set_option maxRecDepth 100000 in
set_option maxHeartbeats 16000000 in
theorem refMatch_any (p s : Tx) (hp : p.length ≤ 2000) (hs : s.length ≤ 2000) (w : World) :
    Calls Tryz.prog 6 #[.string (bs p), .string (bs s)] w fun e w' => e = .returned (.bool (matchP p s)) ∧ Below w.heap.size w w' := by
  have HBG := Lib.hid (fun V => begins_any p (by omega) V)
  have HONE := Lib.hid (fun (i : Nat) (hi : i < p.length) (c : UInt8) (V : World) => one_any p i c (by omega) hi V)
  obtain ⟨S1, hS1⟩ : ∃ S, S = bs p := ⟨_, rfl⟩
  obtain ⟨S2, hS2⟩ : ∃ S, S = bs s := ⟨_, rfl⟩
  have hsz1 : S1.size = p.length := by rw [hS1]; exact bs_size p
  have hsz2 : S2.size = s.length := by rw [hS2]; exact bs_size s
  have HG1 : Hid (∀ (j : Nat) (h : j < S1.size) (h' : j < p.length), S1[j] = p[j]) := by subst hS1; exact Lib.hid (fun j h h' => rfl)
  have HG2 : Hid (∀ (j : Nat) (h : j < S2.size) (h' : j < s.length), S2[j] = s[j]) := by subst hS2; exact Lib.hid (fun j h h' => rfl)
  rw [← hS1] at HBG HONE ⊢
  rw [← hS2]
  have HZ1 := Lib.hid hsz1
  have HZ2 := Lib.hid hsz2
  have z1 : (S1.size : Int) ≤ 2000 := by omega
  have z2 : (S2.size : Int) ≤ 2000 := by omega
  obtain ⟨N, hN⟩ : ∃ N : Nat, N = S2.size + 1 := ⟨_, rfl⟩
  have HN := Lib.hid hN
  have zN : (S2.size : Int) + 1 = (N : Int) := by omega
  have zw : IntKind.i64.wrap ((S2.size : Int) + 1) = (N : Int) := by rw [IntWalk.i64_in _ (by omega)]; exact zN
  have hN1 : N ≤ 1000000 := by omega
  have hlN : (S2.size : Int) < (N : Int) := by omega
  obtain ⟨M, hM⟩ : ∃ M, M = matchP p s := ⟨_, rfl⟩
  have HM := Lib.hid hM
  rw [← hM]
  clear hS1 hS2 hsz1 hsz2 hN hM hp hs
  go_enter Tryz.func6, Tryz.ntmps6
  go_wp2_with (refine wpList_make_bools rfl _ _ rfl N rfl rfl hN1 ?_; intro w1 h1 hb1 hsz1; have H1 := Lib.hid h1; have HB1 := Lib.hid hb1; have HS1 := Lib.hid hsz1; have hc1 := bools_cell h1 (k := S2.size) (b := false) (by rw [HN.out, List.getElem?_replicate, if_pos (by omega)]); have hf1 := h1.frozen S2.size; clear h1 hb1 hsz1)
  refine (HBG.out _).mono ?_
  rintro _ w2 ⟨sv, rfl, hown, hb2⟩
  obtain ⟨L, hL⟩ : ∃ L, L = begF p.length 0 p := ⟨_, rfl⟩
  rw [← hL] at hown
  have HL := Lib.hid hL
  have hLl : L.length ≤ 2000 := by rw [hL]; have := begF_len p p.length 0; have := HZ1.out; omega
  have HLLT := Lib.hid (show ∀ j ∈ L, j < p.length from fun j hj => by rw [hL] at hj; exact begF_lt p _ _ j hj)
  obtain ⟨A2, c2, rfl⟩ := own_slice hown
  obtain ⟨m0, hm0⟩ : ∃ m, m = L.length := ⟨_, rfl⟩
  have HM0 := Lib.hid hm0
  have hm0l : (m0 : Int) ≤ 2000 := by omega
  have HOWN := Lib.hid hown
  rw [← hm0]
  have HB2 := Lib.hid hb2
  have zx : IntKind.i64.wrap ((m0 : Int) - 1) = (m0 : Int) - 1 := IntWalk.i64_in _ (by omega)
  clear hown hL hm0 hLl hb2
  have hbl1 : BL (w1.setCell ⟨w.heap.size, S2.size, none⟩ (.bool true)) w.heap.size 4 (boolsV (rowP [] s)) := by
    have h := H1.out.set_ S2.size (.bool true)
    rw [boolsV_set] at h
    have e : (List.replicate N false).set S2.size true = rowP [] s := by rw [HN.out, HZ2.out]; exact rowP_end s
    rw [e] at h
    exact h
  have hbl2 : BL w2 w.heap.size 4 (boolsV (rowP [] s)) := hbl1.only (Only.of_below (F := []) HB2.out) (by simp)
  have HBL2 := Lib.hid hbl2
  have hbw2 : Below w.heap.size w w2 := (HB1.out.setCell (p := ⟨w.heap.size, S2.size, none⟩) (Nat.le_refl _) _).trans (HB2.out.mono (by have := HB1.out.size; simpa [World.setCell] using this))
  have HBW2 := Lib.hid hbw2
  have hlt2 : w.heap.size < w2.heap.size := hbl2.lt
  have HLT2 := Lib.hid hlt2
  have HPE := Lib.hid (show partsD p m0 = [] by rw [HM0.out, HL.out]; exact partsD_end p)
  clear hbl1 hbl2 hbw2 hlt2 hc1 hf1
  go_wp2_with fail
  go_loopw [5, 7] (fun rv xv wr => ∃ (m g : Nat), m ≤ m0 ∧ xv = .int .i64 ((m : Int) - 1) ∧ rv = .slice (some ⟨g, 0, none⟩) N N ∧ Hid (w.heap.size ≤ g) ∧ Hid (BL wr g 4 (boolsV (rowP (partsD p m) s))) ∧ Hid (Below w2.heap.size w2 wr)) (fun _ xv _ => (intOf xv + 1).toNat)
  case atStart => exact ⟨m0, w.heap.size, Nat.le_refl _, rfl, rfl, Lib.hid (Nat.le_refl _), Lib.hid (by rw [HPE.out]; exact HBL2.out), Lib.hid (Below.refl _ _)⟩
  case round =>
    obtain ⟨m, g, hm, rfl, rfl, hg, hrow, hb⟩ := hrel
    have HBW : Hid (Below w.heap.size w wr) := Lib.hid (HBW2.out.trans (hb.out.mono (Nat.le_of_lt HLT2.out)))
    rcases Nat.eq_zero_or_pos m with rfl | hpos
    · have hmi : ¬ (0 : Int) ≤ ((0 : Nat) : Int) - 1 := by omega
      have hM : (rowP (partsD p 0) s)[0]? = some M := by rw [rowP_head, HM.out]; unfold partsD matchP; rw [List.drop_zero]
      have hc0 := bools_cell hrow.out hM
      go_wp2_with fail
      go_ret
      exact ⟨rfl, HBW.out⟩
    · obtain ⟨x, rfl⟩ : ∃ x, m = x + 1 := ⟨m - 1, by omega⟩
      have hxe : ((x + 1 : Nat) : Int) - 1 = (x : Int) := by omega
      rw [hxe]
      have hxL : x < L.length := by rw [← HM0.out]; omega
      have hx0 : (0 : Int) ≤ (x : Int) := by omega
      have hxm : (x : Int) < (m0 : Int) := by omega
      obtain ⟨gL, cL, hv, hgL, hcL⟩ := own_ints HOWN.out hxL
      rw [← HM0.out] at hv
      simp only [Value.slice.injEq] at hv
      obtain ⟨rfl, -, rfl⟩ := hv
      have hcx := (hb.out.cell (p := ⟨gL, x, none⟩) hgL).trans hcL
      have hi := HLLT.out L[x] (List.getElem_mem hxL)
      have HPS := Lib.hid (show partsD p x = partR (p.drop L[x]) :: partsD p (x + 1) by
        have h := partsD_step (p := p) (m := x) (by rw [← HL.out]; exact hxL)
        simp only [← HL.out] at h
        exact h)
      obtain ⟨i, hie⟩ : ∃ i, i = L[x] := ⟨_, rfl⟩
      rw [← hie] at hcx hi HPS
      clear hie hcL
      have hiS : i < S1.size := by rw [HZ1.out]; exact hi
      have hii : (i : Int) < (S1.size : Int) := by omega
      obtain ⟨n, hn⟩ : ∃ n : Nat, n = S1[i].toNat := ⟨_, rfl⟩
      have hni : ((S1[i].toNat : Nat) : Int) = (n : Int) := by rw [hn]
      have HPN : Hid (p[i].toNat = n) := Lib.hid (by rw [← HG1.out i hiS hi, hn])
      obtain ⟨l, hl⟩ : ∃ l, l = partsD p (x + 1) := ⟨_, rfl⟩
      rw [← hl] at HPS hrow
      have HX := Lib.hid (show x ≤ m0 by omega)
      have hgg := hrow.out.lt
      have HGG := Lib.hid hgg
      clear hn hl hxe hm hpos hgg
      by_cases h42 : n = 42
      · have HPP := Lib.hid (show partsD p x = .star :: l by rw [HPS.out, part_star hi (UInt8.toNat_inj.1 (by rw [HPN.out, h42]; rfl))])
        subst h42
        go_wp2_with (refine wpList_make_bools rfl _ _ rfl N rfl rfl hN1 ?_; intro w5 h5 hb5 hsz5; have H5 := Lib.hid h5; have HB5 := Lib.hid hb5; have HS5 := Lib.hid hsz5; clear h5 hb5 hsz5)
        have HR5 : Hid (BL w5 g 4 (boolsV (rowP l s))) := Lib.hid (hrow.out.only (Only.of_below (F := []) HB5.out) (by simp))
        have HBF : Hid (Below w2.heap.size w2 w5) := Lib.hid (hb.out.trans (HB5.out.mono hb.out.size))
        have HGN : Hid (w2.heap.size ≤ wr.heap.size) := Lib.hid hb.out.size
        have HGW : Hid (w.heap.size ≤ wr.heap.size) := Lib.hid HBW.out.size
        clear hrow hb
        obtain ⟨gn, hgn⟩ : ∃ gn, gn = wr.heap.size := ⟨_, rfl⟩
        rw [← hgn] at H5 HGG HGN HGW ⊢
        clear hgn
        go_loopw [10, 11] (fun isv jv wz => ∃ jj : Nat, jj ≤ N ∧ jv = .int .i64 ((jj : Int) - 1) ∧ isv = .bool (isK l s jj) ∧ Hid (BL wz gn 4 (boolsV (starK l s jj))) ∧ Hid (Only [gn] w5 wz)) (fun _ jv _ => (intOf jv + 1).toNat)
        case atStart =>
          refine ⟨N, Nat.le_refl _, ?_, ?_, Lib.hid ?_, Lib.hid (Only.refl _ _)⟩
          · congr 1; omega
          · rw [HN.out, HZ2.out, isK_start]
          · have h := H5.out
            have e : N = s.length + 1 := by rw [HN.out, HZ2.out]
            rw [e] at h ⊢
            rw [starK_start]; exact h
        case round =>
          rename World => wq
          obtain ⟨jj, hjj, rfl, rfl, hnow, hon⟩ := hrel
          rcases Nat.eq_zero_or_pos jj with rfl | hjp
          · have hji : ¬ (0 : Int) ≤ ((0 : Nat) : Int) - 1 := by omega
            have HROW : Hid (BL wq gn 4 (boolsV (rowP (partsD p x) s))) := Lib.hid (by rw [HPP.out, ← starK_end]; exact hnow.out)
            have HBE : Hid (Below w2.heap.size w2 wq) := Lib.hid (HBF.out.trans (hon.out.below HBF.out.size (fun y hy => by rw [List.mem_singleton] at hy; subst hy; exact HGN.out)))
            clear hnow hon
            go_wp2_with fail
            go_roundw
            case rel => exact ⟨x, gn, HX.out, by go_num, rfl, HGW, HROW, HBE⟩
            case measure => simp [intOf]
          · obtain ⟨j, rfl⟩ : ∃ j, jj = j + 1 := ⟨jj - 1, by omega⟩
            have hje : ((j + 1 : Nat) : Int) - 1 = (j : Int) := by omega
            rw [hje]
            have hjN : j < N := by omega
            have hjs : j ≤ s.length := by rw [← HZ2.out]; have := HN.out; omega
            have hj0 : (0 : Int) ≤ (j : Int) := by omega
            have hji : (j : Int) < (N : Int) := by omega
            have hcr := bools_cell (HR5.out.only hon.out (by simp; exact fun e => by have := HGG.out; omega)) (rowP_at l s hjs)
            have hln : j < (starK l s (j + 1)).length := by unfold starK; simp; omega
            obtain ⟨old, hold⟩ : ∃ o, (starK l s (j + 1))[j]? = some o := ⟨_, List.getElem?_eq_getElem hln⟩
            have hcn := bools_cell hnow.out hold
            have hfn := hnow.out.frozen j
            have HST := Lib.hid (isK_step l s hjs)
            have HSE : Hid (∀ V, V = wq.setCell ⟨gn, j, none⟩ (.bool (isK l s j)) → BL V gn 4 (boolsV (starK l s j))) := Lib.hid fun V hV => by
              rw [hV, ← starK_step l s hjs, ← boolsV_set]
              exact hnow.out.set_ _ _
            have HOE : Hid (∀ V, V = wq.setCell ⟨gn, j, none⟩ (.bool (isK l s j)) → Only [gn] w5 V) := Lib.hid fun V hV => by
              rw [hV]; exact hon.out.setCell (.inl (by simp)) _
            have HJJ := Lib.hid hjN
            clear hnow hon hln hold hje hjj hjp hjs
            generalize isK l s (j + 1) = b1 at *
            generalize Mt l (s.drop j) = z at *
            obtain ⟨b2, hb2⟩ : ∃ b2, b2 = isK l s j := ⟨_, rfl⟩
            rw [← hb2] at HST HSE HOE
            have HB2E := Lib.hid hb2
            clear hb2
            cases b1 with
            | true =>
              obtain rfl : b2 = true := by rw [HST.out]; rfl
              go_wp2_with fail
              go_roundw
              case rel => exact ⟨j, by have := HJJ.out; omega, by go_num, by rw [← HB2E.out], Lib.hid (HSE.out _ rfl), Lib.hid (HOE.out _ rfl)⟩
              case measure => simp [intOf]
            | false =>
              obtain rfl : b2 = z := by rw [HST.out]; rfl
              go_wp2_with fail
              go_roundw
              case rel => exact ⟨j, by have := HJJ.out; omega, by go_num, by rw [← HB2E.out], Lib.hid (HSE.out _ rfl), Lib.hid (HOE.out _ rfl)⟩
              case measure => simp [intOf]
      · have hne : p[i] ≠ 42 := fun e => h42 (by rw [← HPN.out, e]; rfl)
        have HPP := Lib.hid (show partsD p x = .one (fun c => oneE p i c hi) :: l by rw [HPS.out, part_one hi hne])
        have HONI := Lib.hid (HONE.out i hi)
        have hq : (n : Int) < 42 ∨ 42 < (n : Int) := by omega
        clear hne h42
        rcases hq with hq | hq <;>
        · go_wp2_with (refine wpList_make_bools rfl _ _ rfl N rfl rfl hN1 ?_; intro w5 h5 hb5 hsz5; have H5 := Lib.hid h5; have HB5 := Lib.hid hb5; have HS5 := Lib.hid hsz5; clear h5 hb5 hsz5)
          have HR5 : Hid (BL w5 g 4 (boolsV (rowP l s))) := Lib.hid (hrow.out.only (Only.of_below (F := []) HB5.out) (by simp))
          have HBF : Hid (Below w2.heap.size w2 w5) := Lib.hid (hb.out.trans (HB5.out.mono hb.out.size))
          have HGN : Hid (w2.heap.size ≤ wr.heap.size) := Lib.hid hb.out.size
          have HGW : Hid (w.heap.size ≤ wr.heap.size) := Lib.hid HBW.out.size
          clear hrow hb hq
          generalize ((n : Int) == 42) = t42
          obtain ⟨gn, hgn⟩ : ∃ gn, gn = wr.heap.size := ⟨_, rfl⟩
          rw [← hgn] at H5 HGG HGN HGW ⊢
          clear hgn
          obtain ⟨f, hf⟩ : ∃ f, f = fun c => oneE p i c hi := ⟨_, rfl⟩
          rw [← hf] at HPP
          have HF : Hid (∀ c, f c = oneE p i c hi) := Lib.hid (fun c => by rw [hf])
          clear hf
          go_loopw [12] (fun jv wz => ∃ j : Nat, j ≤ S2.size ∧ jv = .int .i64 (j : Int) ∧ Hid (BL wz gn 4 (boolsV (oneK f l s j))) ∧ Hid (Only [gn] w5 wz)) (fun jv _ => S2.size - (intOf jv).toNat)
          case atStart =>
            refine ⟨0, Nat.zero_le _, rfl, Lib.hid ?_, Lib.hid (Only.refl _ _)⟩
            have h := H5.out
            have e : N = s.length + 1 := by rw [HN.out, HZ2.out]
            rw [e] at h
            rw [oneK_start]; exact h
          case round =>
            rename World => wq
            obtain ⟨j, hj, rfl, hnow, hon⟩ := hrel
            by_cases hlt : j < S2.size
            · have hji : (j : Int) < (S2.size : Int) := by omega
              have hjs : j < s.length := by rw [← HZ2.out]; exact hlt
              have hjN : (j : Int) < (N : Int) := by omega
              have hj1 : (j : Int) + 1 < (N : Int) := by omega
              have hcr := bools_cell (HR5.out.only hon.out (by simp; exact fun e => by have := HGG.out; omega)) (rowP_at l s (show j + 1 ≤ s.length by omega))
              have hln : j < (oneK f l s j).length := by unfold oneK; simp; omega
              obtain ⟨old, hold⟩ : ∃ o, (oneK f l s j)[j]? = some o := ⟨_, List.getElem?_eq_getElem hln⟩
              have hcn := bools_cell hnow.out hold
              have hfn := hnow.out.frozen j
              obtain ⟨cv, hcv⟩ : ∃ cv, cv = s[j] := ⟨_, rfl⟩
              have egk : S2[j] = cv := by rw [HG2.out j hlt hjs, hcv]
              obtain ⟨z, hz⟩ : ∃ z, z = Mt l (s.drop (j + 1)) := ⟨_, rfl⟩
              rw [← hz] at hcr
              have HCALL := Lib.hid (fun V => HONI.out cv V)
              obtain ⟨q, hq2⟩ : ∃ q, q = oneE p i cv hi := ⟨_, rfl⟩
              rw [← hq2] at HCALL
              obtain ⟨b2, hb2⟩ : ∃ b2, b2 = (z && q) := ⟨_, rfl⟩
              have HB2E := Lib.hid hb2
              have HSE : Hid (∀ V, V = wq.setCell ⟨gn, j, none⟩ (.bool b2) → BL V gn 4 (boolsV (oneK f l s (j + 1)))) := Lib.hid fun V hV => by
                rw [hV, ← oneK_step f l s hjs, ← boolsV_set, ← hz, HF.out, ← hcv, ← hq2, ← hb2]
                exact hnow.out.set_ _ _
              have HOE : Hid (∀ V, V = wq.setCell ⟨gn, j, none⟩ (.bool b2) → Only [gn] w5 V) := Lib.hid fun V hV => by
                rw [hV]; exact hon.out.setCell (.inl (by simp)) _
              have HJJ := Lib.hid hlt
              clear hnow hon hln hold hjs hcv hz hq2 hb2 hj
              cases z with
              | false =>
                obtain rfl : b2 = false := by rw [HB2E.out]; rfl
                go_wp2_with fail
                go_roundw
                case rel => first
                  | exact ⟨j + 1, HJJ.out, by go_num, Lib.hid (HSE.out _ rfl), Lib.hid (HOE.out _ rfl)⟩
                  | ((repeat apply Exists.intro); exact ⟨⟨j + 1, HJJ.out, by go_num, Lib.hid (HSE.out _ rfl), Lib.hid (HOE.out _ rfl)⟩, rfl⟩)
                case measure => have := HJJ.out; simp [intOf]; omega
              | true =>
                obtain rfl : b2 = q := by rw [HB2E.out]; rfl
                go_wp2_with fail
                refine (HCALL.out _).mono ?_
                rintro _ w7 ⟨rfl, rfl⟩
                go_wp2_with fail
                go_roundw
                case rel => first
                  | exact ⟨j + 1, HJJ.out, by go_num, Lib.hid (HSE.out _ rfl), Lib.hid (HOE.out _ rfl)⟩
                  | ((repeat apply Exists.intro); exact ⟨⟨j + 1, HJJ.out, by go_num, Lib.hid (HSE.out _ rfl), Lib.hid (HOE.out _ rfl)⟩, rfl⟩)
                case measure => have := HJJ.out; simp [intOf]; omega
            · obtain rfl : j = S2.size := by omega
              have hji : ¬ (S2.size : Int) < (S2.size : Int) := by omega
              have HROW : Hid (BL wq gn 4 (boolsV (rowP (partsD p x) s))) := Lib.hid (by
                rw [HPP.out, ← oneK_end]
                have h := hnow.out
                rw [HZ2.out] at h
                exact h)
              have HBE : Hid (Below w2.heap.size w2 wq) := Lib.hid (HBF.out.trans (hon.out.below HBF.out.size (fun y hy => by rw [List.mem_singleton] at hy; subst hy; exact HGN.out)))
              clear hnow hon
              go_wp2_with fail
              go_roundw
              case rel => exact ⟨x, gn, HX.out, by go_num, rfl, HGW, HROW, HBE⟩
              case measure => simp [intOf]
end Go.Proofs.YtfkknjgbaiegmaaGreatDoor.Fmt
