/- lex: words kept, commands ended. -/
import Derived.Test.YtplikjbajejciaaDoorQbx
import Derived.Deep.RegionLaw
import Derived.Deep.AppendLies
namespace Go.Proofs.YtplikjbajejciaaDoor.Lex
open Go.RowKit Go.Maps
theorem info_parts {t : TypeId} {z : Value} {s b : Nat} (h : (Tryd.prog.info? t).map (fun i => (i.zero, i.size, i.bytes)) = some (some z, s, b)) : ∃ i, Tryd.prog.info? t = some i ∧ i.zero = some z ∧ i.size = s ∧ i.bytes = b := by
  cases hq : Tryd.prog.info? t with
  | none => simp [hq] at h
  | some i =>
    simp only [hq, Option.map_some, Option.some.injEq, Prod.mk.injEq] at h
    exact ⟨i, rfl, h.1, h.2.1, h.2.2⟩
theorem info_word : (Tryd.prog.info? 36).map (fun i => (i.zero, i.size, i.bytes)) = some (some (.agg #[.string { data := #[] }, .int .i64 0, .bool false]), 3, 32) := by kernel_rfl
theorem info_line : (Tryd.prog.info? 34).map (fun i => (i.zero, i.size, i.bytes)) = some (some (.agg #[.slice none 0 0, .int .i64 0]), 2, 32) := by kernel_rfl
section
variable {ops : Array Oper} {op : Oper} {a : Act} {w : World} {K : Act → World → Prop} {Q : Exit → Act → World → Prop} {E : Prop}
/-- Some appended to a row of the call's own, or to nil, as a step of a region that draws. -/
theorem step_app {t e : TypeId} {z : Value} {size bytes : Nat} (hinf : (Tryd.prog.info? e).map (fun i => (i.zero, i.size, i.bytes)) = some (some z, size, bytes)) (hund : Tryd.prog.underlying t = some (.slice e)) (hzs : z.cells.size = size) (hsz : 0 < size) (hbt : bytes ≤ 100)
    (hgd : op.guard = none) (s x : Operand) (ho : op.op = .call { callee := .builtin .append, args := #[s, x], argTypes := #[t, t] })
    (base : Nat) (v : Value) (n : Nat) (xs : List Value) (g m c : Nat) (news : List Value) (hs : a.eval s = v) (hown : w.ownsRow base e size v n xs) (hx : a.eval x = .slice (some ⟨g, 0, none⟩) m c) (hl : news.length = m * size) (hnew : BL w g e news)
    (h1 : ∀ u ∈ news, u.oneCell' = true) (hm : 0 < m) (hbase : base ≤ w.heap.size) (hn : n + m ≤ 1000000000)
    (h : ∀ g' c' w', w'.ownsRow base e size (.slice (some ⟨g', 0, none⟩) (n + m) c') (n + m) (xs ++ news) → (v.ownBlock = some g' ∨ w.heap.size ≤ g') → w.grownBy w' v.ownBlock → K (a.put op.dst (.slice (some ⟨g', 0, none⟩) (n + m) c')) w') :
    if Region.wanted op (yielded ops a.tmps) = true then Oper.wp Tryd.prog op a w K Q else E := by
  obtain ⟨i0, hi0, hz0, hz1, hz2⟩ := info_parts hinf
  have hb1 : (n + m) * bytes ≤ (n + m) * 100 := Nat.mul_le_mul_left _ hbt
  refine step_append_lies w hgd s x t ho base e i0 z size bytes hund hi0 hz0 hz1 hz2 hzs hsz v n xs hs hown ⟨g, 0, none⟩ m c news hx hl (fun j u hj => by rw [Addr.add_mid, Nat.zero_add, hnew.cell j]; exact hj) h1 hm (by unfold maxLen; omega) (by omega) hbase w.heap.size rfl ?_
  intro g' c' w' hown' hgr hwh _
  exact h g' c' w' hown' (hwh.imp id fun e => by omega) hgr
end
/-! ### Rows of words and commands -/
def wdL (x : Wd) : List Value := [.string (bs x.text), .int .i64 (x.line : Int), .bool x.block]
def wdsC (l : List Wd) : List Value := l.flatMap wdL
theorem wdsC_app (l : List Wd) (x : Wd) : wdsC (l ++ [x]) = wdsC l ++ wdL x := by simp [wdsC]
theorem wdL_one (x : Wd) : ∀ u ∈ wdL x, u.oneCell' = true := by
  intro u hu; simp [wdL] at hu; rcases hu with h | h | h <;> (subst h; rfl)
/-- Where a command's words lie, and the command. -/
abbrev LV := Value × Ln
def lnL (p : LV) : List Value := [p.1, .int .i64 (p.2.group : Int)]
def lnsC (l : List LV) : List Value := l.flatMap lnL
theorem lnsC_app (l : List LV) (p : LV) : lnsC (l ++ [p]) = lnsC l ++ lnL p := by simp [lnsC]
/-- A reader between words: the commands that have ended, the words of the one that has not. -/
structure RH (B G rb : Nat) (w : World) (K : Kp) (env : Env) (ls : List LV) (ws : List Wd) (s : Tx) (n : Nat) : Prop where
  cx : Cx B w rb K env s n
  wown : w.ownsRow G 36 3 K.wv ws.length (wdsC ws)
  lown : w.ownsRow G 34 2 K.lv ls.length (lnsC ls)
  lns : ∀ p ∈ ls, w.ownsRow G 36 3 p.1 p.2.words.length (wdsC p.2.words) ∧ ∀ k, p.1.ownBlock = some k → K.wv.ownBlock ≠ some k
  few : ls.length + ws.length + s.length ≤ 65537
  grps : ls.length + ws.length ≤ 65537 ∧ K.g ≤ ls.length + 1
  last : ∀ p, ls.getLast? = some p → p.2.group ≤ ls.length
  low : B ≤ G
  base : G ≤ w.heap.size
section
variable {B G rb n : Nat} {w w' : World} {K : Kp} {env : Env} {ls : List LV} {ws : List Wd} {s : Tx}
theorem RH.rb_far (h : RH B G rb w K env ls ws s n) {t : TypeId} {size m : Nat} {v : Value} {xs : List Value} (ho : w.ownsRow G t size v m xs) (ht : t ≠ 49) : v.ownBlock ≠ some rb := by
  obtain ⟨mv, hR, _⟩ := h.cx.place
  exact own_type ho (show BL w rb 49 _ from hR) (fun e => ht e.symm)
/-- A call that turns the reader's block alone. -/
theorem RH.go (h : RH B G rb w K env ls ws s n) {K' : Kp} {s' : Tx} {n' : Nat} (hc : Cx B w' rb K' env s' n') (ho : Only [rb] w w') (hl : K'.lv = K.lv) (hw : K'.wv = K.wv) (hg : K'.g = K.g) (hs : s'.length ≤ s.length) : RH B G rb w' K' env ls ws s' n' := by
  have far : ∀ {t : TypeId} {size m : Nat} {v : Value} {xs : List Value}, w.ownsRow G t size v m xs → t ≠ 49 → w'.ownsRow G t size v m xs := fun ho' ht => own_only ho' ho (fun k hk => by
    have := h.rb_far ho' ht
    simp
    intro e
    exact this (by rw [hk, e]))
  have hf := h.few
  refine ⟨hc, by rw [hw]; exact far h.wown (by decide), by rw [hl]; exact far h.lown (by decide), fun p hp => ⟨far (h.lns p hp).1 (by decide), fun k hk => by rw [hw]; exact (h.lns p hp).2 k hk⟩, by omega, by rw [hg]; exact h.grps, h.last, h.low, Nat.le_trans h.base ho.size⟩
theorem RH.next (h : RH B G rb w K env ls ws s n) :
    Calls Tryd.prog 36 #[ptrV rb] w fun e w' => e = .returned (.string (bs (s.take 1))) ∧ RH B G rb w' K env ls ws s n ∧ Only [rb] w w' :=
  (next_cx h.cx).mono fun _ _ he => ⟨he.1, h.go he.2.1 (he.2.2.mono (by simp)) rfl rfl rfl (Nat.le_refl _), he.2.2.mono (by simp)⟩
theorem RH.after {c : UInt8} (h : RH B G rb w K env ls ws (c :: s) n) :
    Calls Tryd.prog 40 #[ptrV rb] w fun e w' => e = .returned (.string (bs (s.take 1))) ∧ RH B G rb w' K env ls ws (c :: s) n ∧ Only [rb] w w' :=
  (after_cx h.cx).mono fun _ _ he => ⟨he.1, h.go he.2.1 (he.2.2.mono (by simp)) rfl rfl rfl (Nat.le_refl _), he.2.2.mono (by simp)⟩
theorem RH.take {c : UInt8} (h : RH B G rb w K env ls ws (c :: s) n) :
    Calls Tryd.prog 41 #[ptrV rb] w fun e w' => e = .returned (.string (bs [c])) ∧ RH B G rb w' K env ls ws s (nl c n) ∧ Only [rb] w w' :=
  (take_cx h.cx).mono fun _ _ he => ⟨he.1, h.go he.2.1 he.2.2 rfl rfl rfl (by simp), he.2.2⟩
theorem RH.refuse (h : RH B G rb w K env ls ws s n) (k : Nat) :
    Calls Tryd.prog 39 #[ptrV rb, .int .i64 (k : Int)] w fun e w' => e = .panicked (ftP k K.bg) ∧ w = w' := refuse_cx h.cx k
theorem many_true {L : List Ln} (h : many L ws = true) : ws.length = 256 ∨ (ws.length = 0 ∧ L.length = 1000) := by
  unfold many at h
  simp at h
  rcases h with h | ⟨h1, h2⟩
  · exact .inl h
  · exact .inr ⟨by rw [h1]; rfl, h2⟩
theorem many_false {L : List Ln} (h : many L ws = false) : ws.length ≠ 256 ∧ (ws.length ≠ 0 ∨ L.length ≠ 1000) := by
  unfold many at h
  simp at h
  obtain ⟨h1, h2⟩ := h
  refine ⟨h1, ?_⟩
  by_cases h3 : ws = []
  · exact .inr (h2 h3)
  · exact .inl (fun e => h3 (List.eq_nil_of_length_eq_zero e))
set_option maxRecDepth 100000 in
set_option maxHeartbeats 2000000 in
theorem begin_any (h : RH B G rb w K env ls ws s n) (b : Bool) (hb : many (ls.map (·.2)) ws = b) :
    Calls Tryd.prog 42 #[ptrV rb] w fun e w' => e = (if b = true then .panicked (ftP 3 K.bg) else .returned (.tuple #[])) ∧ w = w' := by
  obtain ⟨mv, hR, hM⟩ := h.cx.place
  obtain ⟨A1, k1, hw⟩ := own_slice h.wown
  obtain ⟨A2, k2, hl⟩ := own_slice h.lown
  have c6 : w.cell? ⟨rb, 6, none⟩ = some (.slice A1 ws.length k1) := (BL.cell hR 6).trans (congrArg some hw)
  have c5 : w.cell? ⟨rb, 5, none⟩ = some (.slice A2 ls.length k2) := (BL.cell hR 5).trans (congrArg some hl)
  have H := Lib.hid h
  cases b with
  | true =>
    have hm := many_true hb
    rw [List.length_map] at hm
    clear h hR hM hw hl hb
    generalize ws.length = N at *
    generalize ls.length = M at *
    unfold ptrV
    rcases hm with rfl | ⟨rfl, rfl⟩
    · go_enter Tryd.func42, Tryd.ntmps42
      go_wp2_with fail
      refine (H.out.refuse 3).mono ?_
      rintro _ w2 ⟨rfl, rfl⟩
      exact ⟨rfl, rfl, rfl⟩
    · go_enter Tryd.func42, Tryd.ntmps42
      go_wp2_with fail
      refine (H.out.refuse 3).mono ?_
      rintro _ w2 ⟨rfl, rfl⟩
      exact ⟨rfl, rfl, rfl⟩
  | false =>
    obtain ⟨hm1, hm2⟩ := many_false hb
    rw [List.length_map] at hm2
    have n1 : ¬ ((ws.length : Int) = 256) := by omega
    clear h hR hM hw hl hb hm1
    generalize ws.length = N at *
    generalize ls.length = M at *
    unfold ptrV
    by_cases h0 : N = 0
    · subst h0
      have n2 : ¬ ((M : Int) = 1000) := by omega
      clear hm2
      go_enter Tryd.func42, Tryd.ntmps42
      go_wp2_with fail
      exact body_end rfl rfl ⟨rfl, rfl⟩
    · have n3 : ¬ ((N : Int) = 0) := by omega
      clear hm2
      go_enter Tryd.func42, Tryd.ntmps42
      go_wp2_with fail
      exact body_end rfl rfl ⟨rfl, rfl⟩
end
end Go.Proofs.YtplikjbajejciaaDoor.Lex
