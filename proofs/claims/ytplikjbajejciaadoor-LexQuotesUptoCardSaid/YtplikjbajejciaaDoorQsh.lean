/- lex: the chapter's examples, which every law of the stage begins with. -/
import Derived.Test.YtplikjbajejciaaDoorQpu
import Derived.Test.YtplikjbajejciaaDoorQqu
namespace Go.Proofs.YtplikjbajejciaaDoor.Lex
open Go.RowKit Go.Maps
set_option maxRecDepth 100000 in
theorem Quote_any (s : Tx) (hl : s.length ≤ 2000000) (w : World) :
    Calls Tryd.prog 6 #[.string (bs s)] w fun e w' => e = .returned (.string (bs (quoteP s))) ∧ Below w.heap.size w w' := by
  have H := Lib.hid (Word_any s hl w)
  generalize bs s = S at *
  go_enter Tryd.func6, Tryd.ntmps6
  go_wp2_with fail
  refine H.out.mono ?_
  rintro _ w1 ⟨rfl, h1⟩
  have H1 := Lib.hid h1
  clear h1
  go_wp2_with fail
  go_ret
  exact ⟨rfl, H1.out⟩
section
variable {G : Nat} {w w' : World} {v : Value} {ls : List LV}
theorem LsAt.below (h : LsAt G w v ls) (hb : Below w.heap.size w w') : LsAt G w' v ls :=
  ⟨own_only h.1 (Only.of_below (F := []) hb) (fun _ _ => by simp), fun p hp => own_only (h.2 p hp) (Only.of_below (F := []) hb) (fun _ _ => by simp)⟩
theorem LsAt.slice (h : LsAt G w v ls) : ∃ A c, v = .slice A ls.length c := own_slice h.1
theorem LsAt.row (h : LsAt G w v ls) (hn : 0 < ls.length) : ∃ g c, v = .slice (some ⟨g, 0, none⟩) ls.length c ∧ ∀ j p, ls[j]? = some p → w.cell? ⟨g, j * 2, none⟩ = some p.1 ∧ w.cell? ⟨g, j * 2 + 1, none⟩ = some (.int .i64 (p.2.group : Int)) := by
  obtain ⟨g, c, tail, hv, _, hb, _⟩ := own_some h.1 hn
  refine ⟨g, c, hv, fun j p hj => ?_⟩
  obtain ⟨h1, h2⟩ := lns_cell hj tail
  exact ⟨(hb.cell _).trans h1, (hb.cell _).trans h2⟩
theorem LsAt.cells {g n c : Nat} (h : LsAt G w (.slice (some ⟨g, 0, none⟩) n c) ls) {j : Nat} {p : LV} (hj : ls[j]? = some p) : w.cell? ⟨g, j * 2, none⟩ = some p.1 ∧ w.cell? ⟨g, j * 2 + 1, none⟩ = some (.int .i64 (p.2.group : Int)) := by
  have hn : 0 < ls.length := by have := (List.getElem?_eq_some_iff.1 hj).1; omega
  obtain ⟨g', c', hv, hc⟩ := h.row hn
  simp only [Value.slice.injEq, Option.some.injEq, Addr.mk.injEq] at hv
  obtain ⟨⟨rfl, -, -⟩, -, -⟩ := hv
  exact hc j p hj
theorem map_two {l : List LV} {a b : Ln} (h : l.map (·.2) = [a, b]) : ∃ p q, l = [p, q] ∧ p.2 = a ∧ q.2 = b := by
  rcases l with _ | ⟨p, _ | ⟨q, _ | ⟨r, l⟩⟩⟩
  · cases h
  · cases h
  · simp only [List.map_cons, List.map_nil, List.cons.injEq, and_true] at h
    exact ⟨p, q, rfl, h.1, h.2⟩
  · simp at h
theorem map_one {l : List LV} {a : Ln} (h : l.map (·.2) = [a]) : ∃ p, l = [p] ∧ p.2 = a := by
  rcases l with _ | ⟨p, _ | ⟨q, l⟩⟩
  · cases h
  · simp only [List.map_cons, List.map_nil, List.cons.injEq, and_true] at h
    exact ⟨p, rfl, h⟩
  · simp at h
theorem LsAt.ws (h : LsAt G w v ls) {p : LV} (hp : p ∈ ls) : WsAt w p.1 p.2.words := WsAt.of (h.2 p hp)
end
theorem shW_zero (b : List Wd) : shW 0 b = b := by
  unfold shW
  induction b with
  | nil => rfl
  | cons x b ih => rw [List.map_cons, ih]; rfl
theorem WsAt.below {w w' : World} {v : Value} {l : List Wd} (h : WsAt w v l) (hb : Below w.heap.size w w') : WsAt w' v l := by
  rcases h with h | ⟨g, c, tail, h1, h2⟩
  · exact .inl h
  · exact .inr ⟨g, c, tail, h1, h2.keep (hb.block g h2.lt)⟩
def env0 : Env := [([88], [120]), ([72, 79, 77, 69], [47, 104])]
def text1 : Tx := [97, 32, 39, 98, 32, 99, 39, 32, 34, 100, 92, 110, 36, 88, 34, 32, 126, 47, 101, 32, 59, 32, 102]
def text2 : Tx := [105, 102, 32, 123, 32, 97, 32, 59, 32, 98, 32, 125]
def words1 : List Wd := [⟨[97], 1, false⟩, ⟨[98, 32, 99], 1, false⟩, ⟨[100, 10, 120], 1, false⟩, ⟨[47, 104, 47, 101], 1, false⟩]
def words2 : List Wd := [⟨[105, 102], 1, false⟩, ⟨[32, 97, 32, 59, 32, 98, 32], 1, true⟩]
theorem ex1 : splitP env0 text1 = .done [⟨words1, 1⟩, ⟨[⟨[102], 1, false⟩], 1⟩] := by kernel_rfl
theorem ex2 : splitP [] text2 = .done [⟨words2, 1⟩] := by kernel_rfl
theorem ex3 : splitP [] [39, 120] = .bad 4 1 := by kernel_rfl
theorem env0_ok : EnvOk env0 := ⟨by decide, fun p hp => by
  simp [env0] at hp
  rcases hp with rfl | rfl <;> exact ⟨by decide, by decide⟩⟩
theorem nil_ok : EnvOk [] := ⟨by decide, fun p hp => by cases hp⟩
theorem below_drewN1 {w : World} (n : Nat) : Below w.heap.size w (w.drewN n) := below_drewN (Below.refl _ _) n
set_option maxRecDepth 100000 in
set_option maxHeartbeats 4000000 in
theorem shown_any (w : World) : Calls Tryd.prog 5 #[] w fun e w' => e = .returned (.bool true) ∧ Below w.heap.size w w' := by
  have hb0 : Below w.heap.size w (w.alloc (.cells #[.string { data := #[88] }, .string { data := #[120] }, .string { data := #[72, 79, 77, 69] }, .string { data := #[47, 104] }] 39)) := (Below.refl _ _).alloc (Nat.le_refl _) _
  have hn := BL.new w 39 [.string { data := #[88] }, .string { data := #[120] }, .string { data := #[72, 79, 77, 69] }, .string { data := #[47, 104] }]
  have hpr : PrAt ((w.alloc (.cells #[.string { data := #[88] }, .string { data := #[120] }, .string { data := #[72, 79, 77, 69] }, .string { data := #[47, 104] }] 39)).heap.size) (w.alloc (.cells #[.string { data := #[88] }, .string { data := #[120] }, .string { data := #[72, 79, 77, 69] }, .string { data := #[47, 104] }] 39)) (some ⟨w.heap.size, 0, none⟩) env0 := fun k hk => by
    refine ⟨w.heap.size, 0, rfl, by simp, ?_⟩
    match k, hk with
    | 0, _ => exact ⟨hn.cell 0, hn.cell 1⟩
    | 1, _ => exact ⟨hn.cell 2, hn.cell 3⟩
  have hS1 := Split_any env0 text1 (some ⟨w.heap.size, 0, none⟩) 2 _ hpr env0_ok (by decide)
  rw [ex1] at hS1
  have HS1 : Hid (Calls Tryd.prog 10 #[.string { data := #[97, 32, 39, 98, 32, 99, 39, 32, 34, 100, 92, 110, 36, 88, 34, 32, 126, 47, 101, 32, 59, 32, 102] }, .slice (some ⟨w.heap.size, 0, none⟩) 2 2] (w.alloc (.cells #[.string { data := #[88] }, .string { data := #[120] }, .string { data := #[72, 79, 77, 69] }, .string { data := #[47, 104] }] 39)) (XP (w.alloc (.cells #[.string { data := #[88] }, .string { data := #[120] }, .string { data := #[72, 79, 77, 69] }, .string { data := #[47, 104] }] 39)) (.done [⟨words1, 1⟩, ⟨[⟨[102], 1, false⟩], 1⟩]))) := hS1
  have HS2 : Hid (∀ V : World, Calls Tryd.prog 10 #[.string { data := #[105, 102, 32, 123, 32, 97, 32, 59, 32, 98, 32, 125] }, .slice none 0 0] V (XP V (.done [⟨words2, 1⟩]))) := fun V => by
    have := Split_any [] text2 none 0 V (fun k hk => by cases hk) nil_ok (by decide)
    rw [ex2] at this
    exact this
  have HS3 : Hid (∀ V : World, Calls Tryd.prog 10 #[.string { data := #[39, 120] }, .slice none 0 0] V (XP V (.bad 4 1))) := fun V => by
    have := Split_any [] [39, 120] none 0 V (fun k hk => by cases hk) nil_ok (by decide)
    rw [ex3] at this
    exact this
  have HQ : Hid (∀ V : World, Calls Tryd.prog 6 #[.string { data := #[105, 116, 39, 115, 32, 36, 49] }] V fun e w' => e = .returned (.string { data := #[34, 105, 116, 39, 115, 32, 92, 36, 49, 34] }) ∧ Below V.heap.size V w') := fun V => Quote_any [105, 116, 39, 115, 32, 36, 49] (by decide) V
  have HB0 := Lib.hid hb0
  clear hb0 hn hpr hS1
  go_enter Tryd.func5, Tryd.ntmps5
  go_wp2_with fail
  refine HS1.out.mono ?_
  rintro _ w1 ⟨v1, ls1, hm1, rfl, hl1, hb1⟩
  obtain ⟨p0, p1, rfl, e0, e1⟩ := map_two hm1
  have HL1 := Lib.hid hl1
  have HE1 := Lib.hid (And.intro e0 e1)
  have HB1 := Lib.hid (HB0.out.trans (hb1.mono HB0.out.size))
  obtain ⟨g1, c1, hv1, hc1⟩ := hl1.row (by simp)
  subst hv1
  clear hm1 hl1 hb1 hc1 e0 e1
  go_wp2_with fail
  refine (HS2.out _).mono ?_
  rintro _ w2 ⟨v2, ls2, hm2, rfl, hl2, hb2⟩
  obtain ⟨q0, rfl, e2⟩ := map_one hm2
  have HL2 := Lib.hid hl2
  have HE2 := Lib.hid e2
  have HL12 := Lib.hid (HL1.out.below hb2)
  have HB2 := Lib.hid (HB1.out.trans (hb2.mono HB1.out.size))
  obtain ⟨g2, c2, hv2, hc2⟩ := hl2.row (by simp)
  subst hv2
  clear hm2 hl2 hb2 hc2 e2
  go_wp2_with fail
  refine (HS3.out _).mono ?_
  rintro _ w3 ⟨rfl, hb3⟩
  have HL13 := Lib.hid (HL12.out.below hb3)
  have HL23 := Lib.hid (HL2.out.below hb3)
  have HB3 := Lib.hid (HB2.out.trans (hb3.mono HB2.out.size))
  clear hb3
  have b0 : w3.cell? ⟨g1, 0, none⟩ = some p0.1 := by have := (HL13.out.cells (j := 0) rfl).1; simpa using this
  obtain ⟨Ap, cp, hp0⟩ := (HL13.out.ws (p := p0) (by simp)).slice
  rw [HE1.out.1] at hp0
  rw [hp0] at b0
  have HW0 : Hid (WsAt w3 (.slice Ap 4 cp) words1) := by
    have := HL13.out.ws (p := p0) (by simp)
    rw [HE1.out.1, hp0] at this
    exact this
  have HP0 := Lib.hid hp0
  clear hp0
  have HN1 := Lib.hid (BL.new w3 36 (wdsC words1))
  have HA3 : Hid (Below w3.heap.size w3 (w3.alloc (.cells (wdsC words1).toArray 36))) := (Below.refl _ _).alloc (Nat.le_refl _) _
  have HC1 : Hid (Calls Tryd.prog 11 #[.slice Ap 4 cp, .slice (some ⟨w3.heap.size, 0, none⟩) 4 4, .int .i64 0] (w3.alloc (.cells #[.string { data := #[97] }, .int .i64 1, .bool false, .string { data := #[98, 32, 99] }, .int .i64 1, .bool false, .string { data := #[100, 10, 120] }, .int .i64 1, .bool false, .string { data := #[47, 104, 47, 101] }, .int .i64 1, .bool false] 36)) fun e w' => e = .returned (.bool true) ∧ ∃ m, w' = (w3.alloc (.cells #[.string { data := #[97] }, .int .i64 1, .bool false, .string { data := #[98, 32, 99] }, .int .i64 1, .bool false, .string { data := #[100, 10, 120] }, .int .i64 1, .bool false, .string { data := #[47, 104, 47, 101] }, .int .i64 1, .bool false] 36)).drewN m) := by
    have ha := HW0.out.below HA3.out
    rw [← shW_zero words1] at ha
    exact same_any _ _ _ words1 0 ha (.inr ⟨w3.heap.size, 4, [], rfl, by rw [List.append_nil]; exact HN1.out⟩) (by decide) (by decide) (by decide)
  go_wp2_with fail
  refine HC1.out.mono ?_
  rintro _ w4 ⟨rfl, m4, hw4⟩
  have hb4 : Below w3.heap.size w3 w4 := by rw [hw4]; exact below_drewN HA3.out m4
  have HL14 := Lib.hid (HL13.out.below hb4)
  have HL24 := Lib.hid (HL23.out.below hb4)
  have HB4 := Lib.hid (HB3.out.trans (hb4.mono HB3.out.size))
  clear hw4 hb4
  have d0 : w4.cell? ⟨g2, 0, none⟩ = some q0.1 := by have := (HL24.out.cells (j := 0) rfl).1; simpa using this
  obtain ⟨Aq, cq, hq0⟩ := (HL24.out.ws (p := q0) (by simp)).slice
  rw [HE2.out] at hq0
  rw [hq0] at d0
  have HW1 : Hid (WsAt w4 (.slice Aq 2 cq) words2) := by
    have := HL24.out.ws (p := q0) (by simp)
    rw [HE2.out, hq0] at this
    exact this
  have HQ0 := Lib.hid hq0
  clear hq0
  have HN2 := Lib.hid (BL.new w4 36 (wdsC words2))
  have HA4 : Hid (Below w4.heap.size w4 (w4.alloc (.cells (wdsC words2).toArray 36))) := (Below.refl _ _).alloc (Nat.le_refl _) _
  have HC2 : Hid (Calls Tryd.prog 11 #[.slice Aq 2 cq, .slice (some ⟨w4.heap.size, 0, none⟩) 2 2, .int .i64 0] (w4.alloc (.cells #[.string { data := #[105, 102] }, .int .i64 1, .bool false, .string { data := #[32, 97, 32, 59, 32, 98, 32] }, .int .i64 1, .bool true] 36)) fun e w' => e = .returned (.bool true) ∧ ∃ m, w' = (w4.alloc (.cells #[.string { data := #[105, 102] }, .int .i64 1, .bool false, .string { data := #[32, 97, 32, 59, 32, 98, 32] }, .int .i64 1, .bool true] 36)).drewN m) := by
    have ha := HW1.out.below HA4.out
    rw [← shW_zero words2] at ha
    exact same_any _ _ _ words2 0 ha (.inr ⟨w4.heap.size, 2, [], rfl, by rw [List.append_nil]; exact HN2.out⟩) (by decide) (by decide) (by decide)
  go_wp2_with fail
  refine HC2.out.mono ?_
  rintro _ w5 ⟨rfl, m5, hw5⟩
  have hb5 : Below w4.heap.size w4 w5 := by rw [hw5]; exact below_drewN HA4.out m5
  have HL15 := Lib.hid (HL14.out.below hb5)
  have HB5 := Lib.hid (HB4.out.trans (hb5.mono HB4.out.size))
  clear hw5 hb5
  have k0 : w5.cell? ⟨g1, 1, none⟩ = some (.int .i64 1) := by
    have := (HL15.out.cells (j := 0) rfl).2
    rw [HE1.out.1] at this
    simpa using this
  have k1 : w5.cell? ⟨g1, 3, none⟩ = some (.int .i64 1) := by
    have := (HL15.out.cells (j := 1) rfl).2
    rw [HE1.out.2] at this
    simpa using this
  go_wp2_with fail
  refine (HQ.out _).mono ?_
  rintro _ w6 ⟨rfl, hb6⟩
  have HB6 := Lib.hid (HB5.out.trans (hb6.mono HB5.out.size))
  clear hb6
  go_wp2_with fail
  go_ret
  exact ⟨rfl, HB6.out⟩
end Go.Proofs.YtplikjbajejciaaDoor.Lex
