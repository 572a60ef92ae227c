/- The walk of the examples. -/
import Derived.Test.YtmhmbeofcedjjaaDoorVfe
import Derived.Test.YtmhmbeofcedjjaaDoorVpx
import Derived.Test.YtmhmbeofcedjjaaDoorVps
import Derived.Lib.SlBytesConst
namespace Go.Proofs.YtmhmbeofcedjjaaDoor.Vt
open Go.RowKit
open Cel (Blk Kept Tabs low Owns At good enc)

/-! ### Lists that were told -/
/-- A list of actions at hand. -/
def Lst (w : World) (B : Nat) (ov : Value) (out : List To) : Prop := w.ownsRow B 38 6 ov out.length (flat out) ∧ ∀ t ∈ out, Ints w B t.2 t.1.ps
/-- It is none of a parser's numbers. -/
def Apt (pv : Value) (out : List To) : Prop := ∀ t ∈ out, ∀ k, t.2.ownBlock = some k → pv.ownBlock ≠ some k
section
variable {w w' : World} {B B' pb db : Nat} {pv tv pv' tv' ov : Value} {S : Ps} {out : List To} {p : Nat → Prop}
theorem Lst.keep (h : Lst w B ov out) (k : Kept w w' p) (h1 : ∀ i, ov.ownBlock = some i → ¬ p i) (h2 : ∀ t ∈ out, ∀ i, t.2.ownBlock = some i → ¬ p i) : Lst w' B ov out :=
  ⟨k.owns h.1 h1, fun t ht => k.owns (h.2 t ht) (h2 t ht)⟩
theorem Lst.below (h : Lst w B ov out) (hb : Below w.heap.size w w') : Lst w' B ov out := h.keep (Cel.below_kept hb fun _ => False) (fun _ _ h => h) fun _ _ _ _ h => h
theorem mine_far (P : PAt w B' pb db pv tv S) {t : To} (ht : Ints w B t.2 t.1.ps) (hap : ∀ k, t.2.ownBlock = some k → pv.ownBlock ≠ some k) : ∀ i, t.2.ownBlock = some i → ¬ mine pb db pv tv i := fun i hi => by
  rintro (q | q | q | q)
  · exact own_far ht P.par (by decide) (by rw [hi, q])
  · exact own_far ht P.dec (by decide) (by rw [hi, q])
  · exact hap i hi q
  · exact own_apart ht P.txt (by decide) i hi q
theorem mine_far' (P : PAt w B' pb db pv tv S) {n : Nat} {xs : List Value} (h : w.ownsRow B 38 6 ov n xs) : ∀ i, ov.ownBlock = some i → ¬ mine pb db pv tv i := fun i hi => by
  rintro (q | q | q | q)
  · exact own_far h P.par (by decide) (by rw [hi, q])
  · exact own_far h P.dec (by decide) (by rw [hi, q])
  · exact own_apart h P.prm (by decide) i hi q
  · exact own_apart h P.txt (by decide) i hi q
/-- A list behind one more Feed of a parser. -/
theorem Lst.fed (h : Lst w B ov out) (P : PAt w B' pb db pv tv S) (hap : Apt pv out) (k : Kept w w' (mine pb db pv tv)) : Lst w' B ov out :=
  h.keep k (mine_far' P h.1) fun t ht => mine_far P (h.2 t ht) (hap t ht)
theorem Apt.fed (hap : Apt pv out) (h : Lst w B ov out) (P : PAt w B' pb db pv tv S) (hm : ∀ k, mine pb db pv' tv' k → mine pb db pv tv k ∨ w.heap.size ≤ k) : Apt pv' out := fun t ht i hi q => by
  rcases hm i (.inr (.inr (.inl q))) with q2 | q2
  · exact mine_far P (h.2 t ht) (hap t ht) i hi q2
  · have := ((h.2 t ht).lt i hi).2; omega
end
/-- A list that stands in a block of its own. -/
theorem own_blk {w : World} {g B : Nat} {t : TypeId} {n size : Nat} {cs : Array Value} {xs : List Value} (h : Blk w g t cs) (hB : B ≤ g) (e : cs.toList = xs) (hn : xs.length = n * size) (hm : n ≤ 1000000) : w.ownsRow B t size (.slice (some ⟨g, 0, none⟩) n n) n xs :=
  ⟨hn, .inr ⟨g, n, cs, rfl, hB, h, Nat.le_refl _, by unfold maxLen; omega, by rw [← Array.length_toList, e, hn], by rw [e, List.take_of_length_le (by omega)]⟩⟩
theorem inb_blk {w : World} {g : Nat} {l : Tx} {cs : Array Value} (h : Blk w g 5 cs) (e : cs.toList = byts l) : InB w (some ⟨g, 0, none⟩) l := fun i hi => by
  refine ⟨g, 0, cs, (0, 0), rfl, h, ?_⟩
  rw [Nat.zero_add, ← Array.getElem?_toList, e]
  simp [byts, List.getElem?_eq_getElem hi, List.getD_eq_getElem?_getD]
/-- What one Feed leaves, seen from the world in which its bytes were laid. -/
def FedL (w : World) (B pb db : Nat) (pv tv : Value) (S : Ps) (l : Tx) (e : Ending) (w' : World) : Prop :=
  ∃ ov out pv' tv', e = .returned ov ∧ PAt w' B pb db pv' tv' (run S l).1 ∧ Lst w' w.heap.size ov out ∧ outs out = (run S l).2 ∧ Apt pv' out ∧ Kept w w' (mine pb db pv tv) ∧ (∀ k, mine pb db pv' tv' k → mine pb db pv tv k ∨ w.heap.size ≤ k)
theorem feed_in {w w1 : World} {B pb db : Nat} {pv tv : Value} {S : Ps} (P : PAt w B pb db pv tv S) (ht : Tabs w) (hlow : low ≤ B) (k : Kept w w1 (fun _ => False)) (A : Option Addr) (c : Nat) (l : Tx) (hin : InB w1 A l) (hnew : ∀ g o, A = some ⟨g, o, none⟩ → w.heap.size ≤ g) (hll : l.length ≤ 1073741824) :
    Calls Tryd.prog 12 #[ptr pb, .slice A l.length c] w1 (FedL w B pb db pv tv S l) := by
  have hB := P.lt pb (.inl rfl)
  have P1 : PAt w1 B pb db pv tv S := P.keep k fun _ _ h => h
  have ht1 : Tabs w1 := ht.kept k (fun _ _ h => h) (by omega)
  refine (Feed_any P1 ht1 hlow A c l hin hll fun _ g o e q => ?_).mono ?_
  · have h1 := hnew g o e
    have h2 := (P.lt g (.inr (.inr (.inr q)))).2
    omega
  · rintro e w' ⟨ov, out, pv', tv', rfl, P', ho, hout, htold, hap, hk, hm⟩
    have hs := k.size
    refine ⟨ov, out, pv', tv', rfl, P', ⟨own_raise ho fun i hi => Nat.le_trans hs (ho.lt i hi).1, fun t h => own_raise (htold t h) fun i hi => Nat.le_trans hs ((htold t h).lt i hi).1⟩, hout, hap, ?_, fun i hi => (hm i hi).imp id fun h => Nat.le_trans hs h⟩
    exact (k.more fun _ h => h.elim).trans hk fun _ _ h => h
theorem kept_below {w w' : World} {B pb db : Nat} {pv tv : Value} {S : Ps} (P : PAt w B pb db pv tv S) (k : Kept w w' (mine pb db pv tv)) : Below B w w' := k.below (Nat.le_of_lt (Nat.lt_of_le_of_lt (P.lt pb (.inl rfl)).1 (P.lt pb (.inl rfl)).2)) fun i hi h => by have := (P.lt i h).1; omega
theorem ps_of {out : List To} {L : List Ac} (h : outs out = L) {n : Nat} (hL : ∀ a ∈ L, a.ps.length ≤ n) : ∀ t ∈ out, t.1.ps.length ≤ n := fun t ht => hL _ (h ▸ List.mem_map.2 ⟨t, ht, rfl⟩)
/-- A list that was told, and one that was written down. -/
theorem all_lit {w : World} {B g : Nat} {v : Value} {l l' : List To} {cs : Array Value} (hL : Lst w B v l) (h' : Blk w g 38 cs) (e : cs.toList = flat l') {C : Nat} (ht' : ∀ t ∈ l', Ints w C t.2 t.1.ps) (he : outs l = outs l') (hn : l'.length ≤ 1000000) (hp : ∀ a ∈ outs l', a.ps.length ≤ 32) (n : Nat) (hn' : n = l'.length) :
    Calls Tryd.prog 13 #[v, .slice (some ⟨g, 0, none⟩) n n] w fun e w' => e = .returned (.bool true) ∧ Below w.heap.size w w' := by
  subst hn'
  have hl : l.length ≤ 4294967296 := by have := congrArg List.length he; rw [outs_len, outs_len] at this; omega
  exact all_true v _ l l' w hL.1 (own_blk h' (Nat.zero_le g) e (flat_len l') hn) hL.2 ht' he hl fun t ht => Nat.le_trans (ps_of he hp t ht) (by decide)
/-- A list that was told can be read. -/
theorem Lst.rd {w : World} {B : Nat} {A : Option Addr} {m c : Nat} {l : List To} (h : Lst w B (.slice A m c) l) : RdA w.heap.size w A l := fun k hk => by
  refine ⟨?_, ?_⟩
  · obtain ⟨g, rfl⟩ := own_addr h.1 (by omega)
    exact ⟨g, 0, rfl, (h.1.lt g rfl).2, fun i hi => by rw [Nat.zero_add]; exact acts_cell h.1 k hk i hi⟩
  · have h2 := h.2 l[k] (List.getElem_mem hk)
    obtain ⟨A2, c2, e⟩ := own_slice h2
    refine ⟨A2, c2, e, fun j hj => ?_⟩
    rw [e] at h2
    obtain ⟨g, rfl⟩ := own_addr h2 (by omega)
    exact ⟨g, 0, rfl, (h2.lt g rfl).2, by rw [Nat.zero_add]; exact intsN_cell h2 j hj⟩
theorem ok_of {out : List To} {L : List Ac} (h : outs out = L) (hL : ∀ a ∈ L, Fitly a ∧ 0 ≤ a.b ∧ a.b ≤ 255) : Ok out := fun t ht => hL _ (h ▸ List.mem_map.2 ⟨t, ht, rfl⟩)
/-- The document's examples. -/
def ex1 : Tx := [27, 91, 63, 50, 53, 59, 104]
def ex2 : Tx := [97, 10, 195]
def ex3 : Tx := [169, 27, 93, 48, 59, 104, 105, 7]
def ac1 : Ac := ⟨4, 0, 104, [25, -1], [63], []⟩
def ac5 : Ac := ⟨5, 0, 0, [], [], [48, 59, 104, 105]⟩
theorem run_ex1 : run ps0 ex1 = (ps0, [ac1]) := by kernel_rfl
theorem run_ex2 : (run ps0 ex2).2 = [prt 97, ctl 10] := by kernel_rfl
theorem run_ex3 : (run (run ps0 ex2).1 ex3).2 = [prt 233, ac5] := by kernel_rfl
theorem prn_ex1 : prnAll [ac1] = ex1 := by kernel_rfl
theorem nm_ground : nm ps0.s = { data := #[103, 114, 111, 117, 110, 100] } := rfl
theorem convert_const (w : World) (C : Array Value) (n c : Nat) : (convert 24 24 (.slice (some ⟨w.heap.size, 0, none⟩) n c)).run Tryd.prog (w.alloc (.cells C 5)) = .ok (.slice (some ⟨w.heap.size, 0, none⟩) n c) (w.alloc (.cells C 5 (C.size, C.size + 1))) :=
  Lib.run_convert_bytes_const (P := Tryd.prog) w 24 5 C n c Tryd.underlying24 Tryd.underlying5
theorem inb_const (w : World) {C : Array Value} {l : Tx} (fr : Nat × Nat) (e : C.toList = byts l) : InB (w.alloc (.cells C 5 fr)) (some ⟨w.heap.size, 0, none⟩) l := fun i hi => by
  refine ⟨w.heap.size, 0, C, fr, rfl, heap_alloc_new w _, ?_⟩
  rw [Nat.zero_add, ← Array.getElem?_toList, e]
  simp [byts, List.getElem?_eq_getElem hi, List.getD_eq_getElem?_getD]
set_option maxRecDepth 100000 in
set_option maxHeartbeats 4000000 in
theorem shown_any (w : World) (ht : Tabs w) (hlow : low ≤ w.heap.size) : Calls Tryd.prog 8 #[] w fun e w' => e = .returned (.bool true) ∧ Below w.heap.size w w' := by
  have kc := convert_const
  go_enter Tryd.func8, Tryd.ntmps8
  go_wp2_with fail
  refine (new_any w w.heap.size (Nat.le_refl _)).mono ?_
  rintro e w1 ⟨rfl, P1, hb1, hz1⟩
  have hst := state_any P1
  rw [nm_ground] at hst
  have HZ1 := Lib.hid hz1
  clear hz1
  have ht1 := ht.below hb1 hlow
  have hf1 := fun (c : Nat) => feed_in P1 ht1 hlow (k := (Kept.refl w1 _).alloc (.cells #[.int .u8 27, .int .u8 91, .int .u8 63, .int .u8 50, .int .u8 53, .int .u8 59, .int .u8 104] 5 (7, 8))) (some ⟨w1.heap.size, 0, none⟩) c ex1 (inb_const w1 (7, 8) rfl) (fun g o e => by injection e with e; injection e with e; omega) (by decide)
  have HF1 := Lib.hid hf1
  clear hf1
  go_wp2_with (go_at_call 14; refine hst.mono ?_; rintro e w' ⟨rfl, rfl⟩)
  refine (HF1.out 7).mono ?_
  rintro e w2 ⟨ov1, out1, pv1, tv1, rfl, P2, L1, hout1, ap1, k1, m1⟩
  rw [run_ex1] at P2 hout1
  have HO1 := Lib.hid hout1
  have hB2 := kept_below P1 k1
  have ht2 := ht1.below hB2 hlow
  have hb2 : Below w.heap.size w w2 := hb1.trans hB2
  have hf2 := fun (c : Nat) => feed_in P2 ht2 hlow (k := (Kept.refl w2 _).alloc (.cells #[.int .u8 97, .int .u8 10, .int .u8 195] 5 (3, 4))) (some ⟨w2.heap.size, 0, none⟩) c ex2 (inb_const w2 (3, 4) rfl) (fun g o e => by injection e with e; injection e with e; omega) (by decide)
  have HF2 := Lib.hid hf2
  clear hf2 hout1 hst m1
  go_wp2_with fail
  refine (HF2.out 3).mono ?_
  rintro e w3 ⟨ov2, out2, pv2, tv2, rfl, P3, L2, hout2, ap2, k2, m2⟩
  rw [run_ex2] at hout2
  have HO2 := Lib.hid hout2
  have hB3 := kept_below P2 k2
  have ht3 := ht2.below hB3 hlow
  have hb3 : Below w.heap.size w w3 := hb2.trans hB3
  have hf3 := fun (c : Nat) => feed_in P3 ht3 hlow (k := (Kept.refl w3 _).alloc (.cells #[.int .u8 169, .int .u8 27, .int .u8 93, .int .u8 48, .int .u8 59, .int .u8 104, .int .u8 105, .int .u8 7] 5 (8, 9))) (some ⟨w3.heap.size, 0, none⟩) c ex3 (inb_const w3 (8, 9) rfl) (fun g o e => by injection e with e; injection e with e; omega) (by decide)
  have HF3 := Lib.hid hf3
  have L13 := L1.fed P2 ap1 k2
  have ap13 := ap1.fed L1 P2 m2
  clear hf3 hout2 L1 ap1
  go_wp2_with fail
  refine (HF3.out 8).mono ?_
  rintro e w4 ⟨ov3, out3, pv3, tv3, rfl, P4, L3, hout3, ap3, k3, m3⟩
  rw [run_ex3] at hout3
  have HO3 := Lib.hid hout3
  have hB4 := kept_below P3 k3
  have ht4 := ht3.below hB4 hlow
  have hb4 : Below w.heap.size w w4 := hb3.trans hB4
  have L14 := L13.fed P3 ap13 k3
  have L24 := L2.fed P3 ap2 k3
  clear hout3 L13 ap13 L2 ap2 k1 k2 k3 m2 m3 P1 P2 P3 ht1 ht2 ht3 hb1 hb2 hb3 hB2 hB3 hB4 ap3
  have q0 : Blk (w4.alloc (.cells #[.int .i64 25, .int .i64 (-1)] 3)) w4.heap.size 3 _ := Blk.new w4 _ _
  have q1 : Ints ((w4.alloc (.cells #[.int .i64 25, .int .i64 (-1)] 3)).alloc (.cells #[.int .i64 4, .int .i32 0, .int .u8 104, .slice (some ⟨w4.heap.size, 0, none⟩) 2 2, .string { data := #[63] }, .string { data := #[] }] 38)) 0 (.slice (some ⟨w4.heap.size, 0, none⟩) 2 2) [25, -1] := own_blk (q0.alloc _) (Nat.zero_le _) rfl rfl (by decide)
  have a1 := all_lit (l' := [(ac1, .slice (some ⟨w4.heap.size, 0, none⟩) 2 2)]) ((L14.keep (((Kept.refl w4 (fun _ => False)).alloc (.cells #[.int .i64 25, .int .i64 (-1)] 3)).alloc (.cells #[.int .i64 4, .int .i32 0, .int .u8 104, .slice (some ⟨w4.heap.size, 0, none⟩) 2 2, .string { data := #[63] }, .string { data := #[] }] 38)) (fun _ _ h => h) fun _ _ _ _ h => h)) (blk_new1 w4 _ _ _) rfl (by intro t h; simp at h; subst h; exact q1) HO1.out (by simp) (show ∀ a ∈ [ac1], a.ps.length ≤ 32 by decide) 1 rfl
  have A1 := Lib.hid a1
  have hz4 := hb4.size
  clear a1 q0 q1
  go_wp2_with fail
  refine A1.out.mono ?_
  rintro e w5 ⟨rfl, hb5'⟩
  have hb5 : Below w4.heap.size w4 w5 := (((Below.refl _ _).alloc (Nat.le_refl _) _).alloc (by simp) _).trans (hb5'.mono (by simp; omega))
  have L15 := L14.below hb5
  have L25 := L24.below hb5
  have L35 := L3.below hb5
  have ht5 := ht4.below hb5 (Nat.le_trans hlow hz4)
  have hb5w := hb4.trans (hb5.mono hz4)
  clear L14 L24 L3 ht4 hb5' hb5 hb4 hz4 P4
  have hz5 := hb5w.size
  have a2 := all_lit (l' := [(prt 97, nilV), (ctl 10, nilV)]) ((L25.keep ((Kept.refl w5 (fun _ => False)).alloc (.cells #[.int .i64 1, .int .i32 97, .int .u8 0, .slice none 0 0, .string { data := #[] }, .string { data := #[] }, .int .i64 2, .int .i32 0, .int .u8 10, .slice none 0 0, .string { data := #[] }, .string { data := #[] }] 38)) (fun _ _ h => h) fun _ _ _ _ h => h)) (Blk.new w5 _ _) rfl (C := 0) (by intro t h; simp at h; rcases h with rfl | rfl <;> exact ints_nil _ _) HO2.out (by decide) (by decide) 2 rfl
  have A2 := Lib.hid a2
  clear a2
  go_wp2_with fail
  refine A2.out.mono ?_
  rintro e w6 ⟨rfl, hb6'⟩
  have hb6 : Below w5.heap.size w5 w6 := ((Below.refl _ _).alloc (Nat.le_refl _) _).trans (hb6'.mono (by simp))
  have L16 := L15.below hb6
  have L36 := L35.below hb6
  have ht6 := ht5.below hb6 (Nat.le_trans hlow hz5)
  have hb6w := hb5w.trans (hb6.mono hz5)
  clear L15 L25 L35 ht5 hb6' hb6 hb5w hz5
  have hz6 := hb6w.size
  have a3 := all_lit (l' := [(prt 233, nilV), (ac5, nilV)]) ((L36.keep ((Kept.refl w6 (fun _ => False)).alloc (.cells #[.int .i64 1, .int .i32 233, .int .u8 0, .slice none 0 0, .string { data := #[] }, .string { data := #[] }, .int .i64 5, .int .i32 0, .int .u8 0, .slice none 0 0, .string { data := #[] }, .string { data := #[48, 59, 104, 105] }] 38)) (fun _ _ h => h) fun _ _ _ _ h => h)) (Blk.new w6 _ _) rfl (C := 0) (by intro t h; simp at h; rcases h with rfl | rfl <;> exact ints_nil _ _) HO3.out (by decide) (by decide) 2 rfl
  have A3 := Lib.hid a3
  clear a3
  go_wp2_with fail
  refine A3.out.mono ?_
  rintro e w7 ⟨rfl, hb7'⟩
  have hb7 : Below w6.heap.size w6 w7 := ((Below.refl _ _).alloc (Nat.le_refl _) _).trans (hb7'.mono (by simp))
  have L17 := L16.below hb7
  have ht7 := ht6.below hb7 (Nat.le_trans hlow hz6)
  have hb7w := hb6w.trans (hb7.mono hz6)
  have hz7 := hb7w.size
  obtain ⟨A, c, rfl⟩ := own_slice L17.1
  have hpr := Print_any A c out1 w7 ht7 (Nat.le_trans hlow hz7) L17.rd (ok_of HO1.out (by intro a h; simp at h; subst h; exact ⟨⟨by decide, by decide, by decide⟩, by decide, by decide⟩)) (by have := congrArg List.length HO1.out; rw [outs_len] at this; simp at this; omega)
  rw [HO1.out, prn_ex1] at hpr
  have HP := Lib.hid hpr
  clear hpr L16 L36 L17 ht6 ht7 hb7' hb7 hb6w hz6
  go_wp2_with fail
  refine HP.out.mono ?_
  rintro e w8 ⟨v8, rfl, ho8, hb8⟩
  have hcv := convert_byts ho8
  have hex : bs ex1 = { data := #[27, 91, 63, 50, 53, 59, 104] } := rfl
  rw [hex] at hcv
  go_wp2
  go_ret
  exact ⟨rfl, hb7w.trans (hb8.1.mono hz7)⟩
end Go.Proofs.YtmhmbeofcedjjaaDoor.Vt
