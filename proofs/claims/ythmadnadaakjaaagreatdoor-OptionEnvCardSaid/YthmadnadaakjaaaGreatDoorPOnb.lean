/- A number's text, within its bounds. -/
import Derived.Test.YthmadnadaakjaaaGreatDoorPObg
import Derived.Maps.RangeWalk
import Derived.Sort.KeysCollected
namespace Go.Proofs.YthmadnadaakjaaaGreatDoor.Opt
open Go.RowKit Go.Maps

def digCs : Tx := [48, 49, 50, 51, 52, 53, 54, 55, 56, 57]
set_option maxRecDepth 100000 in
set_option maxHeartbeats 4000000 in
theorem number_ok {B : Nat} (nm : Tx) (sc : Int) (kd fi : Tx) (le mo : Int) (ch : Tx) (t u : Tx) (v : Int) (htl : t.length ≤ 100) (hu : Lib.trimPrefix t [45] = u) (hu0 : u.isEmpty = false) (hu9 : u.length ≤ 9) (hut : (Lib.trimS u digCs).isEmpty = true)
    (hp : atoiP t = (v, false)) (h0 : -9223372036854775808 ≤ v) (h1 : v ≤ 9223372036854775807) (hle : le ≤ v) (hmo : v ≤ mo) (w : World) (ht : Tabs B w) (hB : B ≤ w.heap.size) :
    Calls Tryz.prog 166 #[optV ⟨nm, sc, kd, fi, le, mo, ch⟩, .string (bs t)] w fun e w' => e = .returned (.tuple #[.string (bs (Lib.itoa v)), .bool true]) ∧ Below w.heap.size w w' := by
  have hpx : ∀ w', Calls Tryz.prog 198 #[.string (bs t), .string ⟨#[45]⟩] w' fun e w'' => e = .returned (.string (bs u)) ∧ w'' = w' := fun w' => by
    have := Tryz.strings_TrimPrefix (bs t) ⟨#[45]⟩ w'
    rw [bs_list] at this
    have h2 : (Lib.trimPrefix t (⟨#[45]⟩ : ByteArray).data.toList) = u := hu
    rw [h2] at this
    exact this
  have H1 := Lib.hid hpx
  have H2 := Lib.hid (fun w' => trim_any digCs u (by decide) (by decide) (by omega) w')
  have H3 := Lib.hid (fun w' (hb : Below w.heap.size w w') => atoi_any t (by omega) w' (ht.below (hb.mono hB)))
  rw [hp] at H3
  have H4 := Lib.hid (fun w' (hb : Below w.heap.size w w') => itoa_any v h0 h1 w' (ht.below (hb.mono hB)))
  have hx : (bs u).toList.isEmpty = false := by rw [bs_tl]; exact hu0
  have hz : bs (Lib.trimS u digCs) = ⟨#[]⟩ := by rw [List.isEmpty_iff.1 hut]; rfl
  rw [hz] at H2
  have hsz : (bs u).size = u.length := bs_size u
  have hbl := BL.new w 73 [.string (bs nm), .int .i64 sc, .string (bs kd), .string (bs fi), .int .i64 le, .int .i64 mo, .string (bs ch)]
  have HBL := Lib.hid hbl
  have hb0 : Below w.heap.size w (w.alloc (.cells #[.string (bs nm), .int .i64 sc, .string (bs kd), .string (bs fi), .int .i64 le, .int .i64 mo, .string (bs ch)] 73)) := (Below.refl _ w).alloc (Nat.le_refl _) _
  clear hpx hu hut hp ht hz hu0 hbl h0 h1 htl
  dsimp only [optV, optL]
  go_enter Tryz.func166, Tryz.ntmps166
  go_wp2_with fail
  refine (H1.out _).mono ?_
  rintro e w1 ⟨rfl, hw1⟩
  subst hw1
  clear H1
  go_wp2_with fail
  refine (H2.out _).mono ?_
  rintro e w2 ⟨rfl, hb2⟩
  have hb2w := hb0.trans (hb2.mono (by simp))
  have HBL2 := Lib.hid (HBL.out.keep (hb2.block _ HBL.out.lt))
  have HB2 := Lib.hid hb2w
  clear H2 hb2 hb2w hb0 HBL
  go_wp2_with fail
  refine (H3.out _ HB2.out).mono ?_
  rintro e w3 ⟨⟨ev, rfl, hev⟩, hb3⟩
  have hbw := HB2.out.trans (hb3.mono HB2.out.size)
  have HBL3 := Lib.hid (HBL2.out.keep (hb3.block _ HBL2.out.lt))
  clear H3 hb3 hev HB2 HBL2
  go_upto_region 5 with fail
  have SS : ∀ V, Below w.heap.size w V → Below w3.heap.size w3 V → (V.cell? ⟨w.heap.size, 4, none⟩ = some (.int .i64 le) ∧ V.cell? ⟨w.heap.size, 5, none⟩ = some (.int .i64 mo) ∧ Below w3.heap.size w3 V ∧ Below w.heap.size w V) := fun V hV hX => by
    have k := HBL3.out.keep (hX.block _ HBL3.out.lt)
    exact ⟨k.cell 4, k.cell 5, hX, hV⟩
  have hdX : Below w3.heap.size w3 w3.drew := (Below.refl _ _).drew
  have hdw : Below w.heap.size w w3.drew := hbw.drew
  go_region_held3 (fun V => V.cell? ⟨w.heap.size, 4, none⟩ = some (.int .i64 le) ∧ V.cell? ⟨w.heap.size, 5, none⟩ = some (.int .i64 mo) ∧ Below w3.heap.size w3 V ∧ Below w.heap.size w V)
    (first
      | (refine SS _ ?_ ?_ <;> assumption)
      | fail)
    (first
      | (go_at_call 96; obtain ⟨_, _, kx, kw⟩ := (by assumption : _ ∧ _ ∧ Below w3.heap.size w3 _ ∧ Below w.heap.size w _); refine (H4.out _ kw).mono ?_; rintro _ w5 ⟨rfl, hb5⟩; have hbx := kx.trans (hb5.mono kx.size); have hbw5 := kw.trans (hb5.mono kw.size); clear hb5)
      | fail)
  all_goals go_wp2_with fail
  all_goals go_ret2
  all_goals exact ⟨rfl, by assumption⟩
theorem made_number (nm : Tx) (sc : Int) (fi : Tx) (le mo : Int) (ch : Tx) (t m : Tx) (w : World)
    (hn : ∀ w', Below w.heap.size w w' → Calls Tryz.prog 166 #[optV ⟨nm, sc, numK, fi, le, mo, ch⟩, .string (bs t)] w' fun e w'' => e = .returned (.tuple #[.string (bs m), .bool true]) ∧ Below w'.heap.size w' w'') :
    Calls Tryz.prog 117 #[optV ⟨nm, sc, numK, fi, le, mo, ch⟩, .string (bs t)] w fun e w' => e = .returned (.tuple #[.string (bs m), .bool true]) ∧ Below w.heap.size w w' := by
  have e1 : ((bs numK).toList == [110, 117, 109, 98, 101, 114]) = true := by rw [bs_tl]; rfl
  dsimp only [optV, optL] at hn ⊢
  have HN := Lib.hid hn
  clear hn
  have HR := Lib.hid ((BL.new w 73 [.string (bs nm), .int .i64 sc, .string (bs numK), .string (bs fi), .int .i64 le, .int .i64 mo, .string (bs ch)]).range (o := 0) (vs := [.string (bs nm), .int .i64 sc, .string (bs numK), .string (bs fi), .int .i64 le, .int .i64 mo, .string (bs ch)]) (fun j v hj => by rw [Nat.zero_add]; exact hj))
  generalize numK = kd at *
  go_enter Tryz.func117, Tryz.ntmps117
  go_wp2_with (refine wpList_load_mid rfl 73 _ rfl w.heap.size 0 rfl [.string (bs nm), .int .i64 sc, .string (bs kd), .string (bs fi), .int .i64 le, .int .i64 mo, .string (bs ch)] _ HR.out Tryz.underlying73 rfl (by kernel_rfl) ?_)
  refine (HN.out _ ((Below.refl _ w).alloc (Nat.le_refl _) _)).mono ?_
  rintro e w2 ⟨rfl, hb2⟩
  have HB := Lib.hid (((Below.refl _ w).alloc (Nat.le_refl _) (.cells #[.string (bs nm), .int .i64 sc, .string (bs kd), .string (bs fi), .int .i64 le, .int .i64 mo, .string (bs ch)] 73)).trans (hb2.mono (by simp)))
  clear hb2
  go_wp2_with fail
  go_ret2
  exact ⟨rfl, HB.out⟩
end Go.Proofs.YthmadnadaakjaaaGreatDoor.Opt
/- What an option will be. -/
namespace Go.Proofs.YthmadnadaakjaaaGreatDoor.Opt
open Go.RowKit Go.Maps

set_option maxRecDepth 100000 in
set_option maxHeartbeats 4000000 in
theorem value_ok (s : Option Addr) (nm : Tx) (sc : Int) (kd fi : Tx) (le mo : Int) (ch : Tx) (t : Tx) (m : ByteArray) (hk : kd ≠ arrK) (ht : t ≠ []) (w : World)
    (hm : ∀ w', Below w.heap.size w w' → Calls Tryz.prog 117 #[optV ⟨nm, sc, kd, fi, le, mo, ch⟩, .string (bs t)] w' fun e w'' => e = .returned (.tuple #[.string m, .bool true]) ∧ Below w'.heap.size w' w'') :
    Calls Tryz.prog 74 #[.pointer s, placeV ⟨nm, sc, kd, fi, le, mo, ch⟩ (-1), .string (bs t)] w fun e w' => e = .returned (.tuple #[.agg #[.string m, .slice none 0 0], .int .i64 0]) ∧ Below w.heap.size w w' := by
  have ek : ((bs kd).toList == [97, 114, 114, 97, 121]) = false := by rw [bs_tl]; exact beq_eq_false_iff_ne.2 hk
  have et : (bs t).toList.isEmpty = false := by rw [bs_tl]; cases t with | nil => exact absurd rfl ht | cons _ _ => rfl
  dsimp only [optV, optL] at hm
  have HM := Lib.hid hm
  have h0 := BL.new w 75 [.string (bs nm), .int .i64 sc, .string (bs kd), .string (bs fi), .int .i64 le, .int .i64 mo, .string (bs ch), .int .i64 (-1)]
  have h1 := BL.new (w.alloc (.cells #[.string (bs nm), .int .i64 sc, .string (bs kd), .string (bs fi), .int .i64 le, .int .i64 mo, .string (bs ch), .int .i64 (-1)] 75)) 90 [.string ⟨#[]⟩, .slice none 0 0]
  rw [size_alloc] at h1
  have h0a := h0.alloc (.cells #[.string ⟨#[]⟩, .slice none 0 0] 90)
  have HR := Lib.hid (h0a.range (o := 0) (vs := [.string (bs nm), .int .i64 sc, .string (bs kd), .string (bs fi), .int .i64 le, .int .i64 mo, .string (bs ch)]) (fun j v hj => by
    have h7 : j < 7 := (List.getElem?_eq_some_iff.1 hj).1
    rw [Nat.zero_add, ← hj]
    exact List.getElem?_append_left (l₁ := ([.string (bs nm), .int .i64 sc, .string (bs kd), .string (bs fi), .int .i64 le, .int .i64 mo, .string (bs ch)] : List Value)) (l₂ := ([.int .i64 (-1)] : List Value)) h7))
  have HZ := Lib.hid h1
  have hb0 : Below w.heap.size w ((w.alloc (.cells #[.string (bs nm), .int .i64 sc, .string (bs kd), .string (bs fi), .int .i64 le, .int .i64 mo, .string (bs ch), .int .i64 (-1)] 75)).alloc (.cells #[.string ⟨#[]⟩, .slice none 0 0] 90)) := ((Below.refl _ w).alloc (Nat.le_refl _) _).alloc (by simp) _
  have HB0 := Lib.hid hb0
  cases hf : ((bs kd).toList == [102, 108, 97, 103]) with
  | _ =>
    clear h0 h1 h0a hb0 hm hk ht
    dsimp only [placeV, placeL]
    go_enter Tryz.func74, Tryz.ntmps74
    go_wp2_with (refine wpList_load_mid rfl 73 _ rfl w.heap.size 0 rfl [.string (bs nm), .int .i64 sc, .string (bs kd), .string (bs fi), .int .i64 le, .int .i64 mo, .string (bs ch)] _ HR.out Tryz.underlying73 rfl (by kernel_rfl) ?_)
    refine (HM.out _ HB0.out).mono ?_
    rintro e w2 ⟨rfl, hb2⟩
    have HZ2 := Lib.hid (HZ.out.keep (hb2.block _ HZ.out.lt))
    have HB2 := Lib.hid (HB0.out.trans (hb2.mono HB0.out.size))
    have hs2 : w.heap.size + 2 ≤ w2.heap.size := by have := hb2.size; rw [size_alloc, size_alloc] at this; exact this
    clear hb2 HM HB0 HZ HR
    go_wp2_with (refine wpList_store_all rfl 90 _ _ rfl (w.heap.size + 1) [.string m, .slice none 0 0] rfl rfl 90 _ HZ2.out rfl (by kernel_rfl) (held_one _ _ _ _) ?_; intro w4 h0 ho hs4; have H0 := Lib.hid h0; have HO := Lib.hid ho; clear h0 ho)
    refine bodyPost_ret (results_ct (p := 6) (u := 7) (by kernel_rfl) _ _ (w.heap.size + 1) _ _ _ rfl H0.out Tryz.underlying90 rfl (by kernel_rfl)) rfl ⟨rfl, ?_⟩
    exact HB2.out.trans (HO.out.below (by omega) (by simp))
end Go.Proofs.YthmadnadaakjaaaGreatDoor.Opt
/- Has a set room for a value? -/
namespace Go.Proofs.YthmadnadaakjaaaGreatDoor.Opt
open Go.RowKit Go.Maps

def slenV (v : Value) : Nat := match v with
  | .agg cs => (match cs.toList with | [_, .slice _ n _] => n | _ => 0)
  | _ => 0
/-- What an option but that one counts. -/
def costP (D : DataW Value) (nm s : Tx) : Int := if s = nm then 0 else 1 + (slenV (valP D s) : Int)
def roomN (D : DataW Value) (nm : Tx) (ss : List Tx) : Int := (ss.map (costP D nm)).sum
theorem roomN_snoc (D : DataW Value) (nm : Tx) (ss : List Tx) (s : Tx) : roomN D nm (ss ++ [s]) = roomN D nm ss + costP D nm s := by simp [roomN]
theorem sum_perm {a b : List Int} (h : a.Perm b) : a.sum = b.sum := by
  induction h with
  | nil => rfl
  | cons x _ ih => simp [ih]
  | swap x y l => simp only [List.sum_cons]; omega
  | trans _ _ h1 h2 => exact h1.trans h2
theorem roomN_perm (D : DataW Value) (nm : Tx) {a b : List Tx} (h : a.Perm b) : roomN D nm a = roomN D nm b := sum_perm (h.map _)
theorem roomN_le (D : DataW Value) (nm : Tx) (hlen : ∀ s, slenV (valP D s) ≤ 1000) (ss : List Tx) : 0 ≤ roomN D nm ss ∧ roomN D nm ss ≤ 1001 * ss.length := by
  unfold roomN
  induction ss with
  | nil => simp
  | cons s ss ih =>
    have := hlen s
    have hc : 0 ≤ costP D nm s ∧ costP D nm s ≤ 1001 := by unfold costP; split <;> omega
    simp only [List.map_cons, List.sum_cons, List.length_cons]
    omega

set_option maxRecDepth 100000 in
set_option maxHeartbeats 4000000 in
theorem hasRoom_nil (b : Nat) (sc : Int) (q : Option Addr) (nm : Tx) (s : ByteArray) (A : Option Addr) (k c : Nat) (hk : k ≤ 1000) (w : World) (hs : SetB w b sc (.map none) q) :
    Calls Tryz.prog 75 #[.pointer (some ⟨b, 0, none⟩), .string (bs nm), .agg #[.string s, .slice A k c]] w fun e w' => e = .returned (.bool (decide ((1 : Int) + k ≤ 500))) ∧ Below w.heap.size w w' := by
  have c1 : w.cell? ⟨b, 1, none⟩ = some (.map none) := BL.cell hs 1
  have hlt := BL.lt hs
  have c1' : (w.alloc (.cells #[.string s, .slice A k c] 90)).cell? ⟨b, 1, none⟩ = some (.map none) := (((Below.refl _ w).alloc (Nat.le_refl _) _).cell (p := ⟨b, 1, none⟩) hlt).trans c1
  have hrg := run_range_nilMap (P := Tryz.prog) (w.alloc (.cells #[.string s, .slice A k c] 90)) 62 9 90 Tryz.underlying62
  have hnx : ∀ ty, (Instr.next (.pointer (some ⟨(w.alloc (.cells #[.string s, .slice A k c] 90)).heap.size, 0, none⟩)) false ty).run Tryz.prog ((w.alloc (.cells #[.string s, .slice A k c] 90)).alloc (.mapIter none 0 #[] 0)) = _ := fun ty => run_next_nilMap _ ty 0 0 #[]
  rw [size_alloc] at hrg hnx
  clear hs c1
  go_enter Tryz.func75, Tryz.ntmps75
  go_wp2_with fail
  refine wp_loop_rounds 1 ?_
  rw [rounds_succ]
  go_wp2_with fail
  go_ret
  exact ⟨rfl, ((Below.refl _ w).alloc (Nat.le_refl _) _).alloc (by simp) _⟩
theorem key_str {key : Value} {kl : Lit} (h : keyOf Tryz.prog 9 key = some kl) : ∃ x : Tx, key = .string (bs x) ∧ kl = .string x := by
  obtain ⟨x, hx, hk, _⟩ := Maps.keyOf_str Tryz.underlying9 h
  exact ⟨x, hx, hk⟩
theorem size_keys (D : DataW Value) : (strKeys D).length = Maps.size D := by cases D <;> simp [strKeys, Maps.size]

set_option maxRecDepth 100000 in
set_option maxHeartbeats 4000000 in
theorem hasRoom_map (b : Nat) (sc : Int) (q : Option Addr) (m n : Nat) (D : DataW Value) (nm : Tx) (s : ByteArray) (A : Option Addr) (k c : Nat) (hk : k ≤ 1000) (w : World) (hs : SetB w b sc (.map (some m)) q) (hown : w.ownsMap Tryz.prog 9 heldR m n D)
    (hsz : Maps.size D ≤ 1000) (hlen : ∀ s, slenV (valP D s) ≤ 1000) :
    Calls Tryz.prog 75 #[.pointer (some ⟨b, 0, none⟩), .string (bs nm), .agg #[.string s, .slice A k c]] w fun e w' => e = .returned (.bool (decide (1 + (k : Int) + roomN D nm (strKeys D) ≤ 500))) ∧ Below w.heap.size w w' := by
  have c1 : w.cell? ⟨b, 1, none⟩ = some (.map (some m)) := BL.cell hs 1
  have hlt := BL.lt hs
  have hml := hown.lt
  have c1' : (w.alloc (.cells #[.string s, .slice A k c] 90)).cell? ⟨b, 1, none⟩ = some (.map (some m)) := (((Below.refl _ w).alloc (Nat.le_refl _) _).cell (p := ⟨b, 1, none⟩) hlt).trans c1
  have HO := Lib.hid (hown.alloc (.cells #[.string s, .slice A k c] 90))
  have HK := Lib.hid (show ∀ ss : List Tx, ss.Perm (strKeys D) → roomN D nm ss = roomN D nm (strKeys D) from fun ss h => roomN_perm D nm h)
  have HL := Lib.hid hlen
  have e1 : (w.alloc (.cells #[.string s, .slice A k c] 90)).heap.size = w.heap.size + 1 := size_alloc _ _
  obtain ⟨R, hR⟩ : ∃ R, R = 1 + (k : Int) + roomN D nm (strKeys D) := ⟨_, rfl⟩
  rw [← hR]
  have HR := Lib.hid hR
  clear hs c1 hown hlen hR
  go_enter Tryz.func75, Tryz.ntmps75
  go_wp2_with (at_range; refine wpList_range_own _ rfl _ 62 rfl 9 90 lawK Tryz.underlying62 heldR m n D rfl HO.out ?_; intro w0 hrg0 hg0 hs0)
  go_frame
  rw [e1] at hrg0 hs0 ⊢
  have hb0 : Below w.heap.size w w0 := ((Below.refl _ w).alloc (Nat.le_refl _) (.cells #[.string s, .slice A k c] 90)).grown hg0 (by simp) (fun j hj => by cases hj)
  clear HO
  go_loopw [7] (fun x wr => ∃ (left : Lit → Bool) (cnt : Nat) (ss : List Tx), wr.ranges Tryz.prog 9 heldR m (w.heap.size + 1) n D left cnt ∧ Collected D left ss ∧ ss.length + cnt ≤ Maps.size D ∧ x = .int .i64 (1 + (k : Int) + roomN D nm ss) ∧ Below w.heap.size w wr ∧ w.heap.size + 2 ≤ wr.heap.size)
    (fun _ wr => wr.rangeLeft m (w.heap.size + 1))
  case atStart => exact ⟨_, _, [], hrg0, Collected.start D, by simp, by simp [roomN], hb0, by omega⟩
  case round =>
    obtain ⟨left, cnt, ss, hrg, hC, hcs, rfl, hbw, hws⟩ := hrel
    have hrl := roomN_le D nm HL.out ss
    obtain ⟨N, hN⟩ : ∃ N, N = 1 + (k : Int) + roomN D nm ss := ⟨_, rfl⟩
    rw [← hN]
    have hN0 : 0 ≤ N := by omega
    have hN1 : N ≤ 1100000 := by omega
    have HN := Lib.hid hN
    have HRG := Lib.hid hrg
    clear hN hrl
    go_wp2_with (at_next; refine wpList_next_ranges _ rfl _ rfl 9 lawK heldR (fun x : Tx => .string (bs x)) (fun y : ByteArray × Option Addr × Nat × Nat => .agg #[.string y.1, .slice y.2.1 y.2.2.1 y.2.2.2]) (fun key kl h => by obtain ⟨x, h1, _⟩ := key_str h; exact ⟨x, h1⟩) (fun v y h => by obtain ⟨s, A, n, c, h1, _⟩ := heldR_inv h; exact ⟨(s, A, n, c), h1⟩) m (w.heap.size + 1) n D left cnt rfl HRG.out ?_ ?_)
    · intro _ hl0
      have hp := hC.perm HRG.out.owns lawK Tryz.underlying9 hl0
      have hfin : N = R := by rw [HN.out, HR.out, HK.out ss hp]
      have HF := Lib.hid hfin
      clear hp hfin
      go_wp2_with fail
      go_ret
      exact ⟨by rw [← HF.out]; rfl, hbw⟩
    · intro x sv Av nv cv kl yd yp w1 cnt1 hkey hlk hv hat hrg1 hlt1 hg1 hs1 hen
      obtain ⟨x', ex, rfl⟩ := key_str hkey
      obtain rfl : x = x' := bs_inj (by simpa using ex)
      have hy : yd = .held (.agg #[.string sv, .slice Av nv cv]) := by
        have := (heldR_mk sv Av nv cv).symm.trans hv
        exact (congrArg Prod.fst (Option.some.inj this)).symm
      have hval : valP D x = .agg #[.string sv, .slice Av nv cv] := by unfold valP; rw [hat, hy]; rfl
      have hnv : nv ≤ 1000 := by have := HL.out x; rw [hval] at this; exact this
      have hC1 := hC.step hlk hat
      have hl1 : (ss ++ [x]).length + cnt1 ≤ Maps.size D := by rw [List.length_append]; simp; omega
      have hbw1 : Below w.heap.size w w1 := hbw.grown hg1 hbw.size (fun j hj => by cases hj; omega)
      have hr1 := (hrg1.kept (World.grownBy_alloc w1 (.cells #[.string sv, .slice Av nv cv] 90) none) (by simp) (by simp)).left_eq
      have HRG1 := Lib.hid hrg1
      have HC1 := Lib.hid hC1
      have HL1 := Lib.hid hl1
      have HBW1 := Lib.hid hbw1
      have hws1 : w.heap.size + 2 ≤ w1.heap.size := by omega
      have HR1 := Lib.hid hr1
      have hle := HRG.out.left_eq
      have HLE := Lib.hid hle
      clear hrg1 hC1 hl1 hbw1 hC hat hlk hkey hv hy hs1 hg1 hr1 hle ex hbw hcs
      by_cases hx : x = nm
      · have hcost : roomN D nm (ss ++ [x]) = roomN D nm ss := by rw [roomN_snoc, costP, if_pos hx]; omega
        have HCO := Lib.hid hcost
        have hq : ((bs x).toList == (bs nm).toList) = true := by rw [bs_tl, bs_tl, hx]; simp
        clear hcost hx hval
        go_wp2_with fail
        go_roundw
        case rel => exact ⟨_, cnt1, ss ++ [x], HRG1.out.kept (World.grownBy_alloc w1 _ none) (by simp) (by simp), HC1.out, HL1.out, by rw [HCO.out, ← HN.out], HBW1.out.alloc HBW1.out.size _, by simp; omega⟩
        case measure => rw [HR1.out, HLE.out]; exact hlt1
      · have hcost : roomN D nm (ss ++ [x]) = roomN D nm ss + (1 + (nv : Int)) := by
          rw [roomN_snoc, costP, if_neg hx, hval]; rfl
        have HCO := Lib.hid hcost
        have hq : ((bs x).toList == (bs nm).toList) = false := by rw [bs_tl, bs_tl]; exact beq_eq_false_iff_ne.2 hx
        have hnv0 : (0 : Int) ≤ (nv : Int) := Int.natCast_nonneg _
        clear hcost hx hval
        go_wp2_with fail
        go_roundw
        case rel => exact ⟨_, cnt1, ss ++ [x], HRG1.out.kept (World.grownBy_alloc w1 _ none) (by simp) (by simp), HC1.out, HL1.out, by rw [HCO.out]; have := HN.out; go_num, HBW1.out.alloc HBW1.out.size _, by simp; omega⟩
        case measure => rw [HR1.out, HLE.out]; exact hlt1
end Go.Proofs.YthmadnadaakjaaaGreatDoor.Opt
/- A value put under a name. -/
namespace Go.Proofs.YthmadnadaakjaaaGreatDoor.Opt
open Go.RowKit Go.Maps

def putD (D : DataW Value) (nm : Tx) (v : Value) : DataW Value := D.put (.string nm) (.held v)
theorem grownBy_set (w : World) (b i : Nat) (u : Value) : w.grownBy (w.setCell ⟨b, i, none⟩ u) (some b) :=
  ⟨rfl, rfl, rfl, by simp [World.setCell], fun k _ hn => Below.heap_setCell w ⟨b, i, none⟩ u k (fun e => hn (by rw [e]))⟩
theorem map_ne (m : Nat) (w : World) : (binOp .eql 62 (.map (some m)) (.map none)).run Tryz.prog w = .ok (.bool false) w := by kernel_rfl
theorem map_eq (w : World) : (binOp .eql 62 (.map none) (.map none)).run Tryz.prog w = .ok (.bool true) w := by kernel_rfl
theorem Only.of_grown {w w' : World} {b : Nat} (h : w.grownBy w' (some b)) : Only [b] w w' :=
  ⟨h.os, h.tape, h.output, h.size, fun k hk hn => h.block k hk (fun e => hn (by cases e; simp))⟩

set_option maxRecDepth 100000 in
set_option maxHeartbeats 4000000 in
theorem put_map (b : Nat) (sc : Int) (q : Option Addr) (m n : Nat) (D : DataW Value) (nm : Tx) (hl : nm.length ≤ maxLen) (s : ByteArray) (A : Option Addr) (k c : Nat) (w : World) (hs : SetB w b sc (.map (some m)) q) (hown : w.ownsMap Tryz.prog 9 heldR m n D) (hn : n < 100000) :
    Calls Tryz.prog 76 #[.pointer (some ⟨b, 1, none⟩), .string (bs nm), .agg #[.string s, .slice A k c]] w fun e w' => e = .returned (.tuple #[]) ∧ SetB w' b sc (.map (some m)) q ∧ w'.ownsMap Tryz.prog 9 heldR m (n + 1) (putD D nm (.agg #[.string s, .slice A k c])) ∧ Only [m] w w' := by
  have hbl : b < w.heap.size := BL.lt hs
  have hml := hown.lt
  have hbm : b ≠ m := fun e => by
    obtain ⟨es, cl, h, _⟩ := hown
    subst e; unfold SetB BL at hs; rw [hs] at h; cases h
  have hs2 : SetB (w.alloc (.cells #[.string s, .slice A k c] 90)) b sc (.map (some m)) q := BL.alloc hs _
  have c1 : (w.alloc (.cells #[.string s, .slice A k c] 90)).cell? ⟨b, 1, none⟩ = some (.map (some m)) := BL.cell hs2 1
  have hN := BL.new w 90 [.string s, .slice A k c]
  have k0 : (w.alloc (.cells #[.string s, .slice A k c] 90)).cell? ⟨w.heap.size, 0, none⟩ = some (.string s) := hN.cell 0
  have k1 : (w.alloc (.cells #[.string s, .slice A k c] 90)).cell? ⟨w.heap.size, 1, none⟩ = some (.slice A k c) := hN.cell 1
  have HOW := Lib.hid ((hown.alloc (.cells #[.string s, .slice A k c] 90)).drew)
  have HS := Lib.hid (show SetB (w.alloc (.cells #[.string s, .slice A k c] 90)).drew b sc (.map (some m)) q from hs2)
  have HO0 := Lib.hid (((Only.refl [m] w).alloc (.cells #[.string s, .slice A k c] 90)).drew)
  obtain ⟨w5, hrun, how5, hg5⟩ := HOW.out.update lawK Tryz.underlying62 (by unfold maxLen; omega) (keyS nm hl) (heldR_mk s A k c)
  have H5 := Lib.hid how5
  have HG5 := Lib.hid hg5
  clear how5 hg5
  have hmn := map_ne m (w.alloc (.cells #[.string s, .slice A k c] 90))
  clear hs hs2 hown hN
  go_enter Tryz.func76, Tryz.ntmps76
  go_wp2_with fail
  go_region
  go_wp2_with fail
  refine body_end rfl rfl ⟨rfl, ?_, H5.out, HO0.out.trans (Only.of_grown HG5.out)⟩
  exact BL.keep HS.out (HG5.out.block b (BL.lt HS.out) (fun e => hbm (by simpa using e)))
set_option maxRecDepth 100000 in
set_option maxHeartbeats 4000000 in
theorem put_nil (b : Nat) (sc : Int) (q : Option Addr) (nm : Tx) (hl : nm.length ≤ maxLen) (s : ByteArray) (A : Option Addr) (k c : Nat) (w : World) (hs : SetB w b sc (.map none) q) :
    Calls Tryz.prog 76 #[.pointer (some ⟨b, 1, none⟩), .string (bs nm), .agg #[.string s, .slice A k c]] w fun e w' => e = .returned (.tuple #[]) ∧ ∃ m, w.heap.size ≤ m ∧ SetB w' b sc (.map (some m)) q ∧ w'.ownsMap Tryz.prog 9 heldR m 1 (putD (.map []) nm (.agg #[.string s, .slice A k c])) ∧ Only [b] w w' := by
  have hbl : b < w.heap.size := BL.lt hs
  have hs2 : SetB (w.alloc (.cells #[.string s, .slice A k c] 90)) b sc (.map none) q := BL.alloc hs _
  have c1 : (w.alloc (.cells #[.string s, .slice A k c] 90)).cell? ⟨b, 1, none⟩ = some (.map none) := BL.cell hs2 1
  have hmn := map_eq (w.alloc (.cells #[.string s, .slice A k c] 90))
  have hsz : (w.alloc (.cells #[.string s, .slice A k c] 90)).heap.size = w.heap.size + 1 := size_alloc _ _
  have hN := BL.new w 90 [.string s, .slice A k c]
  generalize hX : w.alloc (.cells #[.string s, .slice A k c] 90) = X at *
  have hmm := @run_makeMap Tryz.prog
  have f3 : (X.alloc (Obj.map #[] 0)).frozen? ⟨b, 1, none⟩ = false := BL.frozen (BL.alloc hs2 _) 1
  have fX : X.frozen? ⟨b, 1, none⟩ = false := BL.frozen hs2 1
  have hss : (X.setCell ⟨b, 1, none⟩ (.map (some (w.heap.size + 1)))).heap.size = w.heap.size + 1 := by simp [World.setCell, hsz]
  have hs4 : SetB ((X.setCell ⟨b, 1, none⟩ (.map (some (w.heap.size + 1)))).alloc (.map #[] 0)) b sc (.map (some (w.heap.size + 1))) q := BL.alloc (BL.set_ hs2 1 _) _
  have hk4 : (BL ((X.setCell ⟨b, 1, none⟩ (.map (some (w.heap.size + 1)))).alloc (.map #[] 0)) w.heap.size 90 [.string s, .slice A k c]) := (hN.keep (Below.heap_setCell _ _ _ _ (show w.heap.size ≠ b by omega))).alloc _
  have ho4 : ((X.setCell ⟨b, 1, none⟩ (.map (some (w.heap.size + 1)))).alloc (.map #[] 0)).ownsMap Tryz.prog 9 heldR (w.heap.size + 1) 0 (.map []) := by
    have := World.ownsMap_made (X.setCell ⟨b, 1, none⟩ (.map (some (w.heap.size + 1)))) Tryz.prog 9 heldR
    rwa [hss] at this
  have hO4 : Only [b] w ((X.setCell ⟨b, 1, none⟩ (.map (some (w.heap.size + 1)))).alloc (.map #[] 0)) := by
    rw [← hX]; exact (((Only.refl [b] w).alloc _).setCell (.inl (by simp)) _).alloc _
  generalize hY : (X.setCell ⟨b, 1, none⟩ (.map (some (w.heap.size + 1)))).alloc (.map #[] 0) = Y at *
  obtain ⟨w5, hrun, how5, hg5⟩ := (ho4.drew).update lawK Tryz.underlying62 (by unfold maxLen; omega) (keyS nm hl) (heldR_mk s A k c)
  have c4 : Y.cell? ⟨b, 1, none⟩ = some (.map (some (w.heap.size + 1))) := BL.cell hs4 1
  have k0 : Y.cell? ⟨w.heap.size, 0, none⟩ = some (.string s) := hk4.cell 0
  have k1 : Y.cell? ⟨w.heap.size, 1, none⟩ = some (.slice A k c) := hk4.cell 1
  have H5 := Lib.hid how5
  have HG5 := Lib.hid hg5
  have HS := Lib.hid (show SetB Y.drew b sc (.map (some (w.heap.size + 1))) q from hs4)
  have HO4 := Lib.hid (show Only [b] w Y.drew from hO4.drew)
  have hbX : b < X.heap.size := by omega
  have hwX : w.heap.size ≤ X.heap.size := by omega
  clear how5 hg5 hs hs2 hs4 ho4 hO4 hN hk4
  go_enter Tryz.func76, Tryz.ntmps76
  go_wp2_with fail
  go_region
  go_wp2_with fail
  refine body_end rfl rfl ⟨rfl, w.heap.size + 1, by omega, ?_, H5.out, HO4.out.trans2 (Only.of_grown HG5.out) (fun x hx => .inr (by simp at hx; omega))⟩
  exact BL.keep HS.out (HG5.out.block b (BL.lt HS.out) (fun e => by have := Option.some.inj e; omega))
end Go.Proofs.YthmadnadaakjaaaGreatDoor.Opt
/- Environments: levels of variables, and what the nearest one says of a name. -/
namespace Go.Proofs.YthmadnadaakjaaaGreatDoor.Opt.Ev
open Go.RowKit Go.Maps Go.Proofs.YthmadnadaakjaaaGreatDoor.Opt

def zeroH : Value := .agg #[.string ⟨#[]⟩, .bool false]
/-- How a variable reads: a text and whether it is hidden. -/
def varR (v : Value) : Option (DataW Value × List MemPlace) := match v with
  | .agg cs => (match cs.toList with | [.string _, .bool _] => some (.held v, []) | _ => none)
  | _ => none
theorem varR_mk (s : ByteArray) (h : Bool) : varR (.agg #[.string s, .bool h]) = some (.held (.agg #[.string s, .bool h]), []) := rfl
theorem var_one (s : ByteArray) (h : Bool) : ([.string s, .bool h] : List Value).toArray.all (·.oneCell') = true := by simp [Value.oneCell']
theorem varR_inv {v : Value} {z : DataW Value × List MemPlace} (h : varR v = some z) : ∃ s b, v = .agg #[.string s, .bool b] ∧ z = (.held v, []) := by
  unfold varR at h
  cases v with
  | agg cs =>
    obtain ⟨l⟩ := cs
    dsimp only at h
    split at h
    · exact ⟨_, _, rfl, by cases h; rfl⟩
    · cases h
  | _ => cases h
def unheld : DataW Value → Value
  | .held v => v
  | _ => zeroH
def valP (D : DataW Value) (nm : Tx) : Value := unheld (D.atKey (.string nm) (.held zeroH))
theorem zeroHr (w : World) : (zeroValue 123).run Tryz.prog w = .ok zeroH w := by kernel_rfl
/-- The map of a level: nil, or a block. -/
def OwnAt (w : World) (own : Value) (D : DataW Value) (n : Nat) : Prop := (own = .map none ∧ D = .map []) ∨ ∃ m, own = .map (some m) ∧ w.ownsMap Tryz.prog 9 varR m n D
section
variable {ops : Array Oper} {rest : List Oper} {o : Oper} {a : Act} {w : World} {Q : Exit → Act → World → Prop}
/-- A name looked up in a level's map. -/
theorem wpList_look (hg : o.guard = none) (m x : Operand) (hop : o.op = Op.lookup 112 m x true) (own : Value) (D : DataW Value) (n : Nat) (hm : a.eval m = own) (hown : OwnAt w own D n) (nm : Tx) (hl : nm.length ≤ maxLen) (hx : a.eval x = .string (bs nm))
    (hK : ∀ s h, valP D nm = .agg #[.string s, .bool h] → wpList Tryz.prog ops Q rest (a.put o.dst (.tuple #[.agg #[.string s, .bool h], .bool (hasP D nm)])) w) :
    wpList Tryz.prog ops Q (o :: rest) a w := by
  rcases hown with ⟨rfl, rfl⟩ | ⟨b, rfl, hown⟩
  · refine wpList_plain hg fun K' hK' => ?_
    have hrun := Maps.look_nil (t := 112) (w := w) true lawK Tryz.underlying112 (zeroHr w) (keyS nm hl)
    unfold Oper.wp
    simp [execOp, hop, hm, hx, hrun, Result.andThen]
    exact hK' _ _ (hK ⟨#[]⟩ false rfl)
  · refine wpList_lookup_own_ok w hg m x 112 hop 9 123 lawK Tryz.underlying112 varR (zeroHr w) (.held zeroH) [] rfl b n D hm hown _ (.string nm) hx (keyS nm hl) ?_
    intro v ps hv
    obtain ⟨s, h, rfl, hz⟩ := varR_inv hv
    refine hK s h ?_
    have h1 : D.atKey (.string nm) (.held zeroH) = .held (.agg #[.string s, .bool h]) := congrArg Prod.fst hz
    unfold valP
    rw [h1]; rfl
end
/-- An environment's block. -/
def EnvB (w : World) (b : Nat) (own : Value) (q : Option Addr) : Prop := BL w b 117 [own, .pointer q]
/-- Levels over one another. -/
def LvAt (w : World) : Option Addr → List (DataW Value) → Prop
  | p, [] => p = none
  | p, D :: r => ∃ b own q n, p = some ⟨b, 0, none⟩ ∧ w.cell? ⟨b, 0, none⟩ = some own ∧ w.cell? ⟨b, 1, none⟩ = some (.pointer q) ∧ OwnAt w own D n ∧ LvAt w q r
def lookP : List (DataW Value) → Tx → Option Value
  | [], _ => none
  | D :: r, nm => if hasP D nm = true then some (valP D nm) else lookP r nm
theorem OwnAt.below {B : Nat} {w w' : World} {own : Value} {D : DataW Value} {n : Nat} (h : OwnAt w own D n) (hb : Below B w w') (hB : ∀ m, own = .map (some m) → m < B) : OwnAt w' own D n := by
  rcases h with h | ⟨m, rfl, h⟩
  · exact .inl h
  · obtain ⟨es, clock, hh, h2⟩ := h
    exact .inr ⟨m, rfl, es, clock, (hb.block m (hB m rfl)).trans hh, h2⟩
theorem OwnAt.lt {w : World} {own : Value} {D : DataW Value} {n : Nat} (h : OwnAt w own D n) : ∀ m, own = .map (some m) → m < w.heap.size := fun m e => by
  rcases h with ⟨h, _⟩ | ⟨m2, h, h3⟩
  · rw [h] at e; cases e
  · rw [h] at e; cases e; exact h3.lt
theorem LvAt.later {w w' : World} (hb : Below w.heap.size w w') : ∀ {p : Option Addr} {ls : List (DataW Value)}, LvAt w p ls → LvAt w' p ls
  | _, [], h => h
  | _, _ :: _, ⟨b, own, q, n, e, h1, h2, h3, h4⟩ => ⟨b, own, q, n, e, (hb.cell (p := ⟨b, 0, none⟩) (cell_lt h1)).trans h1, (hb.cell (p := ⟨b, 1, none⟩) (cell_lt h2)).trans h2, h3.below hb h3.lt, LvAt.later hb h4⟩
/-- What lookUp hands back. -/
def lookV (r : Option Value) : Value := match r with
  | some v => .tuple #[v, .bool true]
  | none => .tuple #[zeroH, .bool false]

set_option maxRecDepth 100000 in
set_option maxHeartbeats 4000000 in
theorem lookUp_any (p : Option Addr) (ls : List (DataW Value)) (nm : Tx) (hl : nm.length ≤ maxLen) (w : World) (h : LvAt w p ls) :
    Calls Tryz.prog 64 #[.pointer p, .string (bs nm)] w fun e w' => e = .returned (lookV (lookP ls nm)) ∧ Below w.heap.size w w' := by
  have HH := Lib.hid h
  clear h
  obtain ⟨R, hR⟩ : ∃ R, R = lookV (lookP ls nm) := ⟨_, rfl⟩
  rw [← hR]
  have HR := Lib.hid hR
  clear hR
  have HZ := Lib.hid (BL.new w 123 [.string ⟨#[]⟩, .bool false])
  go_enter Tryz.func64, Tryz.ntmps64
  go_wp2_with fail
  go_loopg [6] ls.length (fun k p wr => ∃ q rest, p = .pointer q ∧ rest.length = k ∧ LvAt wr q rest ∧ R = lookV (lookP rest nm) ∧ Below w.heap.size w wr ∧ BL wr w.heap.size 123 [.string ⟨#[]⟩, .bool false] ∧ w.heap.size + 1 ≤ wr.heap.size)
  case atStart => exact ⟨p, ls, rfl, rfl, HH.out.later ((Below.refl _ w).alloc (Nat.le_refl _) _), HR.out, (Below.refl _ w).alloc (Nat.le_refl _) _, HZ.out, by simp⟩
  case round =>
    obtain ⟨q, rest, rfl, hk, hlv, hRr, hb, hz, hs⟩ := hrel
    cases rest with
    | nil =>
      obtain rfl : q = none := hlv
      have HV := Lib.hid (show R = .tuple #[zeroH, .bool false] from hRr)
      have HB := Lib.hid hb
      have HZ1 := Lib.hid (hz.alloc (.cells #[.string ⟨#[]⟩, .bool false] 123))
      have HN := Lib.hid ((BL.new wr 123 [.string ⟨#[]⟩, .bool false]).range (o := 0) (vs := [.string ⟨#[]⟩, .bool false]) (fun j v hj => by rw [Nat.zero_add]; exact hj))
      clear hRr hb hz HR HH HZ hk
      go_wp2_with (first
        | (refine wpList_load_mid rfl 123 _ rfl wr.heap.size 0 rfl [.string ⟨#[]⟩, .bool false] _ HN.out Tryz.underlying123 rfl (by kernel_rfl) ?_)
        | (refine wpList_store_all rfl 123 _ _ rfl w.heap.size [.string ⟨#[]⟩, .bool false] rfl rfl 123 _ HZ1.out rfl (by kernel_rfl) (var_one _ _) ?_; intro w4 h0 ho hs4; have H0 := Lib.hid h0; have HO := Lib.hid ho; clear h0 ho))
      refine bodyPost_ret (results_ct (p := 4) (u := 5) (by kernel_rfl) _ _ w.heap.size _ _ _ rfl H0.out Tryz.underlying123 rfl (by kernel_rfl)) rfl ⟨by rw [HV.out]; rfl, ?_⟩
      exact (HB.out.alloc (by omega) _).trans (HO.out.below (by simp; omega) (by simp))
    | cons D rest =>
      obtain ⟨b, own, q2, n, rfl, c1, c2, how, hr⟩ := hlv
      have HB := Lib.hid hb
      have HOW := Lib.hid how
      have HLR := Lib.hid hr
      have HRr := Lib.hid hRr
      have HZ0 := Lib.hid hz
      clear hb hz HR HH HZ how hr hRr
      have hne : ¬ b = wr.heap.size := by have := cell_lt c1; omega
      cases hh : hasP D nm with
      | false =>
        have HV := Lib.hid (show R = lookV (lookP rest nm) by rw [HRr.out, lookP, if_neg (by rw [hh]; simp)])
        clear HRr
        go_wp2_with (at_lookup; refine wpList_look rfl _ _ rfl own D n rfl HOW.out nm hl rfl ?_; intro s hd hv; rw [hh]; clear hv; have c2' := (((Below.refl _ wr).alloc (Nat.le_refl _) (.cells #[.string s, .bool hd] 123)).cell (p := ⟨b, 1, none⟩ ) (cell_lt c1)).trans c2)
        go_roundg rest.length
        case measure => simp only [List.length_cons] at hk; omega
        case rel => exact ⟨q2, rest, rfl, rfl, HLR.out.later ((Below.refl _ wr).alloc (Nat.le_refl _) _), HV.out, HB.out.alloc (by omega) _, HZ0.out.alloc _, by simp; omega⟩
      | true =>
        go_wp2_with (first
          | (at_lookup; refine wpList_look rfl _ _ rfl own D n rfl HOW.out nm hl rfl ?_; intro s hd hv; rw [hh]; have HVV := Lib.hid hv; clear hv; have HZ1 := Lib.hid (HZ0.out.alloc (.cells #[.string s, .bool hd] 123)))
          | (refine wpList_store_all rfl 123 _ _ rfl w.heap.size [.string _, .bool _] rfl rfl 123 _ HZ1.out rfl (by kernel_rfl) (var_one _ _) ?_; intro w4 h0 ho hs4; have H0 := Lib.hid h0; have HO := Lib.hid ho; clear h0 ho))
        have HV := Lib.hid (show R = .tuple #[.agg #[.string s, .bool hd], .bool true] by rw [HRr.out, lookP, if_pos hh, ← HVV.out]; rfl)
        refine bodyPost_ret (results_ct (p := 4) (u := 5) (by kernel_rfl) _ _ w.heap.size _ _ _ rfl H0.out Tryz.underlying123 rfl (by kernel_rfl)) rfl ⟨by rw [HV.out]; rfl, ?_⟩
        exact (HB.out.alloc (by omega) _).trans (HO.out.below (by simp; omega) (by simp))
end Go.Proofs.YthmadnadaakjaaaGreatDoor.Opt.Ev
/- A variable put under a name. -/
namespace Go.Proofs.YthmadnadaakjaaaGreatDoor.Opt.Ev
open Go.RowKit Go.Maps Go.Proofs.YthmadnadaakjaaaGreatDoor.Opt

def putD (D : DataW Value) (nm : Tx) (v : Value) : DataW Value := D.put (.string nm) (.held v)
theorem map_ne (m : Nat) (w : World) : (binOp .eql 112 (.map (some m)) (.map none)).run Tryz.prog w = .ok (.bool false) w := by kernel_rfl
theorem map_eq (w : World) : (binOp .eql 112 (.map none) (.map none)).run Tryz.prog w = .ok (.bool true) w := by kernel_rfl
set_option maxRecDepth 100000 in
set_option maxHeartbeats 4000000 in
theorem put_map (b : Nat) (q : Option Addr) (m n : Nat) (D : DataW Value) (nm : Tx) (hl : nm.length ≤ maxLen) (s : ByteArray) (hd : Bool) (w : World) (hs : EnvB w b (.map (some m)) q) (hown : w.ownsMap Tryz.prog 9 varR m n D) (hn : n < 100000) :
    Calls Tryz.prog 61 #[.pointer (some ⟨b, 0, none⟩), .string (bs nm), .agg #[.string s, .bool hd]] w fun e w' => e = .returned (.tuple #[]) ∧ EnvB w' b (.map (some m)) q ∧ w'.ownsMap Tryz.prog 9 varR m (n + 1) (putD D nm (.agg #[.string s, .bool hd])) ∧ Only [m] w w' := by
  have hbl : b < w.heap.size := BL.lt hs
  have hml := hown.lt
  have hbm : b ≠ m := fun e => by
    obtain ⟨es, cl, h, _⟩ := hown
    subst e; unfold EnvB BL at hs; rw [hs] at h; cases h
  have hs2 : EnvB (w.alloc (.cells #[.string s, .bool hd] 123)) b (.map (some m)) q := BL.alloc hs _
  have c1 : (w.alloc (.cells #[.string s, .bool hd] 123)).cell? ⟨b, 0, none⟩ = some (.map (some m)) := BL.cell hs2 0
  have hN := BL.new w 123 [.string s, .bool hd]
  have k0 : (w.alloc (.cells #[.string s, .bool hd] 123)).cell? ⟨w.heap.size, 0, none⟩ = some (.string s) := hN.cell 0
  have k1 : (w.alloc (.cells #[.string s, .bool hd] 123)).cell? ⟨w.heap.size, 1, none⟩ = some (.bool hd) := hN.cell 1
  have HOW := Lib.hid ((hown.alloc (.cells #[.string s, .bool hd] 123)).drew)
  have HS := Lib.hid (show EnvB (w.alloc (.cells #[.string s, .bool hd] 123)).drew b (.map (some m)) q from hs2)
  have HO0 := Lib.hid (((Only.refl [m] w).alloc (.cells #[.string s, .bool hd] 123)).drew)
  obtain ⟨w5, hrun, how5, hg5⟩ := HOW.out.update lawK Tryz.underlying112 (by unfold maxLen; omega) (keyS nm hl) (varR_mk s hd)
  have H5 := Lib.hid how5
  have HG5 := Lib.hid hg5
  clear how5 hg5
  have hmn := map_ne m (w.alloc (.cells #[.string s, .bool hd] 123))
  clear hs hs2 hown hN
  go_enter Tryz.func61, Tryz.ntmps61
  go_wp2_with fail
  go_region
  go_wp2_with fail
  refine body_end rfl rfl ⟨rfl, ?_, H5.out, HO0.out.trans (Only.of_grown HG5.out)⟩
  exact BL.keep HS.out (HG5.out.block b (BL.lt HS.out) (fun e => hbm (by simpa using e)))
set_option maxRecDepth 100000 in
set_option maxHeartbeats 4000000 in
theorem put_nil (b : Nat) (q : Option Addr) (nm : Tx) (hl : nm.length ≤ maxLen) (s : ByteArray) (hd : Bool) (w : World) (hs : EnvB w b (.map none) q) :
    Calls Tryz.prog 61 #[.pointer (some ⟨b, 0, none⟩), .string (bs nm), .agg #[.string s, .bool hd]] w fun e w' => e = .returned (.tuple #[]) ∧ ∃ m, w.heap.size ≤ m ∧ EnvB w' b (.map (some m)) q ∧ w'.ownsMap Tryz.prog 9 varR m 1 (putD (.map []) nm (.agg #[.string s, .bool hd])) ∧ Only [b] w w' := by
  have hbl : b < w.heap.size := BL.lt hs
  have hs2 : EnvB (w.alloc (.cells #[.string s, .bool hd] 123)) b (.map none) q := BL.alloc hs _
  have c1 : (w.alloc (.cells #[.string s, .bool hd] 123)).cell? ⟨b, 0, none⟩ = some (.map none) := BL.cell hs2 0
  have hmn := map_eq (w.alloc (.cells #[.string s, .bool hd] 123))
  have hsz : (w.alloc (.cells #[.string s, .bool hd] 123)).heap.size = w.heap.size + 1 := size_alloc _ _
  have hN := BL.new w 123 [.string s, .bool hd]
  generalize hX : w.alloc (.cells #[.string s, .bool hd] 123) = X at *
  have hmm := @run_makeMap Tryz.prog
  have f3 : (X.alloc (Obj.map #[] 0)).frozen? ⟨b, 0, none⟩ = false := BL.frozen (BL.alloc hs2 _) 0
  have fX : X.frozen? ⟨b, 0, none⟩ = false := BL.frozen hs2 0
  have hss : (X.setCell ⟨b, 0, none⟩ (.map (some (w.heap.size + 1)))).heap.size = w.heap.size + 1 := by simp [World.setCell, hsz]
  have hs4 : EnvB ((X.setCell ⟨b, 0, none⟩ (.map (some (w.heap.size + 1)))).alloc (.map #[] 0)) b (.map (some (w.heap.size + 1))) q := BL.alloc (BL.set_ hs2 0 _) _
  have hk4 : (BL ((X.setCell ⟨b, 0, none⟩ (.map (some (w.heap.size + 1)))).alloc (.map #[] 0)) w.heap.size 123 [.string s, .bool hd]) := (hN.keep (Below.heap_setCell _ _ _ _ (show w.heap.size ≠ b by omega))).alloc _
  have ho4 : ((X.setCell ⟨b, 0, none⟩ (.map (some (w.heap.size + 1)))).alloc (.map #[] 0)).ownsMap Tryz.prog 9 varR (w.heap.size + 1) 0 (.map []) := by
    have := World.ownsMap_made (X.setCell ⟨b, 0, none⟩ (.map (some (w.heap.size + 1)))) Tryz.prog 9 varR
    rwa [hss] at this
  have hO4 : Only [b] w ((X.setCell ⟨b, 0, none⟩ (.map (some (w.heap.size + 1)))).alloc (.map #[] 0)) := by
    rw [← hX]; exact (((Only.refl [b] w).alloc _).setCell (.inl (by simp)) _).alloc _
  generalize hY : (X.setCell ⟨b, 0, none⟩ (.map (some (w.heap.size + 1)))).alloc (.map #[] 0) = Y at *
  obtain ⟨w5, hrun, how5, hg5⟩ := (ho4.drew).update lawK Tryz.underlying112 (by unfold maxLen; omega) (keyS nm hl) (varR_mk s hd)
  have c4 : Y.cell? ⟨b, 0, none⟩ = some (.map (some (w.heap.size + 1))) := BL.cell hs4 0
  have k0 : Y.cell? ⟨w.heap.size, 0, none⟩ = some (.string s) := hk4.cell 0
  have k1 : Y.cell? ⟨w.heap.size, 1, none⟩ = some (.bool hd) := hk4.cell 1
  have H5 := Lib.hid how5
  have HG5 := Lib.hid hg5
  have HS := Lib.hid (show EnvB Y.drew b (.map (some (w.heap.size + 1))) q from hs4)
  have HO4 := Lib.hid (show Only [b] w Y.drew from hO4.drew)
  have hbX : b < X.heap.size := by omega
  have hwX : w.heap.size ≤ X.heap.size := by omega
  clear how5 hg5 hs hs2 hs4 ho4 hO4 hN hk4
  go_enter Tryz.func61, Tryz.ntmps61
  go_wp2_with fail
  go_region
  go_wp2_with fail
  refine body_end rfl rfl ⟨rfl, w.heap.size + 1, by omega, ?_, H5.out, HO4.out.trans2 (Only.of_grown HG5.out) (fun x hx => .inr (by simp at hx; omega))⟩
  exact BL.keep HS.out (HG5.out.block b (BL.lt HS.out) (fun e => by have := Option.some.inj e; omega))
end Go.Proofs.YthmadnadaakjaaaGreatDoor.Opt.Ev
/- A variable's name. -/
namespace Go.Proofs.YthmadnadaakjaaaGreatDoor.Opt.Ev
open Go.RowKit Go.Maps Go.Proofs.YthmadnadaakjaaaGreatDoor.Opt

def envCs : Tx := [97, 98, 99, 100, 101, 102, 103, 104, 105, 106, 107, 108, 109, 110, 111, 112, 113, 114, 115, 116, 117, 118, 119, 120, 121, 122, 65, 66, 67, 68, 69, 70, 71, 72, 73, 74, 75, 76, 77, 78, 79, 80, 81, 82, 83, 84, 85, 86, 87, 88, 89, 90, 48, 49, 50, 51, 52, 53, 54, 55, 56, 57, 95]
def digCs : Tx := [48, 49, 50, 51, 52, 53, 54, 55, 56, 57]
def varP (l : Tx) : Bool := !l.isEmpty && (decide (l.length ≤ 64) && ((Lib.trimS l envCs).isEmpty && !(decide (0 ≤ Lib.indexByte digCs (l.headD 0)))))
set_option maxRecDepth 100000 in
set_option maxHeartbeats 2000000 in
theorem var_any (l : Tx) (hl : l.length ≤ 281474976710656) (w : World) :
    Calls Tryz.prog 59 #[.string (bs l)] w fun e w' => e = .returned (.bool (varP l)) ∧ Below w.heap.size w w' := by
  obtain ⟨R, hR⟩ : ∃ R, R = varP l := ⟨_, rfl⟩
  rw [← hR]
  have HR := Lib.hid hR
  clear hR
  have hsz : (bs l).size = l.length := bs_size l
  cases l with
  | nil =>
    have HV := Lib.hid (show R = false from HR.out)
    have hx : (bs []).toList.isEmpty = true := by rw [bs_tl]; rfl
    clear HR
    go_enter Tryz.func59, Tryz.ntmps59
    go_wp2_with fail
    go_ret
    exact ⟨by rw [HV.out]; rfl, Below.refl _ _⟩
  | cons c r =>
    have H1 := Lib.hid (fun w' => trim_any envCs (c :: r) (by decide) (by decide) hl w')
    have h2 : ∀ w', Calls Tryz.prog 93 #[.string (bs digCs), .string (bs [c])] w' fun e w'' => e = .returned (.bool (decide (0 ≤ Lib.indexByte digCs c))) ∧ w'' = w' := fun w' => by
      have := Tryz.strings_Contains_one (bs digCs) c w'
      rw [bs_list] at this
      exact this
    have H2 := Lib.hid h2
    have hx : (bs (c :: r)).toList.isEmpty = false := by rw [bs_tl]; rfl
    have hex : (bs (c :: r)).extract 0 1 = bs [c] := by rw [cut_ext]; simp
    obtain ⟨b, hb⟩ : ∃ b, b = (Lib.trimS (c :: r) envCs).isEmpty := ⟨_, rfl⟩
    obtain ⟨d, hd⟩ : ∃ d, d = decide (0 ≤ Lib.indexByte digCs c) := ⟨_, rfl⟩
    have ht : (bs (Lib.trimS (c :: r) envCs)).toList.isEmpty = b := by rw [bs_tl, hb]
    rw [← hd] at H2
    have hv : R = (decide ((c :: r).length ≤ 64) && (b && !d)) := by rw [HR.out, hb, hd]; rfl
    have HV := Lib.hid hv
    have HEX := Lib.hid hex
    clear HR hb hd h2 hv hex
    generalize Lib.trimS (c :: r) envCs = T at H1 ht
    have hge : 1 ≤ (bs (c :: r)).size := by rw [bs_size]; simp
    have hgei : (1 : Int) ≤ ((c :: r).length : Int) := by rw [List.length_cons]; omega
    by_cases h64 : (c :: r).length ≤ 64
    · have h64' : ((c :: r).length : Int) ≤ 64 := by omega
      cases b with
      | false =>
        have HV2 := Lib.hid (show R = false by rw [HV.out]; simp)
        clear HV h64
        generalize (c :: r).length = n at *
        generalize bs (c :: r) = S at *
        go_enter Tryz.func59, Tryz.ntmps59
        go_wp2_with fail
        refine (H1.out _).mono ?_
        rintro e w1 ⟨rfl, hb1⟩
        have HB := Lib.hid hb1
        clear hb1 H1
        go_wp2_with fail
        go_ret
        exact ⟨by rw [HV2.out]; rfl, HB.out⟩
      | true =>
        have HV2 := Lib.hid (show R = !d by rw [HV.out, decide_eq_true h64]; simp)
        clear HV h64
        generalize (c :: r).length = n at *
        generalize bs (c :: r) = S at *
        go_enter Tryz.func59, Tryz.ntmps59
        go_wp2_with fail
        refine (H1.out _).mono ?_
        rintro e w1 ⟨rfl, hb1⟩
        have HB := Lib.hid hb1
        clear hb1 H1
        go_wp2_with fail
        rw [HEX.out]
        refine (H2.out _).mono ?_
        rintro e w2 ⟨rfl, rfl⟩
        clear H2
        cases d with
        | true =>
          go_wp2_with fail
          go_ret
          exact ⟨by rw [HV2.out]; rfl, HB.out⟩
        | false =>
          go_wp2_with fail
          go_ret
          exact ⟨by rw [HV2.out]; rfl, HB.out⟩
    · have h64' : ¬ ((c :: r).length : Int) ≤ 64 := by omega
      have HV2 := Lib.hid (show R = false by rw [HV.out, decide_eq_false h64]; rfl)
      clear HV h64 H1 H2 ht HEX
      generalize (c :: r).length = n at *
      generalize bs (c :: r) = S at *
      go_enter Tryz.func59, Tryz.ntmps59
      go_wp2_with fail
      go_ret
      exact ⟨by rw [HV2.out]; rfl, Below.refl _ _⟩
end Go.Proofs.YthmadnadaakjaaaGreatDoor.Opt.Ev
/- May an environment have a name; what it says of one. -/
namespace Go.Proofs.YthmadnadaakjaaaGreatDoor.Opt.Ev
open Go.RowKit Go.Maps Go.Proofs.YthmadnadaakjaaaGreatDoor.Opt

def mayP (D : DataW Value) (nm : Tx) : Bool := hasP D nm || decide ((Maps.size D : Int) < 500)
theorem OwnAt.len {w : World} {own : Value} {D : DataW Value} {n : Nat} (h : OwnAt w own D n) (ty : TypeId) : (Builtin.len_ #[112] ty #[own]).run Tryz.prog w = .ok (.int .i64 (Maps.size D)) w := by
  rcases h with ⟨rfl, rfl⟩ | ⟨m, rfl, h⟩
  · exact Maps.len_nil Tryz.underlying112 ty
  · exact h.len Tryz.underlying112 ty
theorem EnvB.own {w : World} {b : Nat} {own : Value} {q : Option Addr} (h : EnvB w b own q) : w.cell? ⟨b, 0, none⟩ = some own := BL.cell h 0
set_option maxRecDepth 100000 in
set_option maxHeartbeats 4000000 in
theorem mayHave_any (b : Nat) (own : Value) (q : Option Addr) (D : DataW Value) (n : Nat) (nm : Tx) (hl : nm.length ≤ maxLen) (w : World) (hs : EnvB w b own q) (hown : OwnAt w own D n) :
    Calls Tryz.prog 60 #[.pointer (some ⟨b, 0, none⟩), .string (bs nm)] w fun e w' => e = .returned (.bool (mayP D nm)) ∧ Below w.heap.size w w' := by
  have c1 := hs.own
  have hlt : b < w.heap.size := BL.lt hs
  have HW := Lib.hid hown
  have HB := Lib.hid (fun o => (Below.refl w.heap.size w).alloc (Nat.le_refl _) o)
  have HW2 := Lib.hid (fun o => hown.below ((Below.refl w.heap.size w).alloc (Nat.le_refl _) o) hown.lt)
  clear hs hown
  cases hh : hasP D nm with
  | true =>
    have HV := Lib.hid (show mayP D nm = true by unfold mayP; rw [hh]; rfl)
    go_enter Tryz.func60, Tryz.ntmps60
    go_wp2_with (at_lookup; refine wpList_look rfl _ _ rfl own D n rfl HW.out nm hl rfl ?_; intro s hd hv; rw [hh]; clear hv)
    go_ret
    exact ⟨by rw [HV.out]; rfl, HB.out _⟩
  | false =>
    have HV := Lib.hid (show mayP D nm = decide ((Maps.size D : Int) < 500) by unfold mayP; rw [hh]; rfl)
    generalize hX : Maps.size D = X at *
    go_enter Tryz.func60, Tryz.ntmps60
    go_wp2_with (at_lookup; refine wpList_look rfl _ _ rfl own D n rfl HW.out nm hl rfl ?_; intro s hd hv; rw [hh]; clear hv; have hln := (HW2.out (.cells #[.string s, .bool hd] 123)).len; rw [hX] at hln; have c2 := ((HB.out (.cells #[.string s, .bool hd] 123)).cell (p := ⟨b, 0, none⟩) hlt).trans c1)
    go_ret
    exact ⟨by rw [HV.out]; rfl, HB.out _⟩
end Go.Proofs.YthmadnadaakjaaaGreatDoor.Opt.Ev
/- An environment's Set, Unset, Get, NewEnv. -/
namespace Go.Proofs.YthmadnadaakjaaaGreatDoor.Opt.Ev
open Go.RowKit Go.Maps Go.Proofs.YthmadnadaakjaaaGreatDoor.Opt

/-- The blocks that an environment lies in. -/
def foot (b : Nat) (own : Value) : List Nat := b :: (match own with | .map (some m) => [m] | _ => [])
/-- An environment: its block, its map, what it stands over. -/
def EnvA (w : World) (b : Nat) (own : Value) (q : Option Addr) (D : DataW Value) (n : Nat) : Prop := EnvB w b own q ∧ OwnAt w own D n
theorem EnvA.lt {w : World} {b : Nat} {own : Value} {q : Option Addr} {D : DataW Value} {n : Nat} (h : EnvA w b own q D n) : ∀ x ∈ foot b own, x < w.heap.size := by
  intro x hx
  unfold foot at hx
  rcases List.mem_cons.1 hx with rfl | hx
  · exact BL.lt h.1
  · cases own with
    | map o => cases o with
      | none => cases hx
      | some m =>
        rw [List.mem_singleton] at hx
        subst hx
        exact h.2.lt x rfl
    | _ => cases hx
theorem EnvA.only {w w' : World} {b : Nat} {own : Value} {q : Option Addr} {D : DataW Value} {n : Nat} {F : List Nat} (h : EnvA w b own q D n) (ho : Only F w w') (hF : ∀ x ∈ foot b own, x ∉ F) : EnvA w' b own q D n := by
  refine ⟨BL.only h.1 ho (hF b (List.mem_cons_self ..)), ?_⟩
  rcases h.2 with h2 | ⟨m, rfl, es, cl, h2, h3⟩
  · exact .inl h2
  · have hm : m < w.heap.size := (Array.getElem?_eq_some_iff.1 h2).1
    exact .inr ⟨m, rfl, es, cl, (ho.block m hm (hF m (by simp [foot]))).trans h2, h3⟩
theorem EnvA.below {w w' : World} {b : Nat} {own : Value} {q : Option Addr} {D : DataW Value} {n : Nat} (h : EnvA w b own q D n) (hb : Below w.heap.size w w') : EnvA w' b own q D n :=
  h.only (Only.of_below (F := []) hb) (fun _ _ => by simp)
theorem put_any (b : Nat) (own : Value) (q : Option Addr) (D : DataW Value) (n : Nat) (nm : Tx) (hl : nm.length ≤ maxLen) (s : ByteArray) (hd : Bool) (w : World) (hs : EnvA w b own q D n) (hn : n < 100000) :
    Calls Tryz.prog 61 #[.pointer (some ⟨b, 0, none⟩), .string (bs nm), .agg #[.string s, .bool hd]] w fun e w' => e = .returned (.tuple #[]) ∧ ∃ own' n', n' ≤ n + 1 ∧ EnvA w' b own' q (putD D nm (.agg #[.string s, .bool hd])) n' ∧ Only (foot b own) w w' ∧ ∀ x ∈ foot b own', x ∈ foot b own ∨ w.heap.size ≤ x := by
  obtain ⟨h1, ⟨rfl, rfl⟩ | ⟨m, rfl, h2⟩⟩ := hs
  · refine (put_nil b q nm hl s hd w h1).mono ?_
    rintro e w' ⟨rfl, m, hm, g1, g2, g3⟩
    refine ⟨rfl, _, 1, by omega, ⟨g1, .inr ⟨m, rfl, g2⟩⟩, g3.mono (by simp [foot]), ?_⟩
    intro x hx
    unfold foot at hx ⊢
    simp only [List.mem_cons, List.not_mem_nil, or_false] at hx ⊢
    omega
  · refine (put_map b q m n D nm hl s hd w h1 h2 hn).mono ?_
    rintro e w' ⟨rfl, g1, g2, g3⟩
    exact ⟨rfl, _, n + 1, by omega, ⟨g1, .inr ⟨m, rfl, g2⟩⟩, g3.mono (by simp [foot]), fun x hx => .inl hx⟩
def setE (D : DataW Value) (nm v : Tx) : DataW Value × Int :=
  if varP nm = false then (D, 6) else if 1024 < v.length then (D, 2) else if mayP D nm = false then (D, 3) else (putD D nm (.agg #[.string (bs v), .bool false]), 0)
def unsetE (D : DataW Value) (nm : Tx) : DataW Value := if varP nm = true ∧ mayP D nm = true then putD D nm (.agg #[.string ⟨#[]⟩, .bool true]) else D
theorem varP_len {nm : Tx} (h : varP nm = true) : nm.length ≤ maxLen := by
  unfold varP at h
  simp only [Bool.and_eq_true, decide_eq_true_eq] at h
  unfold maxLen
  omega
/-- What a call leaves of the environment that it is on. -/
def Left (w w' : World) (b : Nat) (own : Value) (q : Option Addr) (D' : DataW Value) (n : Nat) : Prop :=
  ∃ own' n', n' ≤ n + 1 ∧ EnvA w' b own' q D' n' ∧ Only (foot b own) w w' ∧ ∀ x ∈ foot b own', x ∈ foot b own ∨ w.heap.size ≤ x
theorem Left.same {w w' : World} {b : Nat} {own : Value} {q : Option Addr} {D : DataW Value} {n : Nat} (h : EnvA w b own q D n) (hb : Below w.heap.size w w') : Left w w' b own q D n :=
  ⟨own, n, by omega, h.below hb, Only.of_below hb, fun _ hx => .inl hx⟩
set_option maxRecDepth 100000 in
set_option maxHeartbeats 4000000 in
theorem set_any (b : Nat) (own : Value) (q : Option Addr) (D : DataW Value) (n : Nat) (nm v : Tx) (hl : nm.length ≤ 140737488355328) (hv : v.length ≤ 140737488355328) (w : World) (hs : EnvA w b own q D n) (hn : n < 100000) :
    Calls Tryz.prog 25 #[.pointer (some ⟨b, 0, none⟩), .string (bs nm), .string (bs v)] w fun e w' => e = .returned (.int .i64 (setE D nm v).2) ∧ Left w w' b own q (setE D nm v).1 n := by
  obtain ⟨R, hR⟩ : ∃ R, R = setE D nm v := ⟨_, rfl⟩
  rw [← hR]
  have HR := Lib.hid hR
  clear hR
  have HS := Lib.hid hs
  have hbl : b < w.heap.size := BL.lt hs.1
  have hsz : (bs v).size = v.length := bs_size v
  have H1 := Lib.hid (fun w' => var_any nm (by omega) w')
  clear hs
  cases hvp : varP nm with
  | false =>
    have HV := Lib.hid (show R = (D, 6) by rw [HR.out, setE, if_pos hvp])
    rw [hvp] at H1
    clear HR hvp
    go_enter Tryz.func25, Tryz.ntmps25
    go_wp2_with fail
    refine (H1.out _).mono ?_
    rintro e w1 ⟨rfl, hb1⟩
    have HB := Lib.hid hb1
    clear hb1 H1
    go_wp2_with fail
    go_ret
    exact ⟨by rw [HV.out]; rfl, by rw [HV.out]; exact Left.same HS.out HB.out⟩
  | true =>
    have hlm := varP_len hvp
    by_cases h2 : 1024 < v.length
    · have HV := Lib.hid (show R = (D, 2) by rw [HR.out, setE, if_neg (by rw [hvp]; simp), if_pos h2])
      have h2i : (1024 : Int) < (v.length : Int) := by omega
      rw [hvp] at H1
      clear HR hvp h2
      go_enter Tryz.func25, Tryz.ntmps25
      go_wp2_with fail
      refine (H1.out _).mono ?_
      rintro e w1 ⟨rfl, hb1⟩
      have HB := Lib.hid hb1
      clear hb1 H1
      go_wp2_with fail
      go_ret
      exact ⟨by rw [HV.out]; rfl, by rw [HV.out]; exact Left.same HS.out HB.out⟩
    · have h2i : ¬ (1024 : Int) < (v.length : Int) := by omega
      have HM := Lib.hid (fun w' (h : EnvA w' b own q D n) => mayHave_any b own q D n nm hlm w' h.1 h.2)
      rw [hvp] at H1
      cases hm : mayP D nm with
      | false =>
        have HV := Lib.hid (show R = (D, 3) by rw [HR.out, setE, if_neg (by rw [hvp]; simp), if_neg h2, if_pos hm])
        rw [hm] at HM
        clear HR hvp h2 hm
        go_enter Tryz.func25, Tryz.ntmps25
        go_wp2_with fail
        refine (H1.out _).mono ?_
        rintro e w1 ⟨rfl, hb1⟩
        have HB := Lib.hid hb1
        have HS1 := Lib.hid (HS.out.below hb1)
        clear hb1 H1
        go_wp2_with fail
        refine (HM.out _ HS1.out).mono ?_
        rintro e w2 ⟨rfl, hb2⟩
        have HB2 := Lib.hid (HB.out.trans (hb2.mono HB.out.size))
        clear hb2 HM HB
        go_wp2_with fail
        go_ret
        exact ⟨by rw [HV.out]; rfl, by rw [HV.out]; exact Left.same HS.out HB2.out⟩
      | true =>
        have HV := Lib.hid (show R = (putD D nm (.agg #[.string (bs v), .bool false]), 0) by rw [HR.out, setE, if_neg (by rw [hvp]; simp), if_neg h2, if_neg (by rw [hm]; simp)])
        rw [hm] at HM
        clear HR hvp h2 hm
        go_enter Tryz.func25, Tryz.ntmps25
        go_wp2_with fail
        refine (H1.out _).mono ?_
        rintro e w1 ⟨rfl, hb1⟩
        have HB := Lib.hid hb1
        have HS1 := Lib.hid (HS.out.below hb1)
        clear hb1 H1
        go_wp2_with fail
        refine (HM.out _ HS1.out).mono ?_
        rintro e w2 ⟨rfl, hb2⟩
        have HS2 := Lib.hid (HS1.out.below hb2)
        have HB2 := Lib.hid (HB.out.trans (hb2.mono HB.out.size))
        clear hb2 HM HB HS1
        go_wp2_with fail
        refine (put_any b own q D n nm hlm (bs v) false _ HS2.out hn).mono ?_
        rintro e w3 ⟨rfl, own', n', hn', hE, hO, hF⟩
        have HL := Lib.hid (show Left w w3 b own q (putD D nm (.agg #[.string (bs v), .bool false])) n from ⟨own', n', hn', hE, (Only.of_below HB2.out).trans hO, fun x hx => (hF x hx).imp id (fun h => Nat.le_trans HB2.out.size h)⟩)
        clear hE hO hF HB2 HS2
        go_wp2_with fail
        go_ret
        exact ⟨by rw [HV.out]; rfl, by rw [HV.out]; exact HL.out⟩
set_option maxRecDepth 100000 in
set_option maxHeartbeats 4000000 in
theorem unset_any (b : Nat) (own : Value) (q : Option Addr) (D : DataW Value) (n : Nat) (nm : Tx) (hl : nm.length ≤ 140737488355328) (w : World) (hs : EnvA w b own q D n) (hn : n < 100000) :
    Calls Tryz.prog 23 #[.pointer (some ⟨b, 0, none⟩), .string (bs nm)] w fun e w' => e = .returned (.tuple #[]) ∧ Left w w' b own q (unsetE D nm) n := by
  obtain ⟨R, hR⟩ : ∃ R, R = unsetE D nm := ⟨_, rfl⟩
  rw [← hR]
  have HR := Lib.hid hR
  clear hR
  have HS := Lib.hid hs
  have hbl : b < w.heap.size := BL.lt hs.1
  have H1 := Lib.hid (fun w' => var_any nm (by omega) w')
  clear hs
  cases hvp : varP nm with
  | false =>
    have HV := Lib.hid (show R = D by rw [HR.out, unsetE, if_neg (by rw [hvp]; simp)])
    rw [hvp] at H1
    clear HR hvp
    go_enter Tryz.func23, Tryz.ntmps23
    go_wp2_with fail
    refine (H1.out _).mono ?_
    rintro e w1 ⟨rfl, hb1⟩
    have HB := Lib.hid hb1
    clear hb1 H1
    go_wp2_with fail
    exact body_end rfl rfl ⟨rfl, by rw [HV.out]; exact Left.same HS.out HB.out⟩
  | true =>
    have hlm := varP_len hvp
    have HM := Lib.hid (fun w' (h : EnvA w' b own q D n) => mayHave_any b own q D n nm hlm w' h.1 h.2)
    rw [hvp] at H1
    cases hm : mayP D nm with
    | false =>
      have HV := Lib.hid (show R = D by rw [HR.out, unsetE, if_neg (by rw [hm]; simp)])
      rw [hm] at HM
      clear HR hvp hm
      go_enter Tryz.func23, Tryz.ntmps23
      go_wp2_with fail
      refine (H1.out _).mono ?_
      rintro e w1 ⟨rfl, hb1⟩
      have HB := Lib.hid hb1
      have HS1 := Lib.hid (HS.out.below hb1)
      clear hb1 H1
      go_wp2_with fail
      refine (HM.out _ HS1.out).mono ?_
      rintro e w2 ⟨rfl, hb2⟩
      have HB2 := Lib.hid (HB.out.trans (hb2.mono HB.out.size))
      clear hb2 HM HB
      go_wp2_with fail
      exact body_end rfl rfl ⟨rfl, by rw [HV.out]; exact Left.same HS.out HB2.out⟩
    | true =>
      have HV := Lib.hid (show R = putD D nm (.agg #[.string ⟨#[]⟩, .bool true]) by rw [HR.out, unsetE, if_pos ⟨hvp, hm⟩])
      rw [hm] at HM
      clear HR hvp hm
      go_enter Tryz.func23, Tryz.ntmps23
      go_wp2_with fail
      refine (H1.out _).mono ?_
      rintro e w1 ⟨rfl, hb1⟩
      have HB := Lib.hid hb1
      have HS1 := Lib.hid (HS.out.below hb1)
      clear hb1 H1
      go_wp2_with fail
      refine (HM.out _ HS1.out).mono ?_
      rintro e w2 ⟨rfl, hb2⟩
      have HS2 := Lib.hid (HS1.out.below hb2)
      have HB2 := Lib.hid (HB.out.trans (hb2.mono HB.out.size))
      clear hb2 HM HB HS1
      go_wp2_with fail
      refine (put_any b own q D n nm hlm ⟨#[]⟩ true _ HS2.out hn).mono ?_
      rintro e w3 ⟨rfl, own', n', hn', hE, hO, hF⟩
      have HL := Lib.hid (show Left w w3 b own q (putD D nm (.agg #[.string ⟨#[]⟩, .bool true])) n from ⟨own', n', hn', hE, (Only.of_below HB2.out).trans hO, fun x hx => (hF x hx).imp id (fun h => Nat.le_trans HB2.out.size h)⟩)
      clear hE hO hF HB2 HS2
      go_wp2_with fail
      exact body_end rfl rfl ⟨rfl, by rw [HV.out]; exact HL.out⟩
end Go.Proofs.YthmadnadaakjaaaGreatDoor.Opt.Ev
