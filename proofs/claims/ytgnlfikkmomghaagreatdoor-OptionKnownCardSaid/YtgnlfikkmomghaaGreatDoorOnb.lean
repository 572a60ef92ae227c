/- A number's text, within its bounds. -/
import Derived.Test.YtgnlfikkmomghaaGreatDoorOgt
namespace Go.Proofs.YtgnlfikkmomghaaGreatDoor.Opt
open Go.RowKit Go.Maps

def digCs : Tx := [48, 49, 50, 51, 52, 53, 54, 55, 56, 57]
set_option maxRecDepth 100000 in
set_option maxHeartbeats 4000000 in
theorem number_ok {B : Nat} (nm : Tx) (sc : Int) (kd fi : Tx) (le mo : Int) (ch : Tx) (t u : Tx) (v : Int) (htl : t.length ≤ 100) (hu : Lib.trimPrefix t [45] = u) (hu0 : u.isEmpty = false) (hu9 : u.length ≤ 9) (hut : (Lib.trimS u digCs).isEmpty = true)
    (hp : atoiP t = (v, false)) (h0 : -9223372036854775808 ≤ v) (h1 : v ≤ 9223372036854775807) (hle : le ≤ v) (hmo : v ≤ mo) (w : World) (ht : Tabs B w) (hB : B ≤ w.heap.size) :
    Calls Tryz.prog 179 #[optV ⟨nm, sc, kd, fi, le, mo, ch⟩, .string (bs t)] w fun e w' => e = .returned (.tuple #[.string (bs (Lib.itoa v)), .bool true]) ∧ Below w.heap.size w w' := by
  have hpx : ∀ w', Calls Tryz.prog 211 #[.string (bs t), .string ⟨#[45]⟩] w' fun e w'' => e = .returned (.string (bs u)) ∧ w'' = w' := fun w' => by
    have := Tryz.strings_TrimPrefix (bs t) ⟨#[45]⟩ w'
    rw [bs_list] at this
    have h2 : (Lib.trimPrefix t (⟨#[45]⟩ : ByteArray).data.toList) = u := hu
    rw [h2] at this
    exact this
  have H1 := Lib.hid hpx
  have H2 := Lib.hid (fun w' => trim_any digCs u (by decide) (by decide) (by omega) w')
  have H3 := Lib.hid (fun w' (hb : Below w.heap.size w w') => atoi_any t (by omega) w' (ht.below (hb.mono hB)))
  rw [hp] at H3
  have H4 := Lib.hid (fun w' (hb : Below w.heap.size w w') => itoa_any v h0 h1 w' (ht.below (hb.mono hB)))
  have hx : (bs u).toList.isEmpty = false := by rw [bs_tl]; exact hu0
  have hz : bs (Lib.trimS u digCs) = ⟨#[]⟩ := by rw [List.isEmpty_iff.1 hut]; rfl
  rw [hz] at H2
  have hsz : (bs u).size = u.length := bs_size u
  have hbl := BL.new w 93 [.string (bs nm), .int .i64 sc, .string (bs kd), .string (bs fi), .int .i64 le, .int .i64 mo, .string (bs ch)]
  have HBL := Lib.hid hbl
  have hb0 : Below w.heap.size w (w.alloc (.cells #[.string (bs nm), .int .i64 sc, .string (bs kd), .string (bs fi), .int .i64 le, .int .i64 mo, .string (bs ch)] 93)) := (Below.refl _ w).alloc (Nat.le_refl _) _
  clear hpx hu hut hp ht hz hu0 hbl h0 h1 htl
  dsimp only [optV, optL]
  go_enter Tryz.func179, Tryz.ntmps179
  go_wp2_with fail
  refine (H1.out _).mono ?_
  rintro e w1 ⟨rfl, hw1⟩
  subst hw1
  clear H1
  go_wp2_with fail
  refine (H2.out _).mono ?_
  rintro e w2 ⟨rfl, hb2⟩
  have hb2w := hb0.trans (hb2.mono (by simp))
  have HBL2 := Lib.hid (HBL.out.keep (hb2.block _ HBL.out.lt))
  have HB2 := Lib.hid hb2w
  clear H2 hb2 hb2w hb0 HBL
  go_wp2_with fail
  refine (H3.out _ HB2.out).mono ?_
  rintro e w3 ⟨⟨ev, rfl, hev⟩, hb3⟩
  have hbw := HB2.out.trans (hb3.mono HB2.out.size)
  have HBL3 := Lib.hid (HBL2.out.keep (hb3.block _ HBL2.out.lt))
  clear H3 hb3 hev HB2 HBL2
  go_upto_region 5 with fail
  have SS : ∀ V, Below w.heap.size w V → Below w3.heap.size w3 V → (V.cell? ⟨w.heap.size, 4, none⟩ = some (.int .i64 le) ∧ V.cell? ⟨w.heap.size, 5, none⟩ = some (.int .i64 mo) ∧ Below w3.heap.size w3 V ∧ Below w.heap.size w V) := fun V hV hX => by
    have k := HBL3.out.keep (hX.block _ HBL3.out.lt)
    exact ⟨k.cell 4, k.cell 5, hX, hV⟩
  have hdX : Below w3.heap.size w3 w3.drew := (Below.refl _ _).drew
  have hdw : Below w.heap.size w w3.drew := hbw.drew
  go_region_held3 (fun V => V.cell? ⟨w.heap.size, 4, none⟩ = some (.int .i64 le) ∧ V.cell? ⟨w.heap.size, 5, none⟩ = some (.int .i64 mo) ∧ Below w3.heap.size w3 V ∧ Below w.heap.size w V)
    (first
      | (refine SS _ ?_ ?_ <;> assumption)
      | fail)
    (first
      | (go_at_call 86; obtain ⟨_, _, kx, kw⟩ := (by assumption : _ ∧ _ ∧ Below w3.heap.size w3 _ ∧ Below w.heap.size w _); refine (H4.out _ kw).mono ?_; rintro _ w5 ⟨rfl, hb5⟩; have hbx := kx.trans (hb5.mono kx.size); have hbw5 := kw.trans (hb5.mono kw.size); clear hb5)
      | fail)
  all_goals go_wp2_with fail
  all_goals go_ret2
  all_goals exact ⟨rfl, by assumption⟩
theorem made_number (nm : Tx) (sc : Int) (fi : Tx) (le mo : Int) (ch : Tx) (t m : Tx) (w : World)
    (hn : ∀ w', Below w.heap.size w w' → Calls Tryz.prog 179 #[optV ⟨nm, sc, numK, fi, le, mo, ch⟩, .string (bs t)] w' fun e w'' => e = .returned (.tuple #[.string (bs m), .bool true]) ∧ Below w'.heap.size w' w'') :
    Calls Tryz.prog 140 #[optV ⟨nm, sc, numK, fi, le, mo, ch⟩, .string (bs t)] w fun e w' => e = .returned (.tuple #[.string (bs m), .bool true]) ∧ Below w.heap.size w w' := by
  have e1 : ((bs numK).toList == [110, 117, 109, 98, 101, 114]) = true := by rw [bs_tl]; rfl
  dsimp only [optV, optL] at hn ⊢
  have HN := Lib.hid hn
  clear hn
  have HR := Lib.hid ((BL.new w 93 [.string (bs nm), .int .i64 sc, .string (bs numK), .string (bs fi), .int .i64 le, .int .i64 mo, .string (bs ch)]).range (o := 0) (vs := [.string (bs nm), .int .i64 sc, .string (bs numK), .string (bs fi), .int .i64 le, .int .i64 mo, .string (bs ch)]) (fun j v hj => by rw [Nat.zero_add]; exact hj))
  generalize numK = kd at *
  go_enter Tryz.func140, Tryz.ntmps140
  go_wp2_with (refine wpList_load_mid rfl 93 _ rfl w.heap.size 0 rfl [.string (bs nm), .int .i64 sc, .string (bs kd), .string (bs fi), .int .i64 le, .int .i64 mo, .string (bs ch)] _ HR.out Tryz.underlying93 rfl (by kernel_rfl) ?_)
  refine (HN.out _ ((Below.refl _ w).alloc (Nat.le_refl _) _)).mono ?_
  rintro e w2 ⟨rfl, hb2⟩
  have HB := Lib.hid (((Below.refl _ w).alloc (Nat.le_refl _) (.cells #[.string (bs nm), .int .i64 sc, .string (bs kd), .string (bs fi), .int .i64 le, .int .i64 mo, .string (bs ch)] 93)).trans (hb2.mono (by simp)))
  clear hb2
  go_wp2_with fail
  go_ret2
  exact ⟨rfl, HB.out⟩
end Go.Proofs.YtgnlfikkmomghaaGreatDoor.Opt
