/- What an option will be. -/
import Derived.Test.YtgnlfikkmomghaaGreatDoorOnb
namespace Go.Proofs.YtgnlfikkmomghaaGreatDoor.Opt
open Go.RowKit Go.Maps

set_option maxRecDepth 100000 in
set_option maxHeartbeats 4000000 in
theorem value_ok (s : Option Addr) (nm : Tx) (sc : Int) (kd fi : Tx) (le mo : Int) (ch : Tx) (t : Tx) (m : ByteArray) (hk : kd ≠ arrK) (ht : t ≠ []) (w : World)
    (hm : ∀ w', Below w.heap.size w w' → Calls Tryz.prog 140 #[optV ⟨nm, sc, kd, fi, le, mo, ch⟩, .string (bs t)] w' fun e w'' => e = .returned (.tuple #[.string m, .bool true]) ∧ Below w'.heap.size w' w'') :
    Calls Tryz.prog 94 #[.pointer s, placeV ⟨nm, sc, kd, fi, le, mo, ch⟩ (-1), .string (bs t)] w fun e w' => e = .returned (.tuple #[.agg #[.string m, .slice none 0 0], .int .i64 0]) ∧ Below w.heap.size w w' := by
  have ek : ((bs kd).toList == [97, 114, 114, 97, 121]) = false := by rw [bs_tl]; exact beq_eq_false_iff_ne.2 hk
  have et : (bs t).toList.isEmpty = false := by rw [bs_tl]; cases t with | nil => exact absurd rfl ht | cons _ _ => rfl
  dsimp only [optV, optL] at hm
  have HM := Lib.hid hm
  have h0 := BL.new w 95 [.string (bs nm), .int .i64 sc, .string (bs kd), .string (bs fi), .int .i64 le, .int .i64 mo, .string (bs ch), .int .i64 (-1)]
  have h1 := BL.new (w.alloc (.cells #[.string (bs nm), .int .i64 sc, .string (bs kd), .string (bs fi), .int .i64 le, .int .i64 mo, .string (bs ch), .int .i64 (-1)] 95)) 78 [.string ⟨#[]⟩, .slice none 0 0]
  rw [size_alloc] at h1
  have h0a := h0.alloc (.cells #[.string ⟨#[]⟩, .slice none 0 0] 78)
  have HR := Lib.hid (h0a.range (o := 0) (vs := [.string (bs nm), .int .i64 sc, .string (bs kd), .string (bs fi), .int .i64 le, .int .i64 mo, .string (bs ch)]) (fun j v hj => by
    have h7 : j < 7 := (List.getElem?_eq_some_iff.1 hj).1
    rw [Nat.zero_add, ← hj]
    exact List.getElem?_append_left (l₁ := ([.string (bs nm), .int .i64 sc, .string (bs kd), .string (bs fi), .int .i64 le, .int .i64 mo, .string (bs ch)] : List Value)) (l₂ := ([.int .i64 (-1)] : List Value)) h7))
  have HZ := Lib.hid h1
  have hb0 : Below w.heap.size w ((w.alloc (.cells #[.string (bs nm), .int .i64 sc, .string (bs kd), .string (bs fi), .int .i64 le, .int .i64 mo, .string (bs ch), .int .i64 (-1)] 95)).alloc (.cells #[.string ⟨#[]⟩, .slice none 0 0] 78)) := ((Below.refl _ w).alloc (Nat.le_refl _) _).alloc (by simp) _
  have HB0 := Lib.hid hb0
  cases hf : ((bs kd).toList == [102, 108, 97, 103]) with
  | _ =>
    clear h0 h1 h0a hb0 hm hk ht
    dsimp only [placeV, placeL]
    go_enter Tryz.func94, Tryz.ntmps94
    go_wp2_with (refine wpList_load_mid rfl 93 _ rfl w.heap.size 0 rfl [.string (bs nm), .int .i64 sc, .string (bs kd), .string (bs fi), .int .i64 le, .int .i64 mo, .string (bs ch)] _ HR.out Tryz.underlying93 rfl (by kernel_rfl) ?_)
    refine (HM.out _ HB0.out).mono ?_
    rintro e w2 ⟨rfl, hb2⟩
    have HZ2 := Lib.hid (HZ.out.keep (hb2.block _ HZ.out.lt))
    have HB2 := Lib.hid (HB0.out.trans (hb2.mono HB0.out.size))
    have hs2 : w.heap.size + 2 ≤ w2.heap.size := by have := hb2.size; rw [size_alloc, size_alloc] at this; exact this
    clear hb2 HM HB0 HZ HR
    go_wp2_with (refine wpList_store_all rfl 78 _ _ rfl (w.heap.size + 1) [.string m, .slice none 0 0] rfl rfl 78 _ HZ2.out rfl (by kernel_rfl) (held_one _ _ _ _) ?_; intro w4 h0 ho hs4; have H0 := Lib.hid h0; have HO := Lib.hid ho; clear h0 ho)
    refine bodyPost_ret (results_ct (p := 6) (u := 7) (by kernel_rfl) _ _ (w.heap.size + 1) _ _ _ rfl H0.out Tryz.underlying78 rfl (by kernel_rfl)) rfl ⟨rfl, ?_⟩
    exact HB2.out.trans (HO.out.below (by omega) (by simp))
end Go.Proofs.YtgnlfikkmomghaaGreatDoor.Opt
