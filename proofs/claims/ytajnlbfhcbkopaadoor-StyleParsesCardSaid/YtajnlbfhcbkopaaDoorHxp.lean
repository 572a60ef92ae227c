/- strconv.ParseUint at base 16 and 32 bits, and package style's 'mixed'. -/
import Derived.Test.YtajnlbfhcbkopaaDoorPhx
namespace Go.Proofs.YtajnlbfhcbkopaaDoor.Sty
open Go.RowKit

/-- How the public reading ends: with no error, or with one. -/
def Ends2 (l : Tx) (e : Ending) : Prop :=
  (∃ v : Nat, v < 16777216 ∧ l = hexk 6 v ∧ e = .returned (.tuple #[.int .u64 (v : Int), .nilIface])) ∨
  (l.length ≠ 6 ∧ ∃ v : Nat, v < 4294967296 ∧ e = .returned (.tuple #[.int .u64 (v : Int), .nilIface])) ∨
  (NoHex l ∧ ∃ (v : Nat) (t : TypeId) (p : Value), v < 4294967296 ∧ e = .returned (.tuple #[.int .u64 (v : Int), .iface t p]))
set_option maxRecDepth 100000 in
set_option maxHeartbeats 400000 in
theorem parseHex_any {B : Nat} (l : Tx) (hlow : ∀ b ∈ l, ¬ (65 ≤ b.toNat ∧ b.toNat ≤ 90)) (w : World) (ht : Tabs B w) (hB : B ≤ w.heap.size) (hs : l.length ≤ 140737488351232) :
    Calls Tryd.prog 53 #[.string (bs l), .int .i64 16, .int .i64 32] w fun e w' => Ends2 l e ∧ Below w.heap.size w w' := by
  have hin := parseIn_any l hlow w hs
  have hz : (bs l).size ≤ 281474976710656 := by rw [bs_size]; omega
  generalize hS : bs l = S at *
  clear hS
  go_enter Tryd.func53, Tryd.ntmps53
  go_wp2_with fail
  refine hin.mono ?_
  rintro e w1 ⟨hE, hb1⟩
  have ht1 := ht.on hB hb1
  rcases hE with ⟨v, hv, hl, rfl⟩ | ⟨h6, v, hv, rfl⟩ | ⟨hno, v, k, hv, hk, rfl⟩
  · have HE : Hid (Ends2 l (.returned (.tuple #[.int .u64 (v : Int), .nilIface]))) := .inl ⟨v, hv, hl, rfl⟩
    clear hl hv
    go_wp2
    go_ret2
    exact ⟨HE.out, hb1⟩
  · have HE : Hid (Ends2 l (.returned (.tuple #[.int .u64 (v : Int), .nilIface]))) := .inr (.inl ⟨h6, v, hv, rfl⟩)
    clear h6 hv
    go_wp2
    go_ret2
    exact ⟨HE.out, hb1⟩
  · have HE : Hid (∀ t p, Ends2 l (.returned (.tuple #[.int .u64 (v : Int), .iface t p]))) := fun t p => .inr (.inr ⟨hno, v, t, p, hv, rfl⟩)
    clear hno hv
    rcases hk with rfl | rfl
    · obtain ⟨te, pe, hc⟩ := ht1.rng
      have hte := fun fn => Tryd.strconv_toError_range fn S 16 32 _ w1 hz hc (.inr ⟨te, pe, rfl⟩)
      clear hin hc
      go_wp2_with fail
      refine (hte _).mono ?_
      rintro e w2 ⟨M, rfl, hM, hN, hb2⟩
      go_wp2
      go_ret2
      exact ⟨HE.out _ _, hb1.trans (hb2.mono hb1.size)⟩
    · obtain ⟨te, pe, hc⟩ := ht1.syn
      have hte := fun fn => Tryd.strconv_toError_syntax fn S 16 32 _ w1 hz hc (.inr ⟨te, pe, rfl⟩)
      clear hin hc
      go_wp2_with fail
      refine (hte _).mono ?_
      rintro e w2 ⟨M, rfl, hM, hN, hb2⟩
      go_wp2
      go_ret2
      exact ⟨HE.out _ _, hb1.trans (hb2.mono hb1.size)⟩

/-- A colour found, or none. -/
def colVal : Option Int → Value
  | some c => .tuple #[.int .i64 c, .int .i64 0]
  | none => .tuple #[.int .i64 0, .int .i64 4]
set_option maxRecDepth 100000 in
set_option maxHeartbeats 400000 in
theorem mixed_any {B : Nat} (l : Tx) (hlow : ∀ b ∈ l, ¬ (65 ≤ b.toNat ∧ b.toNat ≤ 90)) (w : World) (ht : Tabs B w) (hB : B ≤ w.heap.size) (hs : l.length ≤ 140737488351232) :
    Calls Tryd.prog 30 #[.string (bs l)] w fun e w' => e = .returned (colVal (colourS (35 :: l))) ∧ Below w.heap.size w w' := by
  have hph := parseHex_any l hlow w ht hB hs
  have hz : (bs l).size = l.length := bs_size l
  generalize hS : bs l = S at *
  clear hS
  have HZ := Lib.hid hz
  clear hz
  go_enter Tryd.func30, Tryd.ntmps30
  go_wp2_with fail
  refine hph.mono ?_
  rintro e w1 ⟨hE, hb1⟩
  rcases hE with ⟨v, hv, hl, rfl⟩ | ⟨h6, v, hv, rfl⟩ | ⟨hno, v, t, p, hv, rfl⟩
  · have HE : Hid (colourS (35 :: l) = some ((v : Int) + 16777216)) := colourS_some (names_hex hv hl)
    have hl6 : l.length = 6 := by rw [hl, hexk_length]
    have h6 : (S.size == 6) = true := by rw [HZ.out, hl6]; rfl
    have h6b : S.size = 6 := by rw [HZ.out, hl6]
    obtain ⟨c, hc⟩ : ∃ c : Int, (v : Int) = c := ⟨_, rfl⟩
    have hc0 : 0 ≤ c := by omega
    have hc1 : c ≤ 16777215 := by omega
    have HE2 : Hid (colourS (35 :: l) = some (16777216 + c)) := by show _ = _; rw [HE.out, hc, Int.add_comm]
    rw [hc]
    clear hl hl6 hv hc h6
    go_wp2
    go_ret2
    exact ⟨by rw [HE2.out]; rfl, hb1⟩
  · have HE : Hid (colourS (35 :: l) = none) := colourS_none (not_hex (noHex_len h6))
    have h6b : ¬ S.size = 6 := by rw [HZ.out]; exact h6
    clear h6
    go_wp2
    go_ret2
    exact ⟨by rw [HE.out]; rfl, hb1⟩
  · have HE : Hid (colourS (35 :: l) = none) := colourS_none (not_hex hno)
    clear hno
    go_wp2
    go_ret2
    exact ⟨by rw [HE.out]; rfl, hb1⟩
end Go.Proofs.YtajnlbfhcbkopaaDoor.Sty
