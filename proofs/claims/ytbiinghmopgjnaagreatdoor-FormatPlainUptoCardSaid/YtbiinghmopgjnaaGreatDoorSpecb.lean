/- Runes written as bytes come back, by the decoder and by the language's own range over a text; on lists and integers, no program is named here. -/
import Derived.Test.YtbiinghmopgjnaaGreatDoorSpec
namespace Go.Proofs.YtbiinghmopgjnaaGreatDoor.Cel

theorem u8_of (n : Nat) (h : n < 256) : (UInt8.ofNat n).toNat = n := by simp; omega

set_option maxRecDepth 100000 in
/-- The bytes of a rune that can be written. -/
theorem enc_form {r : Int} (h : good r) :
    (r < 128 ∧ ∃ a : UInt8, enc r = [a] ∧ (a.toNat : Int) = r) ∨
    (128 ≤ r ∧ r < 2048 ∧ ∃ a b : UInt8, enc r = [a, b] ∧ (a.toNat : Int) = 192 + r / 64 ∧ (b.toNat : Int) = 128 + r % 64) ∨
    (2048 ≤ r ∧ r < 65536 ∧ ∃ a b c : UInt8, enc r = [a, b, c] ∧ (a.toNat : Int) = 224 + r / 4096 ∧ (b.toNat : Int) = 128 + r / 64 % 64 ∧ (c.toNat : Int) = 128 + r % 64) ∨
    (65536 ≤ r ∧ r < 1114112 ∧ ∃ a b c d : UInt8, enc r = [a, b, c, d] ∧ (a.toNat : Int) = 240 + r / 262144 ∧ (b.toNat : Int) = 128 + r / 4096 % 64 ∧ (c.toNat : Int) = 128 + r / 64 % 64 ∧ (d.toNat : Int) = 128 + r % 64) := by
  have hv := good_valid h
  have hg := h
  unfold good at hg
  obtain ⟨n, rfl⟩ : ∃ n : Nat, r = (n : Int) := ⟨r.toNat, by omega⟩
  by_cases h1 : n < 128
  · left
    refine ⟨by omega, UInt8.ofNat n, ?_, by rw [u8_of n (by omega)]⟩
    simp only [enc, Utf8.encode, hv, if_true, Int.toNat_natCast, if_pos h1]
  · by_cases h2 : n < 2048
    · right; left
      refine ⟨by omega, by omega, UInt8.ofNat (192 + n / 64), UInt8.ofNat (128 + n % 64), ?_, by rw [u8_of _ (by omega)]; omega, by rw [u8_of _ (by omega)]; omega⟩
      simp only [enc, Utf8.encode, hv, if_true, Int.toNat_natCast, if_neg h1, if_pos h2]
    · by_cases h3 : n < 65536
      · right; right; left
        refine ⟨by omega, by omega, UInt8.ofNat (224 + n / 4096), UInt8.ofNat (128 + n / 64 % 64), UInt8.ofNat (128 + n % 64), ?_, by rw [u8_of _ (by omega)]; omega, by rw [u8_of _ (by omega)]; omega, by rw [u8_of _ (by omega)]; omega⟩
        simp only [enc, Utf8.encode, hv, if_true, Int.toNat_natCast, if_neg h1, if_neg h2, if_pos h3]
      · right; right; right
        refine ⟨by omega, by omega, UInt8.ofNat (240 + n / 262144), UInt8.ofNat (128 + n / 4096 % 64), UInt8.ofNat (128 + n / 64 % 64), UInt8.ofNat (128 + n % 64), ?_, by rw [u8_of _ (by omega)]; omega, by rw [u8_of _ (by omega)]; omega, by rw [u8_of _ (by omega)]; omega, by rw [u8_of _ (by omega)]; omega⟩
        simp only [enc, Utf8.encode, hv, if_true, Int.toNat_natCast, if_neg h1, if_neg h2, if_neg h3]

theorem run_cons (d : Dec) (b : UInt8) (l : List UInt8) : run d (b :: l) = ((run (step d (b.toNat : Int)).1 l).1, (step d (b.toNat : Int)).2 ++ (run (step d (b.toNat : Int)).1 l).2) := rfl
theorem step_fits {d : Dec} {b : Int} (h : fits d b) : step d b = next d b := by unfold step; rw [if_pos h]
theorem opened_eq {b k m l u : Int} (h1 : more b = k) (h2 : mask b = m) (h3 : lo b = l) (h4 : hi b = u) : opened b = ⟨1, 1 + k, m, l, u⟩ := by unfold opened; rw [h1, h2, h3, h4]

/-- A rune's bytes are that rune, whatever goes on behind. -/
theorem run_enc {r : Int} (h : good r) (l : List UInt8) : run zero (enc r ++ l) = ((run zero l).1, r :: (run zero l).2) := by
  have hg := h
  unfold good at hg
  rcases enc_form h with ⟨h1, a, e, ha⟩ | ⟨h1, h2, a, b, e, ha, hb⟩ | ⟨h1, h2, a, b, c, e, ha, hb, hc⟩ | ⟨h1, h2, a, b, c, d, e, ha, hb, hc, hd⟩
  · rw [e, List.cons_append, List.nil_append, run_zero_cons, first_one (by omega), ha]
    rfl
  · have hm : more (a.toNat : Int) ≠ -1 := by unfold more; rw [if_pos (by omega)]; omega
    have e0 : opened (a.toNat : Int) = ⟨1, 1, r / 64, 128, 191⟩ :=
      opened_eq (k := 0) (by unfold more; rw [if_pos (by omega)]) (by unfold mask; rw [if_pos (by omega)]; omega) (by unfold lo; rw [if_neg (by omega), if_neg (by omega)]) (by unfold hi; rw [if_neg (by omega), if_neg (by omega)])
    have f1 : fits ⟨1, 1, r / 64, 128, 191⟩ (b.toNat : Int) := ⟨by simp, show 128 ≤ (b.toNat : Int) by omega, show (b.toNat : Int) ≤ 191 by omega⟩
    have v : r / 64 * 64 + (b.toNat : Int) % 64 = r := by omega
    rw [e, List.cons_append, List.cons_append, List.nil_append, run_zero_cons, first_open (by omega) hm, e0, run_cons, step_fits f1, next_one rfl]
    simp only [List.nil_append, List.cons_append, v]
  · have hm : more (a.toNat : Int) = 1 := by unfold more; rw [if_neg (by omega), if_pos (by omega)]
    have e0 : ∃ l u : Int, opened (a.toNat : Int) = ⟨1, 2, r / 4096, l, u⟩ ∧ l ≤ (b.toNat : Int) ∧ (b.toNat : Int) ≤ u := by
      refine ⟨lo (a.toNat : Int), hi (a.toNat : Int), opened_eq (k := 1) hm (by unfold mask; rw [if_neg (by omega), if_pos (by omega)]; omega) rfl rfl, ?_, ?_⟩
      · unfold lo; repeat' split
        all_goals omega
      · unfold hi; repeat' split
        all_goals omega
    obtain ⟨x, u, e0, hx, hu⟩ := e0
    have f1 : fits ⟨1, 2, r / 4096, x, u⟩ (b.toNat : Int) := ⟨by simp, hx, hu⟩
    have f2 : fits ⟨1 + 1, 2 - 1, r / 4096 * 64 + (b.toNat : Int) % 64, 128, 191⟩ (c.toNat : Int) := ⟨by simp, show 128 ≤ (c.toNat : Int) by omega, show (c.toNat : Int) ≤ 191 by omega⟩
    have v : (r / 4096 * 64 + (b.toNat : Int) % 64) * 64 + (c.toNat : Int) % 64 = r := by omega
    rw [e, List.cons_append, List.cons_append, List.cons_append, List.nil_append, run_zero_cons, first_open (by omega) (by omega), e0, run_cons, step_fits f1, next_more (by simp), run_cons, step_fits f2, next_one rfl]
    simp only [List.nil_append, List.cons_append, v]
  · have hm : more (a.toNat : Int) = 2 := by unfold more; rw [if_neg (by omega), if_neg (by omega), if_pos (by omega)]
    have e0 : ∃ l u : Int, opened (a.toNat : Int) = ⟨1, 3, r / 262144, l, u⟩ ∧ l ≤ (b.toNat : Int) ∧ (b.toNat : Int) ≤ u := by
      refine ⟨lo (a.toNat : Int), hi (a.toNat : Int), opened_eq (k := 2) hm (by unfold mask; rw [if_neg (by omega), if_neg (by omega)]; omega) rfl rfl, ?_, ?_⟩
      · unfold lo; repeat' split
        all_goals omega
      · unfold hi; repeat' split
        all_goals omega
    obtain ⟨x, u, e0, hx, hu⟩ := e0
    have f1 : fits ⟨1, 3, r / 262144, x, u⟩ (b.toNat : Int) := ⟨by simp, hx, hu⟩
    have f2 : fits ⟨1 + 1, 3 - 1, r / 262144 * 64 + (b.toNat : Int) % 64, 128, 191⟩ (c.toNat : Int) := ⟨by simp, show 128 ≤ (c.toNat : Int) by omega, show (c.toNat : Int) ≤ 191 by omega⟩
    have f3 : fits ⟨1 + 1 + 1, 3 - 1 - 1, (r / 262144 * 64 + (b.toNat : Int) % 64) * 64 + (c.toNat : Int) % 64, 128, 191⟩ (d.toNat : Int) := ⟨by simp, show 128 ≤ (d.toNat : Int) by omega, show (d.toNat : Int) ≤ 191 by omega⟩
    have v : ((r / 262144 * 64 + (b.toNat : Int) % 64) * 64 + (c.toNat : Int) % 64) * 64 + (d.toNat : Int) % 64 = r := by omega
    rw [e, List.cons_append, List.cons_append, List.cons_append, List.cons_append, List.nil_append, run_zero_cons, first_open (by omega) (by omega), e0, run_cons, step_fits f1, next_more (by simp), run_cons, step_fits f2, next_more (by simp), run_cons, step_fits f3, next_one rfl]
    simp only [List.nil_append, List.cons_append, v]

theorem run_bytes : ∀ (ns : List Int) (l : List UInt8), (∀ r ∈ ns, good r) → run zero (bytes ns ++ l) = ((run zero l).1, ns ++ (run zero l).2)
  | [], l, _ => rfl
  | r :: ns, l, h => by
    rw [bytes_cons, List.append_assoc, run_enc (h r (by simp)), run_bytes ns l fun x hx => h x (by simp [hx])]
    simp
/-- Runes that can be written come back. -/
theorem runes_bytes (ns : List Int) (h : ∀ r ∈ ns, good r) : runes (bytes ns) = ns := by
  have e := run_bytes ns [] h
  rw [List.append_nil] at e
  unfold runes
  rw [e]
  simp [run, lost, zero]
/-- Bytes behind runes that were written are decoded by themselves. -/
theorem runes_behind (ns : List Int) (l : List UInt8) (h : ∀ r ∈ ns, good r) : runes (bytes ns ++ l) = ns ++ runes l := by
  unfold runes
  rw [run_bytes ns l h]
  simp

theorem enc_length {r : Int} (h : good r) : 1 ≤ (enc r).length ∧ (enc r).length ≤ 4 := by
  rcases enc_form h with ⟨_, a, e, _⟩ | ⟨_, _, a, b, e, _⟩ | ⟨_, _, a, b, c, e, _⟩ | ⟨_, _, a, b, c, d, e, _⟩
  all_goals (rw [e]; simp)
theorem bytes_length : ∀ ns : List Int, (∀ r ∈ ns, good r) → ns.length ≤ (bytes ns).length ∧ (bytes ns).length ≤ 4 * ns.length
  | [], _ => by simp [bytes]
  | r :: ns, h => by
    have h1 := enc_length (h r (by simp))
    have h2 := bytes_length ns fun x hx => h x (by simp [hx])
    rw [bytes_cons, List.length_append, List.length_cons]
    omega

theorem get_mid (pre l post : List UInt8) (k : Nat) (b : UInt8) (h : l[k]? = some b) : ByteArray.get! ⟨(pre ++ (l ++ post)).toArray⟩ (pre.length + k) = b := by
  have hk : k < l.length := (List.getElem?_eq_some_iff.1 h).1
  have e : (pre ++ (l ++ post))[pre.length + k]? = some b := by
    rw [List.getElem?_append_right (by omega), show pre.length + k - pre.length = k by omega, List.getElem?_append_left hk, h]
  show (pre ++ (l ++ post)).toArray[pre.length + k]! = b
  simp [List.getElem!_eq_getElem?_getD, e]

/-- The language's range takes the same rune, of the same length, off a text of runes that were written. -/
theorem decode_at {r : Int} (h : good r) (pre post : List UInt8) : Utf8.decode ⟨(pre ++ (enc r ++ post)).toArray⟩ pre.length = (r.toNat, (enc r).length) := by
  have hg := h
  unfold good at hg
  have hsz : (⟨(pre ++ (enc r ++ post)).toArray⟩ : ByteArray).size = pre.length + (enc r).length + post.length := by
    show (pre ++ (enc r ++ post)).toArray.size = _
    simp; omega
  have hv : ∀ n : Nat, (n : Int) = r → Utf8.valid (Int.ofNat n) = true := fun n hn => by show Utf8.valid (n : Int) = true; rw [hn]; exact good_valid h
  rcases enc_form h with ⟨h1, a, e, ha⟩ | ⟨h1, h2, a, b, e, ha, hb⟩ | ⟨h1, h2, a, b, c, e, ha, hb, hc⟩ | ⟨h1, h2, a, b, c, d, e, ha, hb, hc, hd⟩
  · have g0 := get_mid pre (enc r) post 0 a (by rw [e]; rfl)
    generalize (⟨(pre ++ (enc r ++ post)).toArray⟩ : ByteArray) = s at *
    unfold Utf8.decode
    simp only [g0]
    rw [if_pos (by omega), e]
    exact Prod.ext (by show _ = r.toNat; omega) rfl
  · have g0 := get_mid pre (enc r) post 0 a (by rw [e]; rfl)
    have g1 := get_mid pre (enc r) post 1 b (by rw [e]; rfl)
    generalize (⟨(pre ++ (enc r ++ post)).toArray⟩ : ByteArray) = s at *
    rw [e] at hsz
    have hl : pre.length + 1 < s.size := by rw [hsz]; simp; omega
    unfold Utf8.decode
    simp only [g0, g1]
    rw [if_neg (by omega), if_pos (by simp [hl]; omega), if_pos (by omega), e]
    exact Prod.ext (by show _ = r.toNat; omega) rfl
  · have g0 := get_mid pre (enc r) post 0 a (by rw [e]; rfl)
    have g1 := get_mid pre (enc r) post 1 b (by rw [e]; rfl)
    have g2 := get_mid pre (enc r) post 2 c (by rw [e]; rfl)
    generalize (⟨(pre ++ (enc r ++ post)).toArray⟩ : ByteArray) = s at *
    rw [e] at hsz
    have hl : pre.length + 1 < s.size := by rw [hsz]; simp; omega
    have hl2 : pre.length + 2 < s.size := by rw [hsz]; simp; omega
    have en : (((a.toNat % 16 * 4096 + b.toNat % 64 * 64 + c.toNat % 64 : Nat)) : Int) = r := by omega
    unfold Utf8.decode
    simp only [g0, g1, g2]
    rw [if_neg (by omega), if_neg (by simp; omega), if_pos (by simp [hl, hl2]; omega), if_pos (by
      rw [Bool.and_eq_true]
      exact ⟨by simp; omega, hv _ en⟩), e]
    exact Prod.ext (by show _ = r.toNat; omega) rfl
  · have g0 := get_mid pre (enc r) post 0 a (by rw [e]; rfl)
    have g1 := get_mid pre (enc r) post 1 b (by rw [e]; rfl)
    have g2 := get_mid pre (enc r) post 2 c (by rw [e]; rfl)
    have g3 := get_mid pre (enc r) post 3 d (by rw [e]; rfl)
    generalize (⟨(pre ++ (enc r ++ post)).toArray⟩ : ByteArray) = s at *
    rw [e] at hsz
    have hl : pre.length + 1 < s.size := by rw [hsz]; simp; omega
    have hl2 : pre.length + 2 < s.size := by rw [hsz]; simp; omega
    have hl3 : pre.length + 3 < s.size := by rw [hsz]; simp; omega
    have en : (((a.toNat % 8 * 262144 + b.toNat % 64 * 4096 + c.toNat % 64 * 64 + d.toNat % 64 : Nat)) : Int) = r := by omega
    unfold Utf8.decode
    simp only [g0, g1, g2, g3]
    rw [if_neg (by omega), if_neg (by simp; omega), if_neg (by simp; omega), if_pos (by simp [hl, hl2, hl3]; omega), if_pos (by
      rw [Bool.and_eq_true]
      exact ⟨by simp; omega, hv _ en⟩), e]
    exact Prod.ext (by show _ = r.toNat; omega) rfl
end Go.Proofs.YtbiinghmopgjnaaGreatDoor.Cel
