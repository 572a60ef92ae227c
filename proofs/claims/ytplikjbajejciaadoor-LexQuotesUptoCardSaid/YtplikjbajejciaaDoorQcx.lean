/- lex: all that a reader stands in, and what its small calls do to it. -/
import Derived.Test.YtplikjbajejciaaDoorQev
namespace Go.Proofs.YtplikjbajejciaaDoor.Lex
open Go.RowKit Go.Maps
section
variable {w w' : World} {B e size n : Nat} {v : Value} {xs : List Value}
theorem own_only {G : List Nat} (h : w.ownsRow B e size v n xs) (ho : Only G w w') (hn : ∀ k, v.ownBlock = some k → k ∉ G) : w'.ownsRow B e size v n xs := by
  refine ⟨h.1, ?_⟩
  rcases h.2 with h2 | ⟨g, cap, cur, rfl, h3, h4, h5, h6, h7, h8⟩
  · exact .inl h2
  · exact .inr ⟨g, cap, cur, rfl, h3, (ho.block g (Array.getElem?_eq_some_iff.1 h4).1 (hn g rfl)).trans h4, h5, h6, h7, h8⟩
theorem own_slice (h : w.ownsRow B e size v n xs) : ∃ A c, v = .slice A n c := by
  rcases h.2 with ⟨rfl, rfl⟩ | ⟨g, cap, cur, rfl, _⟩ <;> exact ⟨_, _, rfl⟩
theorem own_some (h : w.ownsRow B e size v n xs) (hn : 0 < n) : ∃ g c tail, v = .slice (some ⟨g, 0, none⟩) n c ∧ B ≤ g ∧ BL w g e (xs ++ tail) ∧ (xs ++ tail).length = c * size ∧ n ≤ c ∧ c ≤ maxLen := by
  rcases h.2 with ⟨_, h0⟩ | ⟨g, cap, cur, rfl, hg, h3, h4, h5, h6, h7⟩
  · omega
  · have e : xs ++ cur.toList.drop (n * size) = cur.toList := by rw [← h7, List.take_append_drop]
    refine ⟨g, cap, cur.toList.drop (n * size), rfl, hg, ?_, ?_, h4, h5⟩
    · rw [e]; exact h3
    · rw [e, Array.length_toList]; exact h6
theorem own_type (h : w.ownsRow B e size v n xs) {k : Nat} {t : TypeId} {cs : List Value} (hk : BL w k t cs) (hne : t ≠ e) : v.ownBlock ≠ some k := fun hv => by
  rcases h.2 with ⟨rfl, _⟩ | ⟨g, cap, cur, rfl, _, hh, _⟩
  · cases hv
  · have hg : g = k := Option.some.inj hv
    subst hg
    unfold BL at hk
    rw [hh] at hk
    injection hk with hk
    injection hk with _ hk
    exact hne hk.symm
theorem own_low (h : w.ownsRow B e size v n xs) : ∀ k, v.ownBlock = some k → B ≤ k ∧ k < w.heap.size := fun k hv => by
  rcases h.2 with ⟨rfl, _⟩ | ⟨g, cap, cur, rfl, hb, hh, _⟩
  · cases hv
  · have hg : g = k := Option.some.inj hv
    subst hg
    exact ⟨hb, (Array.getElem?_eq_some_iff.1 hh).1⟩
theorem own_map (h : w.ownsRow B e size v n xs) {m j : Nat} {t : TypeId} {D : DataW Value} (hm : w.ownsMap Tryd.prog t posR m j D) : v.ownBlock ≠ some m := fun hv => by
  rcases h.2 with ⟨rfl, _⟩ | ⟨g, cap, cur, rfl, _, hh, _⟩
  · cases hv
  · have hg : g = m := Option.some.inj hv
    subst hg
    obtain ⟨es, cl, h2, _⟩ := hm
    rw [hh] at h2
    cases h2
theorem bl_map {b m j : Nat} {t t2 : TypeId} {D : DataW Value} (h : BL w b t2 xs) (hm : w.ownsMap Tryd.prog t posR m j D) : m ≠ b := fun hv => by
  subst hv
  obtain ⟨es, cl, h2, _⟩ := hm
  unfold BL at h
  rw [h] at h2
  cases h2
end
/-- What a reader keeps while it passes over bytes and asks for values. -/
structure Kp where
  T : Tx
  pv : Value
  lv : Value
  wv : Value
  g : Nat
  bg : Nat
  kv : Value
def Kp.rd (K : Kp) (s : Tx) (n : Nat) (mv : Value) : Rd := ⟨K.T, K.T.length - s.length, n, K.pv, mv, K.lv, K.wv, K.g, K.bg, K.kv⟩
/-- A reader: s is left of its text, in line n. -/
structure Cx (B : Nat) (w : World) (rb : Nat) (K : Kp) (env : Env) (s : Tx) (n : Nat) : Prop where
  place : ∃ mv, RAt w rb (K.rd s n mv) ∧ MpAt B w mv env
  suf : s <:+ K.T
  most : K.T.length ≤ 65536
  line : n + s.length ≤ K.T.length + 1
  prs : ∃ A c, K.pv = .slice A env.length c ∧ PrAt B w A env
  eok : EnvOk env
  low : B ≤ rb
section
variable {B rb n : Nat} {w w' : World} {K : Kp} {env : Env} {s : Tx}
theorem Cx.len (h : Cx B w rb K env s n) : s.length ≤ 65536 := by
  have := h.suf.length_le
  have := h.most
  omega
theorem Cx.ok (h : Cx B w rb K env s n) (mv : Value) : Ok (K.rd s n mv) s := by
  have h1 := h.suf.length_le
  have h2 := h.line
  refine ⟨?_, by show K.T.length - s.length + s.length = K.T.length; omega, h.most, by show n ≤ K.T.length - s.length + 1; omega⟩
  show K.T.drop (K.T.length - s.length) = s
  exact (List.suffix_iff_eq_drop.1 h.suf).symm
theorem Cx.lt (h : Cx B w rb K env s n) : rb < w.heap.size := by obtain ⟨mv, hR, _⟩ := h.place; exact BL.lt hR
theorem MpAt.only {F : List Nat} {mv : Value} (h : MpAt B w mv env) (ho : Only F w w') (hF : ∀ m j D, mv = .map (some m) → w.ownsMap Tryd.prog 9 posR m j D → m ∉ F) : MpAt B w' mv env := by
  rcases h with h | ⟨m, D, j, h1, rfl, h2, h3⟩
  · exact .inl h
  · obtain ⟨es, cl, hb, hr⟩ := h2
    exact .inr ⟨m, D, j, h1, rfl, ⟨es, cl, (ho.block m (Array.getElem?_eq_some_iff.1 hb).1 (hF m j D rfl ⟨es, cl, hb, hr⟩)).trans hb, hr⟩, h3⟩
theorem Cx.same (h : Cx B w rb K env s n) (ho : Only [] w w') : Cx B w' rb K env s n := by
  obtain ⟨⟨mv, hR, hM⟩, h1, h2, h3, ⟨A, c, h4, h5⟩, h6, h7⟩ := h
  have hlt : rb < w.heap.size := BL.lt hR
  exact ⟨⟨mv, hR.only ho (by simp), hM.only ho (fun _ _ _ _ _ => by simp)⟩, h1, h2, h3, ⟨A, c, h4, h5.below (ho.below (by omega) (by simp))⟩, h6, h7⟩
/-- What the reader's own block tells has turned. -/
theorem Cx.turn (h : Cx B w rb K env s n) {K' : Kp} {s' : Tx} {n' : Nat} {mv : Value} (hR : RAt w' rb (K'.rd s' n' mv)) (hM : MpAt B w' mv env) (ho : Only [rb] w w') (hT : K'.T = K.T) (hp : K'.pv = K.pv) (hs : s' <:+ s) (hn : n' + s'.length ≤ n + s.length) : Cx B w' rb K' env s' n' := by
  have hlt := h.lt
  obtain ⟨_, h1, h2, h3, ⟨A, c, h4, h5⟩, h6, h7⟩ := h
  exact ⟨⟨mv, hR, hM⟩, by rw [hT]; exact hs.trans h1, by rw [hT]; exact h2, by rw [hT]; omega, ⟨A, c, by rw [hp]; exact h4, h5.below (ho.below (by omega) (by simp; omega))⟩, h6, h7⟩
theorem MpAt.set (mv : Value) {F : List Nat} {K : Kp} {s : Tx} {n : Nat} (hR : RAt w rb (K.rd s n mv)) (h : MpAt B w mv env) (ho : Only F w w') (hF : ∀ x ∈ F, x = rb) : MpAt B w' mv env :=
  h.only ho fun m _ _ _ hm hx => bl_map (show BL w rb 49 _ from hR) hm (hF m hx)
end
section
variable {B rb n : Nat} {w : World} {K : Kp} {env : Env}
theorem next_cx {s : Tx} (h : Cx B w rb K env s n) :
    Calls Tryd.prog 36 #[ptrV rb] w fun e w' => e = .returned (.string (bs (s.take 1))) ∧ Cx B w' rb K env s n ∧ Only [] w w' := by
  obtain ⟨mv, hR, _⟩ := h.place
  exact (next_any hR (h.ok mv)).mono fun e w' he => ⟨he.1, h.same he.2, he.2⟩
theorem after_cx {c : UInt8} {s : Tx} (h : Cx B w rb K env (c :: s) n) :
    Calls Tryd.prog 40 #[ptrV rb] w fun e w' => e = .returned (.string (bs (s.take 1))) ∧ Cx B w' rb K env (c :: s) n ∧ Only [] w w' := by
  obtain ⟨mv, hR, _⟩ := h.place
  exact (after_any hR (h.ok mv)).mono fun e w' he => ⟨he.1, h.same he.2, he.2⟩
theorem rd_adv {mv : Value} {c : UInt8} {s : Tx} (h : Cx B w rb K env (c :: s) n) : (K.rd (c :: s) n mv).adv c = K.rd s (nl c n) mv := by
  have h1 := h.suf.length_le
  rw [List.length_cons] at h1
  unfold Rd.adv Kp.rd
  rw [List.length_cons]
  simp only [Rd.mk.injEq, true_and, and_true]
  omega
theorem nl_le (c : UInt8) (n : Nat) : nl c n ≤ n + 1 := by unfold nl; split <;> omega
theorem take_cx {c : UInt8} {s : Tx} (h : Cx B w rb K env (c :: s) n) :
    Calls Tryd.prog 41 #[ptrV rb] w fun e w' => e = .returned (.string (bs [c])) ∧ Cx B w' rb K env s (nl c n) ∧ Only [rb] w w' := by
  obtain ⟨mv, hR, hM⟩ := h.place
  refine (take_some hR (h.ok mv)).mono fun e w' he => ⟨he.1, ?_, he.2.2⟩
  have h2 := he.2.1
  rw [rd_adv h] at h2
  have := nl_le c n
  exact h.turn h2 (hM.set mv hR he.2.2 (by simp)) he.2.2 rfl rfl (List.suffix_cons _ _) (by rw [List.length_cons]; omega)
theorem take_end_cx (h : Cx B w rb K env [] n) :
    Calls Tryd.prog 41 #[ptrV rb] w fun e w' => e = .returned (.string { data := #[] }) ∧ Cx B w' rb K env [] n ∧ Only [rb] w w' := by
  obtain ⟨mv, hR, hM⟩ := h.place
  exact (take_end hR (h.ok mv)).mono fun e w' he => ⟨he.1, h.turn he.2.1 (hM.set mv hR he.2.2 (by simp)) he.2.2 rfl rfl (List.suffix_refl _) (Nat.le_refl _), he.2.2⟩
theorem refuse_cx {s : Tx} (h : Cx B w rb K env s n) (e : Nat) :
    Calls Tryd.prog 39 #[ptrV rb, .int .i64 (e : Int)] w fun x w' => x = .panicked (ftP e K.bg) ∧ w = w' := by
  obtain ⟨mv, hR, _⟩ := h.place
  exact refuse_any hR e
/-- A value asked for. -/
theorem value_cx {s : Tx} (h : Cx B w rb K env s n) (nm : Tx) (hl : nm.length ≤ 65536) :
    Calls Tryd.prog 58 #[.pointer (some ⟨rb, 3, none⟩), .string (bs nm)] w fun e w' => e = .returned (.string (bs (valP env nm))) ∧ Cx B w' rb K env s n ∧ Only [rb] w w' := by
  obtain ⟨mv, hR, hM⟩ := h.place
  obtain ⟨A, c, h4, h5⟩ := h.prs
  have hl2 : nm.length ≤ maxLen := by unfold maxLen; omega
  rcases hM with rfl | ⟨m, D, j, hm1, rfl, hm2, hm3⟩
  · refine (value_none hR h4 h5 h.eok h.low rfl nm hl2).mono fun e w' he => ?_
    obtain ⟨he1, m, D, j, hm, hR', how, hS, hO⟩ := he
    have := h.lt
    have := h.low
    exact ⟨he1, h.turn (K' := K) (s' := s) (n' := n) (mv := .map (some m)) hR' (.inr ⟨m, D, j, by omega, rfl, how, hS⟩) hO rfl rfl (List.suffix_refl _) (Nat.le_refl _), hO⟩
  · refine (value_map hR h4 h5 h.eok rfl hm2 hm3 nm hl2).mono fun e w' he => ?_
    obtain ⟨he1, rfl⟩ := he
    exact ⟨he1, h, Only.refl _ _⟩
end
end Go.Proofs.YtplikjbajejciaaDoor.Lex
