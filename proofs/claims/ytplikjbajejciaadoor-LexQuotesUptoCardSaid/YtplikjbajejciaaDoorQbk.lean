/- lex: a block's frame, and what a block comes to. -/
import Derived.Test.YtplikjbajejciaaDoorQwx
namespace Go.Proofs.YtplikjbajejciaaDoor.Lex
open Go.RowKit Go.Maps
/-- A block's frame: how deep it is, where it begins. -/
structure Fb (p d f : Value) (a : Act) : Prop where
  defers : a.defers = []
  size : a.tmps.size = 71
  head : a.tmps[0]? = some p
  deep : a.tmps[3]? = some d
  from_ : a.tmps[4]? = some f
section
set_option maxRecDepth 100000
set_option maxHeartbeats 4000000
theorem frameb {p d f : Value} {a : Act} (h : Fb p d f a) : ∃ u1 u2 u5 u6 u7 u8 u9 u10 u11 u12 u13 u14 u15 u16 u17 u18 u19 u20 u21 u22 u23 u24 u25 u26 u27 u28 u29 u30 u31 u32 u33 u34 u35 u36 u37 u38 u39 u40 u41 u42 u43 u44 u45 u46 u47 u48 u49 u50 u51 u52 u53 u54 u55 u56 u57 u58 u59 u60 u61 u62 u63 u64 u65 u66 u67 u68 u69 u70 : Value, a = { tmps := #[p, u1, u2, d, f, u5, u6, u7, u8, u9, u10, u11, u12, u13, u14, u15, u16, u17, u18, u19, u20, u21, u22, u23, u24, u25, u26, u27, u28, u29, u30, u31, u32, u33, u34, u35, u36, u37, u38, u39, u40, u41, u42, u43, u44, u45, u46, u47, u48, u49, u50, u51, u52, u53, u54, u55, u56, u57, u58, u59, u60, u61, u62, u63, u64, u65, u66, u67, u68, u69, u70], defers := [] } := by
  obtain ⟨⟨l0⟩, ds⟩ := a
  obtain ⟨hd, hs0, h0, h3, h4⟩ := h
  dsimp only at hd hs0 h0 h3 h4
  subst hd
  rw [List.size_toArray] at hs0
  obtain ⟨u0, l1, rfl, hs1⟩ := len_cons hs0
  obtain ⟨u1, l2, rfl, hs2⟩ := len_cons hs1
  obtain ⟨u2, l3, rfl, hs3⟩ := len_cons hs2
  obtain ⟨u3, l4, rfl, hs4⟩ := len_cons hs3
  obtain ⟨u4, l5, rfl, hs5⟩ := len_cons hs4
  obtain ⟨u5, l6, rfl, hs6⟩ := len_cons hs5
  obtain ⟨u6, l7, rfl, hs7⟩ := len_cons hs6
  obtain ⟨u7, l8, rfl, hs8⟩ := len_cons hs7
  obtain ⟨u8, l9, rfl, hs9⟩ := len_cons hs8
  obtain ⟨u9, l10, rfl, hs10⟩ := len_cons hs9
  obtain ⟨u10, l11, rfl, hs11⟩ := len_cons hs10
  obtain ⟨u11, l12, rfl, hs12⟩ := len_cons hs11
  obtain ⟨u12, l13, rfl, hs13⟩ := len_cons hs12
  obtain ⟨u13, l14, rfl, hs14⟩ := len_cons hs13
  obtain ⟨u14, l15, rfl, hs15⟩ := len_cons hs14
  obtain ⟨u15, l16, rfl, hs16⟩ := len_cons hs15
  obtain ⟨u16, l17, rfl, hs17⟩ := len_cons hs16
  obtain ⟨u17, l18, rfl, hs18⟩ := len_cons hs17
  obtain ⟨u18, l19, rfl, hs19⟩ := len_cons hs18
  obtain ⟨u19, l20, rfl, hs20⟩ := len_cons hs19
  obtain ⟨u20, l21, rfl, hs21⟩ := len_cons hs20
  obtain ⟨u21, l22, rfl, hs22⟩ := len_cons hs21
  obtain ⟨u22, l23, rfl, hs23⟩ := len_cons hs22
  obtain ⟨u23, l24, rfl, hs24⟩ := len_cons hs23
  obtain ⟨u24, l25, rfl, hs25⟩ := len_cons hs24
  obtain ⟨u25, l26, rfl, hs26⟩ := len_cons hs25
  obtain ⟨u26, l27, rfl, hs27⟩ := len_cons hs26
  obtain ⟨u27, l28, rfl, hs28⟩ := len_cons hs27
  obtain ⟨u28, l29, rfl, hs29⟩ := len_cons hs28
  obtain ⟨u29, l30, rfl, hs30⟩ := len_cons hs29
  obtain ⟨u30, l31, rfl, hs31⟩ := len_cons hs30
  obtain ⟨u31, l32, rfl, hs32⟩ := len_cons hs31
  obtain ⟨u32, l33, rfl, hs33⟩ := len_cons hs32
  obtain ⟨u33, l34, rfl, hs34⟩ := len_cons hs33
  obtain ⟨u34, l35, rfl, hs35⟩ := len_cons hs34
  obtain ⟨u35, l36, rfl, hs36⟩ := len_cons hs35
  obtain ⟨u36, l37, rfl, hs37⟩ := len_cons hs36
  obtain ⟨u37, l38, rfl, hs38⟩ := len_cons hs37
  obtain ⟨u38, l39, rfl, hs39⟩ := len_cons hs38
  obtain ⟨u39, l40, rfl, hs40⟩ := len_cons hs39
  obtain ⟨u40, l41, rfl, hs41⟩ := len_cons hs40
  obtain ⟨u41, l42, rfl, hs42⟩ := len_cons hs41
  obtain ⟨u42, l43, rfl, hs43⟩ := len_cons hs42
  obtain ⟨u43, l44, rfl, hs44⟩ := len_cons hs43
  obtain ⟨u44, l45, rfl, hs45⟩ := len_cons hs44
  obtain ⟨u45, l46, rfl, hs46⟩ := len_cons hs45
  obtain ⟨u46, l47, rfl, hs47⟩ := len_cons hs46
  obtain ⟨u47, l48, rfl, hs48⟩ := len_cons hs47
  obtain ⟨u48, l49, rfl, hs49⟩ := len_cons hs48
  obtain ⟨u49, l50, rfl, hs50⟩ := len_cons hs49
  obtain ⟨u50, l51, rfl, hs51⟩ := len_cons hs50
  obtain ⟨u51, l52, rfl, hs52⟩ := len_cons hs51
  obtain ⟨u52, l53, rfl, hs53⟩ := len_cons hs52
  obtain ⟨u53, l54, rfl, hs54⟩ := len_cons hs53
  obtain ⟨u54, l55, rfl, hs55⟩ := len_cons hs54
  obtain ⟨u55, l56, rfl, hs56⟩ := len_cons hs55
  obtain ⟨u56, l57, rfl, hs57⟩ := len_cons hs56
  obtain ⟨u57, l58, rfl, hs58⟩ := len_cons hs57
  obtain ⟨u58, l59, rfl, hs59⟩ := len_cons hs58
  obtain ⟨u59, l60, rfl, hs60⟩ := len_cons hs59
  obtain ⟨u60, l61, rfl, hs61⟩ := len_cons hs60
  obtain ⟨u61, l62, rfl, hs62⟩ := len_cons hs61
  obtain ⟨u62, l63, rfl, hs63⟩ := len_cons hs62
  obtain ⟨u63, l64, rfl, hs64⟩ := len_cons hs63
  obtain ⟨u64, l65, rfl, hs65⟩ := len_cons hs64
  obtain ⟨u65, l66, rfl, hs66⟩ := len_cons hs65
  obtain ⟨u66, l67, rfl, hs67⟩ := len_cons hs66
  obtain ⟨u67, l68, rfl, hs68⟩ := len_cons hs67
  obtain ⟨u68, l69, rfl, hs69⟩ := len_cons hs68
  obtain ⟨u69, l70, rfl, hs70⟩ := len_cons hs69
  obtain ⟨u70, l71, rfl, hs71⟩ := len_cons hs70
  obtain rfl := List.eq_nil_of_length_eq_zero hs71
  simp at h0 h3 h4
  subst h0
  subst h3
  subst h4
  exact ⟨_, _, _, _, _, _, _, _, _, _, _, _, _, _, _, _, _, _, _, _, _, _, _, _, _, _, _, _, _, _, _, _, _, _, _, _, _, _, _, _, _, _, _, _, _, _, _, _, _, _, _, _, _, _, _, _, _, _, _, _, _, _, _, _, _, _, _, _, rfl⟩
end
/-- What a block comes to; r stands behind its brace. -/
def BP (B rb : Nat) (w0 : World) (K : Kp) (env : Env) (r : Tx) (O : Option (Tx × Nat)) (e : Ending) (w' : World) : Prop :=
  match O with
  | none => e = .panicked (ftP 4 K.bg) ∧ Only [rb] w0 w'
  | some (s, n) => e = .returned (.string (bs (r.take (r.length - (s.length + 1))))) ∧ Cx B w' rb K env s n ∧ Only [rb] w0 w'
theorem BP.bad_ {B rb : Nat} {w0 w' : World} {K : Kp} {env : Env} {r : Tx} {O : Option (Tx × Nat)} (hO : O = none) (h : Only [rb] w0 w') : BP B rb w0 K env r O (.panicked (ftP 4 K.bg)) w' := by subst hO; exact ⟨rfl, h⟩
theorem BP.got_ {B rb n : Nat} {w0 w' : World} {K : Kp} {env : Env} {r s : Tx} {O : Option (Tx × Nat)} (hO : O = some (s, n)) (hc : Cx B w' rb K env s n) (h : Only [rb] w0 w') : BP B rb w0 K env r O (.returned (.string (bs (r.take (r.length - (s.length + 1)))))) w' := by subst hO; exact ⟨rfl, hc, h⟩
/-- A block at hand, d deep. -/
structure BH (B rb : Nat) (w0 w : World) (K : Kp) (env : Env) (d : Int) (s : Tx) (n : Nat) : Prop where
  cx : Cx B w rb K env s n
  only : Only [rb] w0 w
  hi : d + s.length ≤ 65537
  lo : (s.length : Int) - d ≤ 65537
section
variable {B rb n : Nat} {w0 w w' : World} {K : Kp} {env : Env} {s : Tx} {d : Int}
theorem BH.go (h : BH B rb w0 w K env d s n) {d' : Int} {s' : Tx} {n' : Nat} (hc : Cx B w' rb K env s' n') (ho : Only [rb] w w') (h1 : d' - d ≤ (s.length : Int) - s'.length) (h2 : d - d' ≤ (s.length : Int) - s'.length) : BH B rb w0 w' K env d' s' n' := by
  have := h.hi
  have := h.lo
  exact ⟨hc, h.only.trans ho, by omega, by omega⟩
theorem BH.take {c : UInt8} (h : BH B rb w0 w K env d (c :: s) n) :
    Calls Tryd.prog 41 #[ptrV rb] w fun e w' => e = .returned (.string (bs [c])) ∧ BH B rb w0 w' K env d s (nl c n) :=
  (take_cx h.cx).mono fun _ _ he => ⟨he.1, h.go he.2.1 he.2.2 (by rw [List.length_cons]; omega) (by rw [List.length_cons]; omega)⟩
theorem BH.take_end (h : BH B rb w0 w K env d [] n) :
    Calls Tryd.prog 41 #[ptrV rb] w fun e w' => e = .returned (.string { data := #[] }) ∧ BH B rb w0 w' K env d [] n :=
  (take_end_cx h.cx).mono fun _ _ he => ⟨he.1, h.go he.2.1 he.2.2 (by simp) (by simp)⟩
theorem BH.take2 {c : UInt8} (h : BH B rb w0 w K env d (c :: s) n) (d' : Int) (h1 : d' ≤ d + 1) (h2 : d ≤ d' + 1) :
    Calls Tryd.prog 41 #[ptrV rb] w fun e w' => e = .returned (.string (bs [c])) ∧ BH B rb w0 w' K env d' s (nl c n) :=
  (take_cx h.cx).mono fun _ _ he => ⟨he.1, h.go he.2.1 he.2.2 (by rw [List.length_cons]; omega) (by rw [List.length_cons]; omega)⟩
/-- Whatever comes next is passed over. -/
theorem BH.tk (h : BH B rb w0 w K env d s n) :
    Calls Tryd.prog 41 #[ptrV rb] w fun e w' => e = .returned (.string (bs (s.take 1))) ∧ BH B rb w0 w' K env d (tk s n).1 (tk s n).2 := by
  cases s with
  | nil => exact h.take_end
  | cons c s => exact h.take
theorem BH.refuse (h : BH B rb w0 w K env d s n) (k : Nat) :
    Calls Tryd.prog 39 #[ptrV rb, .int .i64 (k : Int)] w fun e w' => e = .panicked (ftP k K.bg) ∧ Only [rb] w0 w' :=
  (refuse_cx h.cx k).mono fun _ _ he => ⟨he.1, he.2 ▸ h.only⟩
theorem BH.next (h : BH B rb w0 w K env d s n) :
    Calls Tryd.prog 36 #[ptrV rb] w fun e w' => e = .returned (.string (bs (s.take 1))) ∧ BH B rb w0 w' K env d s n :=
  (next_cx h.cx).mono fun _ _ he => ⟨he.1, h.go he.2.1 (he.2.2.mono (by simp)) (by simp) (by simp)⟩
end
def QB : Q → Nat
  | .pl => 2
  | .sg => 0
  | .db => 1
/-- What holds at the labels of a block. -/
def BJ (B rb : Nat) (w0 : World) (K : Kp) (env : Env) (r : Tx) (O : Option (Tx × Nat)) (f l : Nat) (a : Act) (w : World) : Prop :=
  ∃ q d s n, l = QB q ∧ Fb (ptrV rb) (.int .i64 d) (.int .i64 ((K.T.length - r.length : Nat) : Int)) a ∧ BH B rb w0 w K env d s n ∧ (s.length ≤ r.length ∨ (s = 123 :: r ∧ d = 0 ∧ q = .pl)) ∧ s.length < f ∧ blockF f q d s n = O
noncomputable def blockC : Code := innerC Tryd.f44
/-- What stands behind the switch over a block's bytes. -/
noncomputable def tailOf (c : Code) (l : Nat) : Option Code := match findLabel c l with
  | some (.seq _ (.seq _ t)) => some t
  | _ => none
section
variable {n f : Nat} {s : Tx} {d : Int} {O : Option (Tx × Nat)} {q : Q}
theorem blockF_go {q' : Q} {d' : Int} {s' : Tx} {n' : Nat} (hw : blockF (f + 1) q d s n = O) (hst : stepB q d s n = .go q' d' s' n') : blockF f q' d' s' n' = O := by
  unfold blockF at hw; rw [hst] at hw; exact hw
theorem blockF_bad (hw : blockF (f + 1) q d s n = O) (hst : stepB q d s n = .bad) : O = none := by
  unfold blockF at hw; rw [hst] at hw; exact hw.symm
theorem blockF_fin {s' : Tx} {n' : Nat} (hw : blockF (f + 1) q d s n = O) (hst : stepB q d s n = .fin s' n') : O = some (s', n') := by
  unfold blockF at hw; rw [hst] at hw; exact hw.symm
end
end Go.Proofs.YtplikjbajejciaaDoor.Lex
