/- lex: frames of the functions whose bytes are come to by labels. -/
import Derived.Test.YtplikjbajejciaaDoorQad
namespace Go.Proofs.YtplikjbajejciaaDoor.Lex
open Go.RowKit Go.Maps
/-- A frame of k slots with p in the first. -/
structure Fr (k : Nat) (p : Value) (a : Act) : Prop where
  defers : a.defers = []
  size : a.tmps.size = k
  head : a.tmps[0]? = some p
theorem len_cons {l : List Value} {n : Nat} (h : l.length = n + 1) : ∃ x t, l = x :: t ∧ t.length = n := by
  cases l with
  | nil => cases h
  | cons x t => exact ⟨x, t, rfl, by simpa using h⟩
set_option maxRecDepth 100000
set_option maxHeartbeats 4000000
theorem frame62 {p : Value} {a : Act} (h : Fr 62 p a) : ∃ u1 u2 u3 u4 u5 u6 u7 u8 u9 u10 u11 u12 u13 u14 u15 u16 u17 u18 u19 u20 u21 u22 u23 u24 u25 u26 u27 u28 u29 u30 u31 u32 u33 u34 u35 u36 u37 u38 u39 u40 u41 u42 u43 u44 u45 u46 u47 u48 u49 u50 u51 u52 u53 u54 u55 u56 u57 u58 u59 u60 u61 : Value, a = { tmps := #[p, u1, u2, u3, u4, u5, u6, u7, u8, u9, u10, u11, u12, u13, u14, u15, u16, u17, u18, u19, u20, u21, u22, u23, u24, u25, u26, u27, u28, u29, u30, u31, u32, u33, u34, u35, u36, u37, u38, u39, u40, u41, u42, u43, u44, u45, u46, u47, u48, u49, u50, u51, u52, u53, u54, u55, u56, u57, u58, u59, u60, u61], defers := [] } := by
  obtain ⟨⟨l0⟩, d⟩ := a
  obtain ⟨hd, hs0, h0⟩ := h
  dsimp only at hd hs0 h0
  subst hd
  rw [List.size_toArray] at hs0
  obtain ⟨u0, l1, rfl, hs1⟩ := len_cons hs0
  obtain ⟨u1, l2, rfl, hs2⟩ := len_cons hs1
  obtain ⟨u2, l3, rfl, hs3⟩ := len_cons hs2
  obtain ⟨u3, l4, rfl, hs4⟩ := len_cons hs3
  obtain ⟨u4, l5, rfl, hs5⟩ := len_cons hs4
  obtain ⟨u5, l6, rfl, hs6⟩ := len_cons hs5
  obtain ⟨u6, l7, rfl, hs7⟩ := len_cons hs6
  obtain ⟨u7, l8, rfl, hs8⟩ := len_cons hs7
  obtain ⟨u8, l9, rfl, hs9⟩ := len_cons hs8
  obtain ⟨u9, l10, rfl, hs10⟩ := len_cons hs9
  obtain ⟨u10, l11, rfl, hs11⟩ := len_cons hs10
  obtain ⟨u11, l12, rfl, hs12⟩ := len_cons hs11
  obtain ⟨u12, l13, rfl, hs13⟩ := len_cons hs12
  obtain ⟨u13, l14, rfl, hs14⟩ := len_cons hs13
  obtain ⟨u14, l15, rfl, hs15⟩ := len_cons hs14
  obtain ⟨u15, l16, rfl, hs16⟩ := len_cons hs15
  obtain ⟨u16, l17, rfl, hs17⟩ := len_cons hs16
  obtain ⟨u17, l18, rfl, hs18⟩ := len_cons hs17
  obtain ⟨u18, l19, rfl, hs19⟩ := len_cons hs18
  obtain ⟨u19, l20, rfl, hs20⟩ := len_cons hs19
  obtain ⟨u20, l21, rfl, hs21⟩ := len_cons hs20
  obtain ⟨u21, l22, rfl, hs22⟩ := len_cons hs21
  obtain ⟨u22, l23, rfl, hs23⟩ := len_cons hs22
  obtain ⟨u23, l24, rfl, hs24⟩ := len_cons hs23
  obtain ⟨u24, l25, rfl, hs25⟩ := len_cons hs24
  obtain ⟨u25, l26, rfl, hs26⟩ := len_cons hs25
  obtain ⟨u26, l27, rfl, hs27⟩ := len_cons hs26
  obtain ⟨u27, l28, rfl, hs28⟩ := len_cons hs27
  obtain ⟨u28, l29, rfl, hs29⟩ := len_cons hs28
  obtain ⟨u29, l30, rfl, hs30⟩ := len_cons hs29
  obtain ⟨u30, l31, rfl, hs31⟩ := len_cons hs30
  obtain ⟨u31, l32, rfl, hs32⟩ := len_cons hs31
  obtain ⟨u32, l33, rfl, hs33⟩ := len_cons hs32
  obtain ⟨u33, l34, rfl, hs34⟩ := len_cons hs33
  obtain ⟨u34, l35, rfl, hs35⟩ := len_cons hs34
  obtain ⟨u35, l36, rfl, hs36⟩ := len_cons hs35
  obtain ⟨u36, l37, rfl, hs37⟩ := len_cons hs36
  obtain ⟨u37, l38, rfl, hs38⟩ := len_cons hs37
  obtain ⟨u38, l39, rfl, hs39⟩ := len_cons hs38
  obtain ⟨u39, l40, rfl, hs40⟩ := len_cons hs39
  obtain ⟨u40, l41, rfl, hs41⟩ := len_cons hs40
  obtain ⟨u41, l42, rfl, hs42⟩ := len_cons hs41
  obtain ⟨u42, l43, rfl, hs43⟩ := len_cons hs42
  obtain ⟨u43, l44, rfl, hs44⟩ := len_cons hs43
  obtain ⟨u44, l45, rfl, hs45⟩ := len_cons hs44
  obtain ⟨u45, l46, rfl, hs46⟩ := len_cons hs45
  obtain ⟨u46, l47, rfl, hs47⟩ := len_cons hs46
  obtain ⟨u47, l48, rfl, hs48⟩ := len_cons hs47
  obtain ⟨u48, l49, rfl, hs49⟩ := len_cons hs48
  obtain ⟨u49, l50, rfl, hs50⟩ := len_cons hs49
  obtain ⟨u50, l51, rfl, hs51⟩ := len_cons hs50
  obtain ⟨u51, l52, rfl, hs52⟩ := len_cons hs51
  obtain ⟨u52, l53, rfl, hs53⟩ := len_cons hs52
  obtain ⟨u53, l54, rfl, hs54⟩ := len_cons hs53
  obtain ⟨u54, l55, rfl, hs55⟩ := len_cons hs54
  obtain ⟨u55, l56, rfl, hs56⟩ := len_cons hs55
  obtain ⟨u56, l57, rfl, hs57⟩ := len_cons hs56
  obtain ⟨u57, l58, rfl, hs58⟩ := len_cons hs57
  obtain ⟨u58, l59, rfl, hs59⟩ := len_cons hs58
  obtain ⟨u59, l60, rfl, hs60⟩ := len_cons hs59
  obtain ⟨u60, l61, rfl, hs61⟩ := len_cons hs60
  obtain ⟨u61, l62, rfl, hs62⟩ := len_cons hs61
  obtain rfl := List.eq_nil_of_length_eq_zero hs62
  simp at h0
  subst h0
  exact ⟨_, _, _, _, _, _, _, _, _, _, _, _, _, _, _, _, _, _, _, _, _, _, _, _, _, _, _, _, _, _, _, _, _, _, _, _, _, _, _, _, _, _, _, _, _, _, _, _, _, _, _, _, _, _, _, _, _, _, _, _, _, rfl⟩
theorem frame86 {p : Value} {a : Act} (h : Fr 86 p a) : ∃ u1 u2 u3 u4 u5 u6 u7 u8 u9 u10 u11 u12 u13 u14 u15 u16 u17 u18 u19 u20 u21 u22 u23 u24 u25 u26 u27 u28 u29 u30 u31 u32 u33 u34 u35 u36 u37 u38 u39 u40 u41 u42 u43 u44 u45 u46 u47 u48 u49 u50 u51 u52 u53 u54 u55 u56 u57 u58 u59 u60 u61 u62 u63 u64 u65 u66 u67 u68 u69 u70 u71 u72 u73 u74 u75 u76 u77 u78 u79 u80 u81 u82 u83 u84 u85 : Value, a = { tmps := #[p, u1, u2, u3, u4, u5, u6, u7, u8, u9, u10, u11, u12, u13, u14, u15, u16, u17, u18, u19, u20, u21, u22, u23, u24, u25, u26, u27, u28, u29, u30, u31, u32, u33, u34, u35, u36, u37, u38, u39, u40, u41, u42, u43, u44, u45, u46, u47, u48, u49, u50, u51, u52, u53, u54, u55, u56, u57, u58, u59, u60, u61, u62, u63, u64, u65, u66, u67, u68, u69, u70, u71, u72, u73, u74, u75, u76, u77, u78, u79, u80, u81, u82, u83, u84, u85], defers := [] } := by
  obtain ⟨⟨l0⟩, d⟩ := a
  obtain ⟨hd, hs0, h0⟩ := h
  dsimp only at hd hs0 h0
  subst hd
  rw [List.size_toArray] at hs0
  obtain ⟨u0, l1, rfl, hs1⟩ := len_cons hs0
  obtain ⟨u1, l2, rfl, hs2⟩ := len_cons hs1
  obtain ⟨u2, l3, rfl, hs3⟩ := len_cons hs2
  obtain ⟨u3, l4, rfl, hs4⟩ := len_cons hs3
  obtain ⟨u4, l5, rfl, hs5⟩ := len_cons hs4
  obtain ⟨u5, l6, rfl, hs6⟩ := len_cons hs5
  obtain ⟨u6, l7, rfl, hs7⟩ := len_cons hs6
  obtain ⟨u7, l8, rfl, hs8⟩ := len_cons hs7
  obtain ⟨u8, l9, rfl, hs9⟩ := len_cons hs8
  obtain ⟨u9, l10, rfl, hs10⟩ := len_cons hs9
  obtain ⟨u10, l11, rfl, hs11⟩ := len_cons hs10
  obtain ⟨u11, l12, rfl, hs12⟩ := len_cons hs11
  obtain ⟨u12, l13, rfl, hs13⟩ := len_cons hs12
  obtain ⟨u13, l14, rfl, hs14⟩ := len_cons hs13
  obtain ⟨u14, l15, rfl, hs15⟩ := len_cons hs14
  obtain ⟨u15, l16, rfl, hs16⟩ := len_cons hs15
  obtain ⟨u16, l17, rfl, hs17⟩ := len_cons hs16
  obtain ⟨u17, l18, rfl, hs18⟩ := len_cons hs17
  obtain ⟨u18, l19, rfl, hs19⟩ := len_cons hs18
  obtain ⟨u19, l20, rfl, hs20⟩ := len_cons hs19
  obtain ⟨u20, l21, rfl, hs21⟩ := len_cons hs20
  obtain ⟨u21, l22, rfl, hs22⟩ := len_cons hs21
  obtain ⟨u22, l23, rfl, hs23⟩ := len_cons hs22
  obtain ⟨u23, l24, rfl, hs24⟩ := len_cons hs23
  obtain ⟨u24, l25, rfl, hs25⟩ := len_cons hs24
  obtain ⟨u25, l26, rfl, hs26⟩ := len_cons hs25
  obtain ⟨u26, l27, rfl, hs27⟩ := len_cons hs26
  obtain ⟨u27, l28, rfl, hs28⟩ := len_cons hs27
  obtain ⟨u28, l29, rfl, hs29⟩ := len_cons hs28
  obtain ⟨u29, l30, rfl, hs30⟩ := len_cons hs29
  obtain ⟨u30, l31, rfl, hs31⟩ := len_cons hs30
  obtain ⟨u31, l32, rfl, hs32⟩ := len_cons hs31
  obtain ⟨u32, l33, rfl, hs33⟩ := len_cons hs32
  obtain ⟨u33, l34, rfl, hs34⟩ := len_cons hs33
  obtain ⟨u34, l35, rfl, hs35⟩ := len_cons hs34
  obtain ⟨u35, l36, rfl, hs36⟩ := len_cons hs35
  obtain ⟨u36, l37, rfl, hs37⟩ := len_cons hs36
  obtain ⟨u37, l38, rfl, hs38⟩ := len_cons hs37
  obtain ⟨u38, l39, rfl, hs39⟩ := len_cons hs38
  obtain ⟨u39, l40, rfl, hs40⟩ := len_cons hs39
  obtain ⟨u40, l41, rfl, hs41⟩ := len_cons hs40
  obtain ⟨u41, l42, rfl, hs42⟩ := len_cons hs41
  obtain ⟨u42, l43, rfl, hs43⟩ := len_cons hs42
  obtain ⟨u43, l44, rfl, hs44⟩ := len_cons hs43
  obtain ⟨u44, l45, rfl, hs45⟩ := len_cons hs44
  obtain ⟨u45, l46, rfl, hs46⟩ := len_cons hs45
  obtain ⟨u46, l47, rfl, hs47⟩ := len_cons hs46
  obtain ⟨u47, l48, rfl, hs48⟩ := len_cons hs47
  obtain ⟨u48, l49, rfl, hs49⟩ := len_cons hs48
  obtain ⟨u49, l50, rfl, hs50⟩ := len_cons hs49
  obtain ⟨u50, l51, rfl, hs51⟩ := len_cons hs50
  obtain ⟨u51, l52, rfl, hs52⟩ := len_cons hs51
  obtain ⟨u52, l53, rfl, hs53⟩ := len_cons hs52
  obtain ⟨u53, l54, rfl, hs54⟩ := len_cons hs53
  obtain ⟨u54, l55, rfl, hs55⟩ := len_cons hs54
  obtain ⟨u55, l56, rfl, hs56⟩ := len_cons hs55
  obtain ⟨u56, l57, rfl, hs57⟩ := len_cons hs56
  obtain ⟨u57, l58, rfl, hs58⟩ := len_cons hs57
  obtain ⟨u58, l59, rfl, hs59⟩ := len_cons hs58
  obtain ⟨u59, l60, rfl, hs60⟩ := len_cons hs59
  obtain ⟨u60, l61, rfl, hs61⟩ := len_cons hs60
  obtain ⟨u61, l62, rfl, hs62⟩ := len_cons hs61
  obtain ⟨u62, l63, rfl, hs63⟩ := len_cons hs62
  obtain ⟨u63, l64, rfl, hs64⟩ := len_cons hs63
  obtain ⟨u64, l65, rfl, hs65⟩ := len_cons hs64
  obtain ⟨u65, l66, rfl, hs66⟩ := len_cons hs65
  obtain ⟨u66, l67, rfl, hs67⟩ := len_cons hs66
  obtain ⟨u67, l68, rfl, hs68⟩ := len_cons hs67
  obtain ⟨u68, l69, rfl, hs69⟩ := len_cons hs68
  obtain ⟨u69, l70, rfl, hs70⟩ := len_cons hs69
  obtain ⟨u70, l71, rfl, hs71⟩ := len_cons hs70
  obtain ⟨u71, l72, rfl, hs72⟩ := len_cons hs71
  obtain ⟨u72, l73, rfl, hs73⟩ := len_cons hs72
  obtain ⟨u73, l74, rfl, hs74⟩ := len_cons hs73
  obtain ⟨u74, l75, rfl, hs75⟩ := len_cons hs74
  obtain ⟨u75, l76, rfl, hs76⟩ := len_cons hs75
  obtain ⟨u76, l77, rfl, hs77⟩ := len_cons hs76
  obtain ⟨u77, l78, rfl, hs78⟩ := len_cons hs77
  obtain ⟨u78, l79, rfl, hs79⟩ := len_cons hs78
  obtain ⟨u79, l80, rfl, hs80⟩ := len_cons hs79
  obtain ⟨u80, l81, rfl, hs81⟩ := len_cons hs80
  obtain ⟨u81, l82, rfl, hs82⟩ := len_cons hs81
  obtain ⟨u82, l83, rfl, hs83⟩ := len_cons hs82
  obtain ⟨u83, l84, rfl, hs84⟩ := len_cons hs83
  obtain ⟨u84, l85, rfl, hs85⟩ := len_cons hs84
  obtain ⟨u85, l86, rfl, hs86⟩ := len_cons hs85
  obtain rfl := List.eq_nil_of_length_eq_zero hs86
  simp at h0
  subst h0
  exact ⟨_, _, _, _, _, _, _, _, _, _, _, _, _, _, _, _, _, _, _, _, _, _, _, _, _, _, _, _, _, _, _, _, _, _, _, _, _, _, _, _, _, _, _, _, _, _, _, _, _, _, _, _, _, _, _, _, _, _, _, _, _, _, _, _, _, _, _, _, _, _, _, _, _, _, _, _, _, _, _, _, _, _, _, _, _, rfl⟩
end Go.Proofs.YtplikjbajejciaaDoor.Lex
