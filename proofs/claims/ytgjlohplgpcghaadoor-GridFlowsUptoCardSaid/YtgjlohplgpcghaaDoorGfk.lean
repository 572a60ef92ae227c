/- The walk of the law that no rune is lost when a grid is laid anew. -/
import Derived.Test.YtgjlohplgpcghaaDoorGrn
namespace Go.Proofs.YtgjlohplgpcghaaDoor.Grd
open Go.RowKit Cel Sty

/-- Bools that can be read. -/
def RdB (w : World) (A : Option Addr) (n : Nat) (bl : Nat → Bool) : Prop := ∀ k, k < n → ∃ g o, A = some ⟨g, o, none⟩ ∧ g < w.heap.size ∧ w.cell? ⟨g, o + k, none⟩ = some (.bool (bl k))
def BigG (w0 : World) (g c r k : Nat) (w : World) : Prop := ∃ F past rows, GA w g F c 2000 past rows ∧ rows.length = r ∧ past.length ≤ k ∧ (∀ x ∈ F, w0.heap.size ≤ x) ∧ Below w0.heap.size w0 w
def BigL (w6 : World) (g : Nat) (F : List Nat) (c r : Nat) (past : List Ro) (w : World) : Prop := ∃ rows, GA w g F c 2000 past rows ∧ rows.length = r ∧ Only F w6 w
theorem RunAt.only {w w' : World} {base : Nat} {v : Value} {l : List Int} {F : List Nat} (h : RunAt w base v l) (ho : Only F w w') (hF : ∀ x ∈ F, x < base) : RunAt w' base v l := own_keep h fun g hg => ho.block g (own_ge h g hg).2 fun hx => by
  have h1 := own_ge h g hg
  have h2 := hF g hx
  omega
/-- Behind the Resize. -/
structure MidF (w wx : World) (g cb pb c lim lo : Nat) (v : Value) (L : List Int) (past rows : List Ro) (cr cw s1 s2 s3 x y : Int) : Prop where
  ga : ∃ F, GA wx g F c lim past rows
  run : RunAt wx lo v L
  ce : BL wx cb 35 [.int .i32 cr, .int .i64 cw, .int .i64 s1, .int .i64 s2, .int .i64 s3]
  pt : BL wx pb 44 [.int .i64 x, .int .i64 y]
  fr : Below w.heap.size w wx
theorem MidF.intro {w W V w5 wx : World} {F F5 : List Nat} {g cb pb c lim lo : Nat} {v : Value} {L : List Int} {past rows : List Ro} {cr cw s1 s2 s3 x y : Int} (hfr : Below w.heap.size w W) (hV : Only [] W V) (hF : ∀ z ∈ F, w.heap.size ≤ z ∧ z < lo) (hlo : lo ≤ cb) (hrun : RunAt W lo v L)
    (hce : BL W cb 35 [.int .i32 cr, .int .i64 cw, .int .i64 s1, .int .i64 s2, .int .i64 s3]) (hg : GA w5 g F5 c lim past rows) (h5 : Went F F5 V w5) (hx : Only [pb] w5 wx) (hpb : BL wx pb 44 [.int .i64 x, .int .i64 y]) (hp : W.heap.size ≤ pb) (hp5 : pb ∉ F5) :
    MidF w wx g cb pb c lim lo v L past rows cr cw s1 s2 s3 x y := by
  have hVs := hV.size
  have hcl := hce.lt
  have o5 : Only F W w5 := (hV.mono (G := F) (by simp)).trans h5.only
  have r5 := hrun.only o5 fun z hz => (hF z hz).2
  refine ⟨⟨F5, hg.only hx fun z hz hm => hp5 (by rw [List.mem_singleton] at hm; exact hm ▸ hz)⟩, own_keep r5 fun q hq => hx.block q (own_ge r5 q hq).2 fun hm => ?_, (hce.only o5 fun h => ?_).only hx fun h => ?_, hpb, ?_⟩
  · rw [List.mem_singleton] at hm
    have := (own_ge hrun q hq).2
    omega
  · have := (hF _ h).2
    omega
  · rw [List.mem_singleton] at h
    omega
  · have h1 := hfr.size
    have h2 := hfr.trans (o5.below (by omega) fun x hx => (hF x hx).1)
    exact h2.trans (hx.below h2.size (fun x hx => by rw [List.mem_singleton] at hx; omega))
theorem wrapP_len (rs : List Ro) (k : Nat) (is : Bool) : (wrapP rs k is).length = rs.length := List.length_set
set_option maxRecDepth 100000 in
set_option maxHeartbeats 8000000 in
theorem flows_walk {B : Nat} (cols rows wd ht_ : Int) (hc0 : -9223372036854775808 ≤ cols) (hc1 : cols ≤ 9223372036854775807) (hr0 : -9223372036854775808 ≤ rows) (hr1 : rows ≤ 9223372036854775807)
    (hw0 : -9223372036854775808 ≤ wd) (hw1 : wd ≤ 9223372036854775807) (hh0 : -9223372036854775808 ≤ ht_) (hh1 : ht_ ≤ 9223372036854775807)
    (A : Option Addr) (tn cp : Nat) (txt : Nat → ByteArray) (A3 : Option Addr) (n3 c3 : Nat) (bl : Nat → Bool) (w : World) (ht : Tabs B w) (hB : B ≤ w.heap.size) (hrd : RdT w A tn txt) (hsz : ∀ k, k < tn → (txt k).size ≤ 1048576) (_hn : tn ≤ 9223372036854775807) (hrb : RdB w A3 n3 bl) (_hn3 : n3 ≤ 9223372036854775807) :
    Calls Tryd.prog 4 #[.int .i64 cols, .int .i64 rows, .slice A tn cp, .slice A3 n3 c3, .int .i64 wd, .int .i64 ht_] w fun e w' => e = .returned (.bool true) ∧ Below w.heap.size w w' := by
  have hsh := shown_any w ht hB
  have hfl := fun V (hV : Below w.heap.size w V) => filled_law cols rows 0 hc0 hc1 hr0 hr1 (by decide) (by decide) none 0 0 (fun _ => default) V (ht.below hV hB) (by have := hV.size; omega) (fun k hk => absurd hk (by omega)) (fun k hk => absurd hk (by omega)) (by decide)
  have pc := pickS_le cols 20 (by decide)
  have pr := pickS_le rows 12 (by decide)
  have pz : (pickS 0 40).toNat = 0 := by decide
  rw [pz] at hfl
  obtain ⟨c, hc⟩ : ∃ c, 1 + (pickS cols 20).toNat = c := ⟨_, rfl⟩
  obtain ⟨r, hr⟩ : ∃ r, 1 + (pickS rows 12).toNat = r := ⟨_, rfl⟩
  rw [hc, hr] at hfl
  obtain ⟨a, ha, ha2⟩ := pick_nat wd 29 (by decide)
  obtain ⟨b, hb, hb2⟩ := pick_nat ht_ 15 (by decide)
  simp only [Int.cast_ofNat_Int] at ha hb
  have hpa := pick_any wd 29 hw0 hw1 (by decide) (by decide)
  have hpb := pick_any ht_ 15 hh0 hh1 (by decide) (by decide)
  rw [ha] at hpa
  rw [hb] at hpb
  have hpk : ∀ x m v, (x = wd ∧ m = 29 ∧ v = (a : Int) ∨ x = ht_ ∧ m = 15 ∧ v = (b : Int)) → ∀ V, Calls Tryd.prog 10 #[.int .i64 x, .int .i64 m] V fun e w' => e = .returned (.int .i64 v) ∧ V = w' := by
    rintro x m v (⟨rfl, rfl, rfl⟩ | ⟨rfl, rfl, rfl⟩) V
    · exact hpa V
    · exact hpb V
  have HFL := Lib.hid hfl
  have c20 : c ≤ 20 := by omega
  have r12 : r ≤ 12 := by omega
  have c1 : 1 ≤ c := by omega
  have r1 : 1 ≤ r := by omega
  have hnw : ∀ V, Calls Tryd.prog 23 #[.int .i64 (c : Int), .int .i64 (r : Int), .int .i64 2000] V _ := fun V => new_ga c r 2000 c1 (by omega) r1 (by omega) (by decide) V
  have HNW := Lib.hid hnw
  have HPK := Lib.hid hpk
  have HRD := Lib.hid hrd
  have HSZ := Lib.hid hsz
  have HRB := Lib.hid hrb
  have HT := Lib.hid ht
  clear hc0 hc1 hr0 hr1 hw0 hw1 hh0 hh1 hfl pc pr pz hc hr ha hb ht hrd hsz hpa hpb hpk hnw hrb
  go_enter Tryd.func4, Tryd.ntmps4
  go_wp2_with fail
  refine hsh.mono ?_
  rintro _ w1 ⟨rfl, hb1⟩
  have hs1 := hb1.size
  clear hsh
  go_wp2_with fail
  refine (HFL.out _ hb1).mono ?_
  rintro _ w2 ⟨g0, rfl, F0, past0, rws0, hG2, hrl, _, _, hb2⟩
  have hb2' : Below w.heap.size w w2 := hb1.trans (hb2.mono hs1)
  have hs2 := hb2'.size
  have hrw := rows_ga hG2
  rw [hrl] at hrw
  have hco := cols_ga hG2
  clear hG2 hb2 hb1 hs1 HFL hrl
  go_wp2_with fail
  refine hco.mono ?_
  rintro _ w3 ⟨rfl, rfl⟩
  go_wp2_with fail
  refine hrw.mono ?_
  rintro _ w3 ⟨rfl, rfl⟩
  clear hco hrw
  go_wp2_with fail
  refine (HNW.out _).mono ?_
  rintro _ w3 ⟨g, F, rfl, hG3, hF3, hb3⟩
  have HBG : Hid (BigG w g c r 0 w3) := ⟨F, [], _, hG3, List.length_replicate, Nat.le_refl _, fun x hx => Nat.le_trans hs2 (hF3 x hx), hb2'.trans (hb3.mono hs2)⟩
  clear hG3 hF3 hb3 hb2' hs2 HNW
  go_wp2_with fail
  go_loopw [19] (fun i wr => ∃ k : Nat, k ≤ tn ∧ k ≤ 20 ∧ i = .int .i64 (k : Int) ∧ Hid (BigG w g c r k wr)) (fun i _ => tn - (intOf i).toNat)
  case atStart => exact ⟨0, Nat.zero_le _, Nat.zero_le _, rfl, HBG⟩
  case round =>
    obtain ⟨k, hk, hk20, rfl, hF⟩ := hrel
    have i0 : (0 : Int) ≤ (k : Int) := Int.natCast_nonneg _
    by_cases hgo : k < tn ∧ k < 20
    · obtain ⟨hlt, hlt2⟩ := hgo
      have i1 : (k : Int) < (tn : Int) := by omega
      have i2 : (k : Int) < 20 := by omega
      obtain ⟨tb, tof, rfl, htb, htx⟩ := HRD.out k hlt
      have hts := HSZ.out k hlt
      obtain ⟨F, past, rws, hGA, hrl, hpk, hnew, hbw⟩ := hF.out
      have hbs := hbw.size
      have e1 : ((r - 1 : Nat) : Int) = (r : Int) - 1 := by omega
      have hup := fun W (hW : Below wr.heap.size wr W) => keep_ga (hGA.below hW) (r - 1) 1 (by omega) 1 (by decide) (by omega) (-1) (-1) 0 right_plain
      rw [e1] at hup
      have HUP := Lib.hid hup
      have HGA := Lib.hid hGA
      have HNW := Lib.hid hnew
      have HTX := Lib.hid htx
      have hu0 := fun q => upP_len (rs := rws) (top := 0) (len := r - 1 + 1) (q := 1) (b := q) (by omega) (by omega)
      rw [hrl] at hu0
      have HU0 := Lib.hid hu0
      have hpl5 : ((past ++ rws.take 1).drop (past.length + 1 - 2000)).length ≤ k + 1 := by
        rw [List.length_drop, List.length_append, List.length_take]; omega
      have HPL5 := Lib.hid hpl5
      clear hup e1 hGA hnew htx hu0 hF hlt hlt2 hrl hpk hpl5
      go_wp2_with (first
        | (go_at_call 24; refine (refPlain_any _).mono ?_; rintro _ w4 ⟨rfl, hb4⟩)
        | (go_at_call 15; refine (HUP.out _ hb4).mono ?_; rintro _ w5 ⟨rfl, F5, hG5, hW5⟩; have h45 := hb4.size; have hb5 : Below w.heap.size w w5 := (hbw.trans (hb4.mono hbs)).trans (hW5.only.below (by omega) HNW.out); have hc5 : w5.cell? ⟨tb, tof + k, none⟩ = some (.string (txt k)) := (hb5.cell (p := ⟨tb, tof + k, none⟩) htb).trans HTX.out; obtain ⟨rs, rc, w6, hcv, hb6, hz6, hrsl, hrc, hrb⟩ := runes_conv (txt k) w5 (by omega); have HG5 := Lib.hid hG5; have HW5 := Lib.hid hW5; have HRC := Lib.hid hrc; have HRB2 := Lib.hid hrb; clear hG5 hW5 hrc hrb))
      have HTA := Lib.hid (HT.out.below hb5 hB)
      have hB5 : B ≤ w5.heap.size := by have := hb5.size; omega
      have hb6s := hb6.size
      have HLAY : Hid (BigL w6 g F5 c r ((past ++ rws.take 1).drop (past.length + 1 - 2000)) w6) := ⟨_, HG5.out.below hb6, HU0.out _, Only.refl _ _⟩
      have HNEW5 : Hid (∀ x ∈ F5, w.heap.size ≤ x ∧ x < w5.heap.size) := fun x hx => by
        refine ⟨?_, HG5.out.lt x hx⟩
        rcases HW5.out.foot x hx with y | y
        · exact HNW.out x y
        · omega
      have HT6 := Lib.hid (HTA.out.below hb6 hB5)
      have HB6 := Lib.hid (hb5.trans (hb6.mono (by have := hb5.size; omega)))
      generalize (past ++ rws.take 1).drop (past.length + 1 - 2000) = past5 at *
      clear HUP HU0 HNW HTX HGA hts hb4 hbw hb5 hcv hc5 HTA HG5 HW5
      have hlb : w5.heap.size < w6.heap.size := hz6
      go_loopw [20, 22] (fun x i wz => ∃ (m q : Nat), m ≤ rs.length ∧ m ≤ 60 ∧ q ≤ 2 * m ∧ x = .int .i64 (q : Int) ∧ i = .int .i64 (m : Int) ∧ Hid (BigL w6 g F5 c r past5 wz)) (fun _ i _ => rs.length - (intOf i).toNat)
      case atStart => exact ⟨0, 0, Nat.zero_le _, Nat.zero_le _, Nat.zero_le _, rfl, rfl, HLAY⟩
      case round =>
        obtain ⟨m, q, hm, hm60, hq, rfl, rfl, hL⟩ := hrel
        have m0 : (0 : Int) ≤ (m : Int) := Int.natCast_nonneg _
        have q0 : (0 : Int) ≤ (q : Int) := Int.natCast_nonneg _
        by_cases hmt : m < rs.length ∧ m < 60
        · obtain ⟨hmt, hmt2⟩ := hmt
          have m1 : (m : Int) < (rs.length : Int) := by omega
          have m2 : (m : Int) < 60 := by omega
          obtain ⟨rows6, hG6, hl6, ho6⟩ := hL.out
          obtain ⟨rv, hrv⟩ : ∃ z, rs[m] = z := ⟨_, rfl⟩
          have hcw : wr.cell? ⟨w5.heap.size, m, none⟩ = some (.int .i32 rv) := by
            rw [← hrv, ← HRC.out m hmt]
            exact World.cell?_of_block (ho6.block w5.heap.size hlb (fun hx => by have := (HNEW5.out _ hx).2; omega))
          have hrb := HRB2.out rv (hrv ▸ List.getElem_mem hmt)
          have ho6s := ho6.size
          have HTR := Lib.hid (HT6.out.only ho6 (by omega) (fun x hx => Nat.le_trans hB (HNEW5.out x hx).1))
          have HG6 := Lib.hid hG6
          have HO6 := Lib.hid ho6
          have hput := fun (wd : Int) (V : World) (hV : Below wr.heap.size wr V) => put_ga (HG6.out.below hV) (HTR.out.below hV (by omega)) (by have := hV.size; omega) (q : Int) ((r : Int) - 1) rv wd (-1) (-1) 0 (by omega) (by omega) (by omega) (by omega)
          have HPUT := Lib.hid hput
          have HEND : Hid (∀ (wd : Int) (V W' : World), Below wr.heap.size wr V → GA W' g F5 c 2000 past5 (putP c rows6 (q : Int) ((r : Int) - 1) (rv, wd, -1, -1, 0)) → Only F5 V W' → BigL w6 g F5 c r past5 W') := fun wd V W' h1 h2 h3 =>
            ⟨_, h2, by rw [putP_len]; exact hl6, (HO6.out.trans (Only.of_below h1)).trans h3⟩
          obtain ⟨hrb1, hrb2⟩ := hrb
          clear hput hrv hG6 ho6 hl6 hL
          by_cases hw1 : 12352 < rv
          · by_cases hw2 : rv < 40960
            · go_wp2_with (first
                | (go_at_call 25; refine (letter_any _ _ _).mono ?_; rintro _ w7 ⟨rfl, hb7⟩)
                | (go_at_call 11; refine (HPUT.out 2 _ hb7).mono ?_; rintro _ w8 ⟨rfl, hG8, ho8⟩; have HL8 := Lib.hid (HEND.out 2 _ _ hb7 hG8 ho8); clear hG8 ho8))
              go_roundw
              case rel => exact ⟨m + 1, q + 2, by omega, by omega, by omega, by go_num, by go_num, HL8⟩
              case measure => simp [intOf]; omega
            · have hw3 : 40960 ≤ rv := by omega
              clear hw2
              go_wp2_with (first
                | (go_at_call 25; refine (letter_any _ _ _).mono ?_; rintro _ w7 ⟨rfl, hb7⟩)
                | (go_at_call 11; refine (HPUT.out 1 _ hb7).mono ?_; rintro _ w8 ⟨rfl, hG8, ho8⟩; have HL8 := Lib.hid (HEND.out 1 _ _ hb7 hG8 ho8); clear hG8 ho8))
              go_roundw
              case rel => exact ⟨m + 1, q + 1, by omega, by omega, by omega, by go_num, by go_num, HL8⟩
              case measure => simp [intOf]; omega
          · have hw3 : rv ≤ 12352 := by omega
            clear hw1
            go_wp2_with (first
              | (go_at_call 25; refine (letter_any _ _ _).mono ?_; rintro _ w7 ⟨rfl, hb7⟩)
              | (go_at_call 11; refine (HPUT.out 1 _ hb7).mono ?_; rintro _ w8 ⟨rfl, hG8, ho8⟩; have HL8 := Lib.hid (HEND.out 1 _ _ hb7 hG8 ho8); clear hG8 ho8))
            go_roundw
            case rel => exact ⟨m + 1, q + 1, by omega, by omega, by omega, by go_num, by go_num, HL8⟩
            case measure => simp [intOf]; omega
        · obtain ⟨rows7, hG7, hl7, ho7⟩ := hL.out
          have hb7 : Below w.heap.size w wr := HB6.out.trans (ho7.below HB6.out.size fun x hx => (HNEW5.out x hx).1)
          have HEND : Hid (BigG w g c r (k + 1) wr) := ⟨F5, past5, rows7, hG7, hl7, HPL5.out, fun x hx => (HNEW5.out x hx).1, hb7⟩
          have HWR : Hid (∀ is : Bool, Calls Tryd.prog 17 #[.pointer (some ⟨g, 0, none⟩), .int .i64 ((r : Int) - 1), .bool is] wr fun e w' => e = .returned (.tuple #[]) ∧ BigG w g c r (k + 1) w') := fun is => by
            have h9 := wrap_ga hG7 (r - 1) (by omega) is
            rw [show ((r - 1 : Nat) : Int) = (r : Int) - 1 by omega] at h9
            refine h9.mono ?_
            rintro e w' ⟨he, hG9, ho9⟩
            exact ⟨he, F5, past5, _, hG9, by rw [wrapP_len]; exact hl7, HPL5.out, fun x hx => (HNEW5.out x hx).1, hb7.trans (ho9.below hb7.size fun x hx => (HNEW5.out x hx).1)⟩
          have hmx : (rs.length : Int) ≤ (m : Int) ∨ ((m : Int) < (rs.length : Int) ∧ (60 : Int) ≤ (m : Int)) := by omega
          have HB7 := Lib.hid hb7
          clear hL hG7 ho7 hl7 hb7 hmt
          by_cases hw3 : k < n3
          · obtain ⟨b3, o3, rfl, hb3l, hb3c⟩ := HRB.out k hw3
            have b3c : wr.cell? ⟨b3, o3 + k, none⟩ = some (.bool (bl k)) := (HB7.out.cell (p := ⟨b3, o3 + k, none⟩) hb3l).trans hb3c
            have i3 : (k : Int) < (n3 : Int) := by omega
            clear hb3c
            rcases hmx with m1 | ⟨m1, m3⟩
            all_goals
              go_wp2_with (first
                | (go_at_call 17; refine (HWR.out _).mono ?_; rintro _ w8 ⟨rfl, hE8⟩; have HE8 := Lib.hid hE8; clear hE8))
              go_roundw
              case rel => exact ⟨k + 1, by omega, by omega, by go_num, HE8⟩
              case measure => simp [intOf]; omega
          · have i3 : (n3 : Int) ≤ (k : Int) := by omega
            clear HWR
            rcases hmx with m1 | ⟨m1, m3⟩
            all_goals
              go_wp2_with fail
              go_roundw
              case rel => exact ⟨k + 1, by omega, by omega, by go_num, HEND⟩
              case measure => simp [intOf]; omega
    · obtain ⟨F, past, rws, hGA, hrl, hpl, hnew, hbw⟩ := hF.out
      have hbd := hGA.bd
      have hlast : rws[rws.length - 1]? = some (rws[rws.length - 1]'(by omega)) := List.getElem?_eq_getElem _
      obtain ⟨last, hlast'⟩ : ∃ q, rws[rws.length - 1]'(by omega) = q := ⟨_, rfl⟩
      rw [hlast'] at hlast
      have hll : last.1.length = c := hbd.cells _ (List.mem_append_right _ (List.mem_of_getElem? hlast))
      obtain ⟨l', ⟨cr, cw, cs1, cs2, cs3⟩, hcl⟩ : ∃ l' cl, last.1 = l' ++ [cl] := ⟨_, _, (List.dropLast_concat_getLast (by intro e; rw [e] at hll; simp at hll; omega)).symm⟩
      have hl'c : l'.length = c - 1 := by rw [hcl] at hll; simp at hll; omega
      have hsum : past.length + rws.length ≤ 32 := by omega
      obtain ⟨px, py, past1, rows1, rr, hft, hvis, hpx, hpy, hrr, hcl1⟩ := flow_keeps hbd (cols := 2 + a) (n := 1 + b) (by omega) (by omega) (Nat.le_trans (Nat.mul_le_mul hsum (show 1 + 2 * c ≤ 41 by omega)) (by decide)) hlast hcl
      rw [hrl] at hft
      have hszl : (past ++ rws).length * c ≤ 400000 := by
        rw [List.length_append]
        have : (past.length + rws.length) * c ≤ 32 * 20 := Nat.mul_le_mul hsum c20
        omega
      have hru := runes_law hGA hszl
      have hce : ∀ V, Below wr.heap.size wr V → Calls Tryd.prog 27 #[.pointer (some ⟨g, 0, none⟩), .int .i64 ((c : Int) - 1), .int .i64 ((r : Int) - 1)] V fun e w' => e = .returned (.agg #[.int .i32 cr, .int .i64 cw, .int .i64 cs1, .int .i64 cs2, .int .i64 cs3]) ∧ Below V.heap.size V w' := fun V hV => by
        have h1 := cell_lit ((hGA.below hV).scr_at _ _ hlast) (c - 1) cr cw cs1 cs2 cs3 (by rw [hcl, List.getElem?_append_right (by omega), hl'c, Nat.sub_self]; rfl)
        rw [hrl, show ((c - 1 : Nat) : Int) = (c : Int) - 1 by omega, show ((r - 1 : Nat) : Int) = (r : Int) - 1 by omega] at h1
        exact h1
      have hszm : (past.length + rws.length) * c ≤ 400000 := by rw [← List.length_append]; exact hszl
      have hrz : ∀ V F, GA V g F c 2000 past rws → Calls Tryd.prog 18 #[.pointer (some ⟨g, 0, none⟩), .int .i64 (2 + (a : Int)), .int .i64 (1 + (b : Int)), .agg #[.int .i64 ((c : Int) - 1), .int .i64 ((r : Int) - 1)], .bool true] V fun e w' =>
          e = .returned (.tuple #[.agg #[.int .i64 (px : Int), .int .i64 (py : Int)], .int .i64 0]) ∧ ∃ F', GA w' g F' (2 + a) 2000 past1 rows1 ∧ Went F F' V w' := fun V F hV => by
        have h1 := resize_to hV (2 + a) (1 + b) ((c : Int) - 1) ((r : Int) - 1) (by omega) (by omega) (by omega) (by omega) hszm (px : Int) (py : Int) past1 rows1 hft
        rw [show ((2 + a : Nat) : Int) = 2 + (a : Int) by omega, show ((1 + b : Nat) : Int) = 1 + (b : Int) by omega] at h1
        exact h1
      have hvl := visR_len c (past ++ rws) (fun r hr => hbd.cells r hr)
      have hvl' : (visR (past ++ rws)).length ≤ 400000 := Nat.le_trans hvl hszl
      obtain ⟨L, hL⟩ : ∃ L, visR (past ++ rws) = L := ⟨_, rfl⟩
      rw [hL] at hvl' hvis hru
      have HGA := Lib.hid hGA
      have HCE := Lib.hid hce
      have HRZ0 := Lib.hid hrz
      have HVIS := Lib.hid hvis
      have HRR := Lib.hid hrr
      have HCL := Lib.hid hcl1
      have HNEW := Lib.hid hnew
      have HBW := Lib.hid hbw
      have hws := hbw.size
      have hend : (tn : Int) ≤ (k : Int) ∨ ((k : Int) < (tn : Int) ∧ (20 : Int) ≤ (k : Int)) := by omega
      clear hF hGA hce hrz hvis hrr hcl1 hnew hbw hL hvl hszl hszm hft hcl hll hlast hlast' hbd hl'c hgo HRD HSZ HRB HT hpl hsum
      rcases hend with i1 | ⟨i1, i2⟩
      all_goals
        go_wp2_with fail
        refine hru.mono ?_
        rintro _ w1 ⟨v24, rfl, hrun, hb1⟩
        have hs1 := hb1.size
        have hal : Below wr.heap.size wr (w1.alloc (.cells #[.int .i64 ((c : Int) - 1), .int .i64 ((r : Int) - 1)] 44)) := hb1.alloc hs1 _
        go_wp2_with fail
        refine (HCE.out _ hal).mono ?_
        rintro _ w2 ⟨rfl, hb2⟩
        go_wp2_with fail
        have hc2 := BL.new w2 35 [.int .i32 cr, .int .i64 cw, .int .i64 cs1, .int .i64 cs2, .int .i64 cs3]
        have hal2 : Below w2.heap.size w2 (w2.alloc (.cells #[.int .i32 cr, .int .i64 cw, .int .i64 cs1, .int .i64 cs2, .int .i64 cs3] 35)) := (Below.refl _ _).alloc (Nat.le_refl _) _
        have hzW : (w2.alloc (.cells #[.int .i32 cr, .int .i64 cw, .int .i64 cs1, .int .i64 cs2, .int .i64 cs3] 35)).heap.size = w2.heap.size + 1 := size_alloc _ _
        have hat := BL.new w1 44 [.int .i64 ((c : Int) - 1), .int .i64 ((r : Int) - 1)]
        have hzA : (w1.alloc (.cells #[.int .i64 ((c : Int) - 1), .int .i64 ((r : Int) - 1)] 44)).heap.size = w1.heap.size + 1 := size_alloc _ _
        have hs2 := hb2.size
        have hbA : Below w1.heap.size w1 (w2.alloc (.cells #[.int .i32 cr, .int .i64 cw, .int .i64 cs1, .int .i64 cs2, .int .i64 cs3] 35)) := ((Below.refl w1.heap.size w1).alloc (Nat.le_refl _) _).trans ((hb2.mono (by omega)).trans (hal2.mono (by omega)))
        have HAT := Lib.hid ((hat.only (F := []) (Only.of_below hb2) (by simp)).only (F := []) (Only.of_below hal2) (by simp))
        have HCB := Lib.hid hc2
        have HGW := Lib.hid ((HGA.out.below hb1).below hbA)
        have HRW := Lib.hid (hrun.keep hbA)
        have HBW2 := Lib.hid (HBW.out.trans ((hb1.trans (hbA.mono hs1)).mono hws))
        have HGL : Hid (∀ x ∈ F, x < wr.heap.size) := HGA.out.lt
        have hata : w1.heap.size < w2.heap.size := by omega
        clear hc2 hal2 hat hs2 hbA hb2 hzA hal hrun hb1 HCE HBW HGA
        generalize w2.alloc (.cells #[.int .i32 cr, .int .i64 cw, .int .i64 cs1, .int .i64 cs2, .int .i64 cs3] 35) = W at *
        generalize hcbd : w2.heap.size = cb at *
        generalize hatd : w1.heap.size = at_ at *
        have SS : ∀ V, Only F W V → (V.cell? ⟨at_, 0, none⟩ = some (.int .i64 ((c : Int) - 1)) ∧ V.cell? ⟨at_, 1, none⟩ = some (.int .i64 ((r : Int) - 1)) ∧ Only F W V) := fun V hV => by
          have h1 := HAT.out.only hV (fun hx => by have := HGL.out _ hx; omega)
          exact ⟨h1.cell 0, h1.cell 1, hV⟩
        have HZW := Lib.hid hzW
        have HNB := fun (t : TypeId) => BL.new W t [.int .i64 0, .int .i64 0]
        have HNF : Hid (W.heap.size ∉ F) := fun hx => by have := HGL.out _ hx; omega
        clear hzW
        have o1 : Only F W W.drew := (Only.refl _ _).drew
        have d1 : Below (cb + 1) W W.drew := (Below.refl _ _).drew
        have j1 : IntKind.i64.wrap (2 + (a : Int)) = 2 + (a : Int) := IntWalk.i64_in _ ⟨by omega, by omega⟩
        have j2 : IntKind.i64.wrap (1 + (b : Int)) = 1 + (b : Int) := IntWalk.i64_in _ ⟨by omega, by omega⟩
        have DA : ∀ V o, Below (cb + 1) W V → Below (cb + 1) W (V.alloc o) := fun V o h => h.alloc (by have := h.size; have := HZW.out; omega) o
        have HRZ : Hid (∀ V, Below (cb + 1) W V → Calls Tryd.prog 18 #[.pointer (some ⟨g, 0, none⟩), .int .i64 (2 + (a : Int)), .int .i64 (1 + (b : Int)), .agg #[.int .i64 ((c : Int) - 1), .int .i64 ((r : Int) - 1)], .bool true] V fun e w' =>
          e = .returned (.tuple #[.agg #[.int .i64 (px : Int), .int .i64 (py : Int)], .int .i64 0]) ∧ ∃ F', GA w' g F' (2 + a) 2000 past1 rows1 ∧ Went F F' V w') := fun V hV => HRZ0.out V F (HGW.out.below (HZW.out ▸ hV))
        have o0 : Only F W W := Only.refl _ _
        have OD : ∀ o, Only F W (W.alloc o).drew := fun o => (o0.alloc o).drew
        have d2 : ∀ o, Below (cb + 1) W (W.alloc o).drew := fun o => (DA _ o (Below.refl _ _)).drew
        have OA : ∀ V o, Only F W V → Only F W (V.alloc o) := fun V o h => h.alloc o
        have OS : ∀ V q x y, W.heap.size ≤ q → Only F W V → Only F W ((V.setCell ⟨q, 0, none⟩ x).setCell ⟨q, 1, none⟩ y) := fun V q x y hq h => (h.setCell (p := ⟨q, 0, none⟩) (.inr hq) x).setCell (p := ⟨q, 1, none⟩) (.inr hq) y
        have hFF : Hid (∀ x ∈ F, w.heap.size ≤ x ∧ x < wr.heap.size) := fun x hx => ⟨HNEW.out x hx, HGL.out x hx⟩
        have MA : Hid (∀ (w5 : World) (F5 : List Nat), GA w5 g F5 (2 + a) 2000 past1 rows1 → Went F F5 (W.alloc (.cells #[.int .i64 0, .int .i64 0] 44)).drew w5 →
            MidF w ((w5.setCell ⟨W.heap.size, 0, none⟩ (.int .i64 (px : Int))).setCell ⟨W.heap.size, 1, none⟩ (.int .i64 (py : Int))) g cb W.heap.size (2 + a) 2000 wr.heap.size v24 L past1 rows1 cr cw cs1 cs2 cs3 (px : Int) (py : Int)) := fun w5 F5 h1 h2 => by
          have hv : Only [] W (W.alloc (.cells #[.int .i64 0, .int .i64 0] 44)).drew := ((Only.refl _ _).alloc _).drew
          have hzv : (W.alloc (.cells #[.int .i64 0, .int .i64 0] 44)).drew.heap.size = W.heap.size + 1 := size_alloc _ _
          have hN5 := ((HNB 44).drew).only h2.only HNF.out
          refine MidF.intro HBW2.out hv hFF.out (by omega) HRW.out HCB.out h1 h2 (((Only.refl _ _).setCell (p := ⟨W.heap.size, 0, none⟩) (.inl (by simp)) _).setCell (p := ⟨W.heap.size, 1, none⟩) (.inl (by simp)) _) ((hN5.set_ 0 (.int .i64 (px : Int))).set_ 1 (.int .i64 (py : Int))) (Nat.le_refl _) (fun hx => ?_)
          rcases h2.foot _ hx with y | y
          · exact HNF.out y
          · omega
        have MB : Hid (∀ (w5 : World) (F5 : List Nat), GA w5 g F5 (2 + a) 2000 past1 rows1 → Went F F5 W.drew w5 →
            MidF w (w5.alloc (.cells #[.int .i64 (px : Int), .int .i64 (py : Int)] 44)) g cb w5.heap.size (2 + a) 2000 wr.heap.size v24 L past1 rows1 cr cw cs1 cs2 cs3 (px : Int) (py : Int)) := fun w5 F5 h1 h2 => by
          have h5s : W.heap.size ≤ w5.heap.size := h2.only.size
          exact MidF.intro HBW2.out (Only.refl _ _).drew hFF.out (by omega) HRW.out HCB.out h1 h2 ((Only.refl _ _).alloc _) (BL.new w5 44 _) h5s (fun hx => by have := h1.lt _ hx; omega)
        go_cut [27, 18] (fun s27 s18 wx => ∃ pb, s27 = .pointer (some ⟨pb, 0, none⟩) ∧ s18 = .int .i64 0 ∧ MidF w wx g cb pb (2 + a) 2000 wr.heap.size v24 L past1 rows1 cr cw cs1 cs2 cs3 (px : Int) (py : Int))
        case first =>
          go_region_held3 (fun V => V.cell? ⟨at_, 0, none⟩ = some (.int .i64 ((c : Int) - 1)) ∧ V.cell? ⟨at_, 1, none⟩ = some (.int .i64 ((r : Int) - 1)) ∧ Only F W V)
            (first
              | (refine SS _ ?_; assumption)
              | (refine SS _ (OA _ _ ?_); assumption)
              | (refine SS _ (OS _ _ _ _ (by first | omega | (have := (by assumption : Only F W _).size; omega)) ?_); assumption)
              | (exact SS _ (OD _))
              | fail)
            (first
              | (go_at_call 10; refine (HPK.out _ _ _ (by first | exact .inl ⟨rfl, rfl, rfl⟩ | exact .inr ⟨rfl, rfl, rfl⟩) _).mono ?_; rintro _ w4 ⟨rfl, rfl⟩)
              | (go_at_call 18; obtain ⟨_, _, k3⟩ := (by assumption : _ ∧ _ ∧ Only F W _); refine (HRZ.out _ d1).mono ?_; rintro _ w5 ⟨rfl, F5, hG5, hW5⟩; have k5 := k3.trans hW5.only)
              | (go_at_call 18; obtain ⟨_, _, k3⟩ := (by assumption : _ ∧ _ ∧ Only F W _); refine (HRZ.out _ (d2 _)).mono ?_; rintro _ w5 ⟨rfl, F5, hG5, hW5⟩; have k5 := k3.trans hW5.only; have hN5 := ((HNB 44).drew).only hW5.only HNF.out; have z0 := hN5.cell 0; have z1 := hN5.cell 1; have y0 := hN5.frozen 0; have y1 := hN5.frozen 1))
          all_goals go_wp2_with fail
          all_goals go_meet
          all_goals first
            | exact ⟨_, rfl, rfl, MB.out _ _ hG5 hW5⟩
            | exact ⟨_, rfl, rfl, MA.out _ _ hG5 hW5⟩
        case rest =>
          obtain ⟨pb, rfl, rfl, hM⟩ := hcut
          clear MA MB HRZ HRZ0 HBW2 HAT HCB HGW HRW HNB HNF HGL hFF SS OS OA OD DA o0 o1 d1 d2 HPK HZW j1 j2
          obtain ⟨F6, hG6⟩ := hM.ga
          obtain ⟨W9, rfl⟩ : ∃ W9, W9 = wc := ⟨_, rfl⟩
          have hbd6 := hG6.bd
          have hsz6 : (past1 ++ rows1).length * (2 + a) ≤ 400000 := by
            have z1 := hbd6.p2
            have z2 := hbd6.r2
            have z3 : past1.length + rows1.length ≤ 2120 := by omega
            have z4 : (past1.length + rows1.length) * (2 + a) ≤ 2120 * 30 := Nat.mul_le_mul z3 (by omega)
            rw [List.length_append]
            omega
          have hru6 := runes_law hG6 hsz6
          rw [HVIS.out] at hru6
          have hpy1 : py < rows1.length := (List.getElem?_eq_some_iff.1 HRR.out).1
          have hco : ∀ V, Below W9.heap.size W9 V → Calls Tryd.prog 21 #[.pointer (some ⟨g, 0, none⟩)] V _ := fun V hV => cols_ga (hG6.below hV)
          have hrw : ∀ V, Below W9.heap.size W9 V → Calls Tryd.prog 22 #[.pointer (some ⟨g, 0, none⟩)] V _ := fun V hV => rows_ga (hG6.below hV)
          have hce : ∀ V, Below W9.heap.size W9 V → Calls Tryd.prog 27 #[.pointer (some ⟨g, 0, none⟩), .int .i64 (px : Int), .int .i64 (py : Int)] V _ := fun V hV => cell_lit ((hG6.below hV).scr_at py rr HRR.out) px cr cw cs1 cs2 cs3 HCL.out
          have HCO := Lib.hid hco
          have HRW := Lib.hid hrw
          have HCE := Lib.hid hce
          have HM := Lib.hid hM
          have hbs := hM.fr.size
          generalize rows1.length = rl at *
          obtain ⟨C, hC⟩ : ∃ C, 2 + a = C := ⟨_, rfl⟩
          rw [hC] at hpx
          have HC := Lib.hid hC
          clear hbd6 hsz6 hG6 hM hco hrw hce hC HVIS HRR HCL
          go_wp2_with fail
          refine hru6.mono ?_
          rintro _ w6 ⟨v28, rfl, hrun6, hb6⟩
          have hsr := sameRunes_any (HM.out.run.keep hb6) hrun6 hvl'
          clear hru6 hrun6
          go_wp2_with fail
          refine hsr.mono ?_
          rintro _ w7 ⟨rfl, hb7⟩
          have hb67 : Below W9.heap.size W9 w7 := hb6.trans (hb7.mono hb6.size)
          have SS : ∀ V, Below W9.heap.size W9 V → (V.cell? ⟨pb, 0, none⟩ = some (.int .i64 (px : Int)) ∧ V.cell? ⟨pb, 1, none⟩ = some (.int .i64 (py : Int)) ∧ V.cell? ⟨cb, 0, none⟩ = some (.int .i32 cr) ∧ V.cell? ⟨cb, 1, none⟩ = some (.int .i64 cw) ∧ V.cell? ⟨cb, 2, none⟩ = some (.int .i64 cs1) ∧ V.cell? ⟨cb, 3, none⟩ = some (.int .i64 cs2) ∧ V.cell? ⟨cb, 4, none⟩ = some (.int .i64 cs3) ∧ Below W9.heap.size W9 V) := fun V hV => by
            have h1 := HM.out.pt.only (F := []) (Only.of_below hV) (by simp)
            have h2 := HM.out.ce.only (F := []) (Only.of_below hV) (by simp)
            exact ⟨h1.cell 0, h1.cell 1, h2.cell 0, h2.cell 1, h2.cell 2, h2.cell 3, h2.cell 4, hV⟩
          clear hsr hb6 hb7
          have hbd7 : Below W9.heap.size W9 w7.drew := hb67.drew
          have d1 : decide ((px : Int) < 0) = false := by simp
          have d2 : decide ((C : Int) ≤ (px : Int)) = false := by simp; omega
          have d3 : decide ((py : Int) < 0) = false := by simp
          have d4 : decide ((rl : Int) ≤ (py : Int)) = false := by simp; omega
          have d5 : decide (C ≤ px) = false := by simp; omega
          have d6 : decide (rl ≤ py) = false := by simp; omega
          rw [HC.out] at HCO
          go_wp2_with fail
          go_cut [183] (fun s183 wx => s183 = .bool false ∧ Below W9.heap.size W9 wx)
          case first =>
            go_region_held3 (fun V => V.cell? ⟨pb, 0, none⟩ = some (.int .i64 (px : Int)) ∧ V.cell? ⟨pb, 1, none⟩ = some (.int .i64 (py : Int)) ∧ V.cell? ⟨cb, 0, none⟩ = some (.int .i32 cr) ∧ V.cell? ⟨cb, 1, none⟩ = some (.int .i64 cw) ∧ V.cell? ⟨cb, 2, none⟩ = some (.int .i64 cs1) ∧ V.cell? ⟨cb, 3, none⟩ = some (.int .i64 cs2) ∧ V.cell? ⟨cb, 4, none⟩ = some (.int .i64 cs3) ∧ Below W9.heap.size W9 V)
              (first
                | (refine SS _ ?_; assumption)
                | fail)
              (first
                | (go_at_call 21; refine (HCO.out _ (by assumption)).mono ?_; rintro _ w8 ⟨rfl, rfl⟩)
                | (go_at_call 22; refine (HRW.out _ (by assumption)).mono ?_; rintro _ w8 ⟨rfl, rfl⟩))
            all_goals go_wp2_with fail
            all_goals go_meet
            all_goals exact ⟨rfl, by assumption⟩
          case rest =>
            obtain ⟨rfl, hb8⟩ := hcut
            have hb8d := hb8.drew
            clear d1 d2 d3 d4 d5 d6 hbd7 hb67 HCO HRW
            go_wp2_with fail
            go_region_held3 (fun V => V.cell? ⟨pb, 0, none⟩ = some (.int .i64 (px : Int)) ∧ V.cell? ⟨pb, 1, none⟩ = some (.int .i64 (py : Int)) ∧ V.cell? ⟨cb, 0, none⟩ = some (.int .i32 cr) ∧ V.cell? ⟨cb, 1, none⟩ = some (.int .i64 cw) ∧ V.cell? ⟨cb, 2, none⟩ = some (.int .i64 cs1) ∧ V.cell? ⟨cb, 3, none⟩ = some (.int .i64 cs2) ∧ V.cell? ⟨cb, 4, none⟩ = some (.int .i64 cs3) ∧ Below W9.heap.size W9 V)
              (first
                | (refine SS _ ?_; assumption)
                | fail)
              (first
                | (go_at_call 27; have k3 := (by assumption : _ ∧ _ ∧ _ ∧ _ ∧ _ ∧ _ ∧ _ ∧ Below _ _ _).2.2.2.2.2.2.2; refine (HCE.out _ k3).mono ?_; rintro _ w9 ⟨rfl, hb9⟩; have hb9' := k3.trans (hb9.mono k3.size)))
            all_goals go_wp2_with fail
            all_goals
              have hbe := HM.out.fr.trans (hb9'.mono hbs)
              go_ret
              exact ⟨rfl, hbe⟩
end Go.Proofs.YtgjlohplgpcghaaDoor.Grd
