/- The law's filled: a grid with texts in it. -/
import Derived.Test.YtgjlohplgpcghaaDoorGpn
namespace Go.Proofs.YtgjlohplgpcghaaDoor.Grd
open Go.RowKit Cel Sty

/-- Texts that can be read. -/
def RdT (w : World) (A : Option Addr) (n : Nat) (txt : Nat → ByteArray) : Prop := ∀ k, k < n → ∃ g o, A = some ⟨g, o, none⟩ ∧ g < w.heap.size ∧ w.cell? ⟨g, o + k, none⟩ = some (.string (txt k))
theorem RdT.below {w w' : World} {A : Option Addr} {n : Nat} {txt : Nat → ByteArray} (h : RdT w A n txt) (hb : Below w.heap.size w w') : RdT w' A n txt := fun k hk => by
  obtain ⟨g, o, h1, h2, h3⟩ := h k hk
  exact ⟨g, o, h1, Nat.lt_of_lt_of_le h2 hb.size, (hb.cell (p := ⟨g, o + k, none⟩) h2).trans h3⟩
theorem right_plain : rightS (-1) (-1) 0 = true := by decide
theorem pick_nat (z : Int) (m : Nat) (hm : 0 < m) : ∃ a : Nat, pickS z (m : Int) = (a : Int) ∧ a < m := by
  have h := pickS_le z m (by omega)
  exact ⟨(pickS z m).toNat, by omega, by omega⟩
/-- Whole rows, none of them going on. -/
def Fine (rs : List Ro) : Prop := ∀ r ∈ rs, Whole r.1 ∧ r.2 = false
theorem putP_len (c : Nat) (rs : List Ro) (x y : Int) (cc : Ce) : (putP c rs x y cc).length = rs.length := by
  unfold putP
  split
  · exact List.length_set
  · rfl
theorem fine_put {c : Nat} {past rows : List Ro} (h : Fine (past ++ rows)) (hc : ∀ r ∈ past ++ rows, r.1.length = c) (x y : Int) (cc : Ce) : Fine (past ++ putP c rows x y cc) := by
  unfold putP
  split
  · rename_i hi
    have hg : rows.getD y.toNat ([], false) = rows[y.toNat]'(hi.1.2) := by simp [hi.1.2]
    have hm : rows[y.toNat]'(hi.1.2) ∈ past ++ rows := List.mem_append_right _ (List.getElem_mem _)
    rw [hg]
    intro r hr
    rcases List.mem_append.1 hr with hr | hr
    · exact h r (List.mem_append_left _ hr)
    · rcases List.mem_or_eq_of_mem_set hr with hr | rfl
      · exact h r (List.mem_append_right _ hr)
      · refine ⟨putL_whole (h _ hm).1 (may_width hi.2.1) ?_, (h _ hm).2⟩
        rw [hc _ hm, Int.toNat_of_nonneg hi.2.2.1]
        exact hi.2.2.2
  · exact h
theorem upP_len {rs : List Ro} {top len q : Nat} {b : Ro} (h : top + len ≤ rs.length) (hq : q ≤ len) : (upP rs top len q b).length = rs.length := by
  unfold upP
  simp only [List.length_append, List.length_take, List.length_drop, List.length_replicate]
  omega
theorem fine_keep {c k : Nat} {s : St} {past rows : List Ro} {len q : Nat} (h : Fine (past ++ rows)) : Fine ((past ++ rows.take q).drop k ++ upP rows 0 len q (blankR c s)) := by
  intro r hr
  rcases List.mem_append.1 hr with hr | hr
  · rcases List.mem_append.1 (List.mem_of_mem_drop hr) with hr | hr
    · exact h r (List.mem_append_left _ hr)
    · exact h r (List.mem_append_right _ (List.mem_of_mem_take hr))
  · unfold upP at hr
    simp only [List.mem_append] at hr
    rcases hr with hr | hr | hr | hr
    · exact h r (List.mem_append_right _ (List.mem_of_mem_take hr))
    · exact h r (List.mem_append_right _ (List.mem_of_mem_drop (List.mem_of_mem_take hr)))
    · rw [List.eq_of_mem_replicate hr]
      exact ⟨.blanks _ _, rfl⟩
    · exact h r (List.mem_append_right _ (List.mem_of_mem_drop hr))
/-- A grid of new blocks, its rows fine. -/
def Fil (w0 : World) (g c r lim : Nat) (w : World) : Prop := ∃ F past rows, GA w g F c lim past rows ∧ rows.length = r ∧ Fine (past ++ rows) ∧ (∀ x ∈ F, w0.heap.size ≤ x) ∧ Below w0.heap.size w0 w
/-- The same while cells are laid. -/
def Lay (w4 : World) (g : Nat) (F : List Nat) (c r lim : Nat) (past : List Ro) (w : World) : Prop := ∃ rows, GA w g F c lim past rows ∧ rows.length = r ∧ Fine (past ++ rows) ∧ Only F w4 w
theorem Fil.new {w0 w : World} {g c r lim : Nat} {F : List Nat} (h : GA w g F c lim [] (List.replicate r (plainR c))) (hF : ∀ x ∈ F, w0.heap.size ≤ x) (hb : Below w0.heap.size w0 w) : Fil w0 g c r lim w := by
  refine ⟨F, _, _, h, List.length_replicate, fun q hq => ?_, hF, hb⟩
  rw [List.nil_append] at hq
  rw [List.eq_of_mem_replicate hq]
  exact ⟨.blanks _ _, rfl⟩
theorem lay_end {w w5 w6 wz : World} {g c r h : Nat} {F : List Nat} {past : List Ro} (hL : Lay w6 g F c r h past wz) (hn : ∀ x ∈ F, w.heap.size ≤ x ∧ x < w5.heap.size) (hb : Below w.heap.size w w6) : Fil w g c r h wz := by
  obtain ⟨rows, h1, h2, h3, h4⟩ := hL
  exact ⟨F, past, rows, h1, h2, h3, fun x hx => (hn x hx).1, hb.trans (h4.below hb.size fun x hx => (hn x hx).1)⟩

set_option maxRecDepth 100000 in
set_option maxHeartbeats 4000000 in
theorem filled_law {B : Nat} (cols rows history : Int) (hc0 : -9223372036854775808 ≤ cols) (hc1 : cols ≤ 9223372036854775807) (hr0 : -9223372036854775808 ≤ rows) (hr1 : rows ≤ 9223372036854775807) (hh0 : -9223372036854775808 ≤ history) (hh1 : history ≤ 9223372036854775807)
    (A : Option Addr) (n cp : Nat) (txt : Nat → ByteArray) (w : World) (ht : Tabs B w) (hB : B ≤ w.heap.size) (hrd : RdT w A n txt) (hsz : ∀ k, k < n → (txt k).size ≤ 1048576) (_hn : n ≤ 9223372036854775807) :
    Calls Tryd.prog 8 #[.int .i64 cols, .int .i64 rows, .int .i64 history, .slice A n cp, .slice none 0 0] w fun e w' => ∃ g, e = .returned (.pointer (some ⟨g, 0, none⟩)) ∧
      Fil w g (1 + (pickS cols 20).toNat) (1 + (pickS rows 12).toNat) (pickS history 40).toNat w' := by
  have pa := pickS_le cols 20 (by decide)
  have pb := pickS_le rows 12 (by decide)
  have ph := pickS_le history 40 (by decide)
  obtain ⟨pa1, pa2⟩ := pa
  obtain ⟨pb1, pb2⟩ := pb
  obtain ⟨ph1, ph2⟩ := ph
  obtain ⟨c, hc⟩ : ∃ c, 1 + (pickS cols 20).toNat = c := ⟨_, rfl⟩
  obtain ⟨r, hr⟩ : ∃ r, 1 + (pickS rows 12).toNat = r := ⟨_, rfl⟩
  obtain ⟨h, hh⟩ : ∃ h, (pickS history 40).toNat = h := ⟨_, rfl⟩
  rw [hc, hr, hh]
  have hnew := new_ga c r h (by omega) (by omega) (by omega) (by omega) (by omega) w
  have ec : (c : Int) = 1 + pickS cols 20 := by omega
  have er : (r : Int) = 1 + pickS rows 12 := by omega
  have eh : (h : Int) = pickS history 40 := by omega
  rw [ec, er, eh] at hnew
  have HNEW := Lib.hid hnew
  have HRD := Lib.hid hrd
  have HSZ := Lib.hid hsz
  have HT := Lib.hid ht
  have hr1' : 1 ≤ r := by omega
  have hr2' : r ≤ 12 := by omega
  clear hnew hrd hsz hc hr hh ec er eh ht
  go_enter Tryd.func8, Tryd.ntmps8
  go_wp2_with (first
    | (go_at_call 10; refine (pick_any _ _ (by assumption) (by assumption) (by decide) (by decide) _).mono ?_; rintro _ w1 ⟨rfl, rfl⟩)
    | (go_at_call 23; refine HNEW.out.mono ?_; rintro _ w2 ⟨g, F, rfl, hG2, hF2, hb2w⟩; have HFIL := Lib.hid (Fil.new hG2 hF2 hb2w); clear hG2 hF2 hb2w))
  clear HNEW hc0 hc1 hr0 hr1 hh0 hh1 pa1 pa2 pb1 pb2 ph1 ph2
  go_loopw [13] (fun i wr => ∃ k : Nat, k ≤ n ∧ k ≤ 60 ∧ i = .int .i64 (k : Int) ∧ Hid (Fil w g c r h wr)) (fun i _ => n - (intOf i).toNat)
  case atStart => exact ⟨0, Nat.zero_le _, Nat.zero_le _, rfl, HFIL⟩
  case round =>
    obtain ⟨k, hk, hk60, rfl, hF⟩ := hrel
    have i0 : (0 : Int) ≤ (k : Int) := Int.natCast_nonneg _
    by_cases hlt : k < n
    · have i1 : (k : Int) < (n : Int) := by omega
      by_cases hlt2 : k < 60
      · have i2 : (k : Int) < 60 := by omega
        obtain ⟨tb, tof, rfl, htb, htx⟩ := HRD.out k hlt
        have hts := HSZ.out k hlt
        obtain ⟨F, past, rws, hGA, hrl, hfin, hnew, hbw⟩ := hF.out
        have hbs := hbw.size
        have hrows := rows_ga hGA
        rw [hrl] at hrows
        have e1 : ((r - 1 : Nat) : Int) = (r : Int) - 1 := by omega
        have hup := fun W (hW : Below wr.heap.size wr W) => keep_ga (hGA.below hW) (r - 1) 1 (by omega) 1 (by decide) (by omega) (-1) (-1) 0 right_plain
        rw [e1] at hup
        have HUP := Lib.hid hup
        have HGA := Lib.hid hGA
        have HFI := Lib.hid hfin
        have HNW := Lib.hid hnew
        have HTX := Lib.hid htx
        have hu0 := fun q => upP_len (rs := rws) (top := 0) (len := r - 1 + 1) (q := 1) (b := q) (by omega) (by omega)
        rw [hrl] at hu0
        have HU0 := Lib.hid hu0
        clear hup e1 hGA hfin hnew htx hu0 hF
        go_wp2_with (first
          | (go_at_call 22; refine hrows.mono ?_; rintro _ w3 ⟨rfl, rfl⟩)
          | (go_at_call 24; refine (refPlain_any _).mono ?_; rintro _ w4 ⟨rfl, hb4⟩)
          | (go_at_call 15; refine (HUP.out _ hb4).mono ?_; rintro _ w5 ⟨rfl, F5, hG5, hW5⟩; have h45 := hb4.size; have hb5 : Below w.heap.size w w5 := (hbw.trans (hb4.mono hbs)).trans (hW5.only.below (by omega) HNW.out); have hc5 : w5.cell? ⟨tb, tof + k, none⟩ = some (.string (txt k)) := (hb5.cell (p := ⟨tb, tof + k, none⟩) htb).trans HTX.out; obtain ⟨rs, rc, w6, hcv, hb6, hz6, hrsl, hrc, hrb⟩ := runes_conv (txt k) w5 (by omega); have HG5 := Lib.hid hG5; have HW5 := Lib.hid hW5; have HRC := Lib.hid hrc; have HRB := Lib.hid hrb; clear hG5 hW5 hrc hrb))
        have HTA := Lib.hid (HT.out.below hb5 hB)
        have hB5 : B ≤ w5.heap.size := by have := hb5.size; omega
        have hb6s := hb6.size
        have HLAY : Hid (Lay w6 g F5 c r h ((past ++ rws.take 1).drop (past.length + 1 - h)) w6) := by
          refine ⟨_, HG5.out.below hb6, ?_, fine_keep HFI.out, Only.refl _ _⟩
          exact HU0.out _
        have HNEW5 : Hid (∀ x ∈ F5, w.heap.size ≤ x ∧ x < w5.heap.size) := fun x hx => by
          refine ⟨?_, HG5.out.lt x hx⟩
          rcases HW5.out.foot x hx with y | y
          · exact HNW.out x y
          · omega
        have HT6 := Lib.hid (HTA.out.below hb6 hB5)
        have HB6 := Lib.hid (hb5.trans (hb6.mono (by have := hb5.size; omega)))
        generalize (past ++ rws.take 1).drop (past.length + 1 - h) = past5 at *
        clear HUP HU0 HFI HNW HTX HGA hrows hts hb4 hbw hb5 hcv hc5 HTA HG5 HW5
        have hlb : w5.heap.size < w6.heap.size := hz6
        go_loopw [15, 17] (fun x i wz => ∃ (m q : Nat), m ≤ rs.length ∧ m ≤ 60 ∧ q ≤ 2 * m ∧ x = .int .i64 (q : Int) ∧ i = .int .i64 (m : Int) ∧ Hid (Lay w6 g F5 c r h past5 wz)) (fun _ i _ => rs.length - (intOf i).toNat)
        case atStart => exact ⟨0, 0, Nat.zero_le _, Nat.zero_le _, Nat.zero_le _, rfl, rfl, HLAY⟩
        case round =>
          obtain ⟨m, q, hm, hm60, hq, rfl, rfl, hL⟩ := hrel
          have m0 : (0 : Int) ≤ (m : Int) := Int.natCast_nonneg _
          have q0 : (0 : Int) ≤ (q : Int) := Int.natCast_nonneg _
          by_cases hmt : m < rs.length
          · have m1 : (m : Int) < (rs.length : Int) := by omega
            by_cases hmt2 : m < 60
            · have m2 : (m : Int) < 60 := by omega
              obtain ⟨rows6, hG6, hl6, hf6, ho6⟩ := hL.out
              obtain ⟨rv, hrv⟩ : ∃ z, rs[m] = z := ⟨_, rfl⟩
              have hcw : wr.cell? ⟨w5.heap.size, m, none⟩ = some (.int .i32 rv) := by
                rw [← hrv, ← HRC.out m hmt]
                exact World.cell?_of_block (ho6.block w5.heap.size hlb (fun hx => by have := (HNEW5.out _ hx).2; omega))
              have hrb := HRB.out rv (hrv ▸ List.getElem_mem hmt)
              have ho6s := ho6.size
              have hTr := HT6.out.only ho6 (by omega) (fun x hx => Nat.le_trans hB (HNEW5.out x hx).1)
              have HTR := Lib.hid hTr
              have HG6 := Lib.hid hG6
              have HO6 := Lib.hid ho6
              have HFI6 := Lib.hid hf6
              have hput := fun (wd : Int) (V : World) (hV : Below wr.heap.size wr V) => put_ga (HG6.out.below hV) (HTR.out.below hV (by omega)) (by have := hV.size; omega) (q : Int) ((r : Int) - 1) rv wd (-1) (-1) 0 (by omega) (by omega) (by omega) (by omega)
              have HPUT := Lib.hid hput
              have HEND : Hid (∀ (wd : Int) (V W' : World), Below wr.heap.size wr V → GA W' g F5 c h past5 (putP c rows6 (q : Int) ((r : Int) - 1) (rv, wd, -1, -1, 0)) → Only F5 V W' → Lay w6 g F5 c r h past5 W') := fun wd V W' h1 h2 h3 =>
                ⟨_, h2, by rw [putP_len]; exact hl6, fine_put HFI6.out HG6.out.bd.cells _ _ _, (HO6.out.trans (Only.of_below h1)).trans h3⟩
              obtain ⟨hrb1, hrb2⟩ := hrb
              clear hTr hput hrv hG6 ho6 hf6 hl6 hL
              by_cases hw1 : 12352 < rv
              · by_cases hw2 : rv < 40960
                · go_wp2_with (first
                    | (go_at_call 25; refine (letter_any _ _ _).mono ?_; rintro _ w7 ⟨rfl, hb7⟩)
                    | (go_at_call 11; refine (HPUT.out 2 _ hb7).mono ?_; rintro _ w8 ⟨rfl, hG8, ho8⟩; have HL8 := Lib.hid (HEND.out 2 _ _ hb7 hG8 ho8); clear hG8 ho8))
                  go_roundw
                  case rel => exact ⟨m + 1, q + 2, by omega, by omega, by omega, by go_num, by go_num, HL8⟩
                  case measure => simp [intOf]; omega
                · have hw3 : 40960 ≤ rv := by omega
                  clear hw2
                  go_wp2_with (first
                    | (go_at_call 25; refine (letter_any _ _ _).mono ?_; rintro _ w7 ⟨rfl, hb7⟩)
                    | (go_at_call 11; refine (HPUT.out 1 _ hb7).mono ?_; rintro _ w8 ⟨rfl, hG8, ho8⟩; have HL8 := Lib.hid (HEND.out 1 _ _ hb7 hG8 ho8); clear hG8 ho8))
                  go_roundw
                  case rel => exact ⟨m + 1, q + 1, by omega, by omega, by omega, by go_num, by go_num, HL8⟩
                  case measure => simp [intOf]; omega
              · have hw3 : rv ≤ 12352 := by omega
                clear hw1
                go_wp2_with (first
                  | (go_at_call 25; refine (letter_any _ _ _).mono ?_; rintro _ w7 ⟨rfl, hb7⟩)
                  | (go_at_call 11; refine (HPUT.out 1 _ hb7).mono ?_; rintro _ w8 ⟨rfl, hG8, ho8⟩; have HL8 := Lib.hid (HEND.out 1 _ _ hb7 hG8 ho8); clear hG8 ho8))
                go_roundw
                case rel => exact ⟨m + 1, q + 1, by omega, by omega, by omega, by go_num, by go_num, HL8⟩
                case measure => simp [intOf]; omega
            · have m2 : (60 : Int) ≤ (m : Int) := by omega
              have HEND := Lib.hid (lay_end hL.out HNEW5.out HB6.out)
              clear hmt2
              go_wp2_with fail
              go_roundw
              case rel => exact ⟨k + 1, by omega, by omega, by go_num, HEND⟩
              case measure => simp [intOf]; omega
          · have m1 : (rs.length : Int) ≤ (m : Int) := by omega
            have HEND := Lib.hid (lay_end hL.out HNEW5.out HB6.out)
            clear hmt
            go_wp2_with fail
            go_roundw
            case rel => exact ⟨k + 1, by omega, by omega, by go_num, HEND⟩
            case measure => simp [intOf]; omega
      · have i2 : ¬ (k : Int) < 60 := by omega
        have i3 : (60 : Int) ≤ (k : Int) := by omega
        clear hlt2
        go_wp2_with fail
        go_ret
        exact ⟨g, rfl, hF.out⟩
    · have i1 : ¬ (k : Int) < (n : Int) := by omega
      clear hlt
      go_wp2_with fail
      go_ret
      exact ⟨g, rfl, hF.out⟩
end Go.Proofs.YtgjlohplgpcghaaDoor.Grd
