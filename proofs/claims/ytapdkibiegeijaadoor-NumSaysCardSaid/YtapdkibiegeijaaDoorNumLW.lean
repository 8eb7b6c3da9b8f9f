/- num.dividedLong and num.divided. Conditions: trimmed parts whose cells hold them; what is divided by is not 0. -/
import Derived.Test.YtapdkibiegeijaaDoorNumL
namespace Go.Proofs.YtapdkibiegeijaaDoor
open Go.RowKit
namespace Nm

theorem product_one (ao : Option Addr) (ac la s g bc : Nat) (a : List Nat) (w : World) (hl : a.length = la) (hla : la < 536870912) (ha : SrcN w ao a) (hg : RowN w g [s]) (da : Dig a) (hs : s < 1000000000) :
    Calls Tryd.prog 52 #[.slice ao la ac, .slice (some ⟨g, 0, none⟩) 1 bc] w fun e w' => Fresh w w' e (val a * s) (la + 1) := by
  have h := product_any ao (some ⟨g, 0, none⟩) ac bc a [s] w (by omega) (by simp) ha hg.src da (fun x hx => by rw [List.mem_singleton.1 hx]; exact hs)
  rw [hl, show val [s] = s by simp [val], show [s].length = 1 from rfl] at h
  exact h
/-- The scale: what both are taken times. -/
theorem scale_facts {b : List Nat} {lb : Nat} (h2 : 2 ≤ lb) (hl : b.length = lb) (db : Dig b) (tb : b.getD (lb - 1) 0 ≠ 0) :
    0 < 1000000000 / (b.getD (lb - 1) 0 + 1) ∧ 1000000000 / (b.getD (lb - 1) 0 + 1) < 1000000000 ∧ val b * (1000000000 / (b.getD (lb - 1) 0 + 1)) < pw lb ∧ pw (lb - 1) ≤ val b := by
  have hx := dig_get db (lb - 1)
  have e2 := val_split b (lb - 1) (by omega)
  rw [val_drop b (lb - 1), show lb - 1 + 1 = lb by omega, List.drop_of_length_le (by omega)] at e2
  simp only [val, Nat.mul_zero, Nat.add_zero] at e2
  have e3 := val_lt (dig_take db (lb - 1))
  rw [List.length_take, Nat.min_eq_left (by omega)] at e3
  obtain ⟨m, rfl⟩ : ∃ m, lb = m + 1 := ⟨lb - 1, by omega⟩
  rw [Nat.add_sub_cancel] at *
  generalize b.getD m 0 = t at *
  have hs0 : 0 < 1000000000 / (t + 1) := Nat.div_pos (by omega) (by omega)
  have hs1 : 1000000000 / (t + 1) * (t + 1) ≤ 1000000000 := Nat.div_mul_le_self _ _
  have hs2 : 1000000000 / (t + 1) < 1000000000 := Nat.div_lt_self (by omega) (by omega)
  refine ⟨hs0, hs2, ?_, ?_⟩
  · rw [pw_succ]
    have h1 : val b < pw m * (t + 1) := by rw [Nat.mul_add]; omega
    have h3 := Nat.mul_lt_mul_of_pos_right h1 hs0
    have h4 : pw m * (t + 1) * (1000000000 / (t + 1)) = pw m * (1000000000 / (t + 1) * (t + 1)) := by rw [Nat.mul_assoc, Nat.mul_comm (t + 1)]
    rw [h4] at h3
    have h5 := Nat.mul_le_mul_left (pw m) hs1
    omega
  · have := Nat.le_mul_of_pos_right (pw m) (show 0 < t by omega)
    omega
/-- The scaled divisor, cut: as many parts as it had. -/
theorem scaled_len {T : List Nat} {lb v : Nat} (h2 : 2 ≤ lb) (hl : T.length = lb + 1) (dT : Dig T) (hv : val T = v) (h1 : v < pw lb) (h3 : pw (lb - 1) ≤ v) :
    cutN T (lb + 1) = lb ∧ val (T.take lb) = v ∧ (T.take lb).length = lb ∧ (T.take lb).getD (lb - 1) 0 ≠ 0 := by
  have a1 := cutN_val T (lb + 1)
  rw [show T.take (lb + 1) = T from List.take_of_length_le (by omega), hv] at a1
  have a2 := cutN_trm T (lb + 1) (by omega)
  have a3 := cutN_len T (lb + 1) (by omega)
  have a4 := len_le a2 (k := lb) (by rw [a1]; exact h1)
  rw [a3] at a4
  have a5 : lb ≤ cutN T (lb + 1) := by
    have := val_lt (dig_take dT (cutN T (lb + 1)))
    rw [a1, a3] at this
    by_cases h : lb ≤ cutN T (lb + 1)
    · exact h
    · have := pw_mono (show cutN T (lb + 1) ≤ lb - 1 by omega)
      omega
  have a6 : cutN T (lb + 1) = lb := by omega
  rw [a6] at a1 a2 a3
  have a7 := a2 (by omega)
  rw [a3] at a7
  exact ⟨a6, a1, a3, a7⟩
/-- The loop's beginning. -/
theorem ls_start {la lb m s : Nat} {a V R : List Nat} {vb : Nat} (hsz : la + 1 = m + lb) (h2 : 2 ≤ lb) (hR : R.length = la + 1) (hvR : val R = val a * s) (hvV : val V = vb * s) (hs : 0 < s) (da : Dig a) (hla : a.length = la) (hb : pw (lb - 1) ≤ vb) :
    val (R.take (m + lb)) + (val (([] : List Nat)) * val V) * pw m = val a * s ∧ val ((R.drop m).take lb) < val V := by
  have e1 : R.take (m + lb) = R := List.take_of_length_le (by omega)
  have e2 : (R.drop m).take lb = R.drop m := List.take_of_length_le (by rw [List.length_drop]; omega)
  refine ⟨by rw [e1, hvR]; simp [val], ?_⟩
  rw [e2]
  have h1 := val_split R m (by omega)
  have h3 := val_lt da
  rw [hla, show la = m + (lb - 1) by omega, pw_add] at h3
  rw [hvV]
  have h4 : val a * s < pw m * (pw (lb - 1) * s) := by
    rw [← Nat.mul_assoc]; exact Nat.mul_lt_mul_of_pos_right h3 hs
  have h5 : pw m * val (R.drop m) < pw m * (pw (lb - 1) * s) := by omega
  have h6 := Nat.lt_of_mul_lt_mul_left h5
  exact Nat.lt_of_lt_of_le h6 (Nat.mul_le_mul_right s hb)

theorem away_pos {W' wl c n part V : Nat} (hW' : W' < pw n) (h : W' + part * V = wl + pw n * c) (hc : 0 < c) : 0 < part := by
  cases part with
  | zero =>
    have := Nat.le_mul_of_pos_right (pw n) hc
    omega
  | succ p => omega
/-- Two new rows. -/
def Both (w w' : World) (e : Ending) (qv rv m n : Nat) : Prop := ∃ (gq : Nat) (Q : List Nat) (gr : Nat) (T : List Nat), Q.length = m ∧ T.length = n ∧ e = .returned (.tuple #[.slice (some ⟨gq, 0, none⟩) m m, .slice (some ⟨gr, 0, none⟩) n n]) ∧
  RowN w' gq Q ∧ RowN w' gr T ∧ Dig Q ∧ Dig T ∧ val Q = qv ∧ val T = rv ∧ Below w.heap.size w w'

set_option maxHeartbeats 6400000 in
theorem dividedLong_any (ao bo : Option Addr) (ac bc la lb : Nat) (a b : List Nat) (w : World) (hla : a.length = la) (hlb : b.length = lb) (hls : la < 536870000) (h2 : 2 ≤ lb) (hle : lb ≤ la) (ha : SrcN w ao a) (hb : SrcN w bo b) (da : Dig a) (db : Dig b)
    (tb : b.getD (lb - 1) 0 ≠ 0) :
    Calls Tryd.prog 67 #[.slice ao la ac, .slice bo lb bc] w fun e w' => Both w w' e (val a / val b) (val a % val b) (la - lb + 1) lb := by
  obtain ⟨bk, bf, rfl, hcb⟩ := hb.get (lb - 1) (by omega)
  have hx := dig_get db (lb - 1)
  obtain ⟨s1, s2, s3, s4⟩ := scale_facts h2 hlb db tb
  obtain ⟨t, ht⟩ : ∃ x, b.getD (lb - 1) 0 = x := ⟨_, rfl⟩
  rw [ht] at hcb hx tb s1 s2 s3
  obtain ⟨s, hs⟩ : ∃ s, 1000000000 / (t + 1) = s := ⟨_, rfl⟩
  have hsi : (1000000000 : Int) / ((t : Int) + 1) = (s : Int) := by rw [← hs]; simp
  rw [hs] at s1 s2 s3
  have HLA := hidden hla
  have HLB := hidden hlb
  have HA := hidden ha
  have HB := hidden hb
  have HDA := hidden da
  have HDB := hidden db
  have HS3 := hidden s3
  have HS4 := hidden s4
  have hr1 := rowN_alloc w [s]
  have hR1 := hidden (show RowN (w.alloc (.cells #[.int .u32 (s : Int)] 75)) w.heap.size [s] from hr1)
  have hb1 := hidden ((Below.refl w.heap.size w).alloc (Nat.le_refl _) (.cells #[.int .u32 (s : Int)] 75))
  obtain ⟨m, hm⟩ : ∃ m, la - lb + 1 = m := ⟨_, rfl⟩
  have hsz : la + 1 = m + lb := by omega
  rw [hm]
  have HSZ := hidden hsz
  have hsz1 : la + 1 ≤ m + lb := by omega
  have hsz2 : m + lb ≤ la + 1 := by omega
  clear hsz hla hlb ha hb da db s3 s4 hr1 ht hs hm
  go_enter Tryd.func67, Tryd.ntmps67
  go_wp2_with fail
  refine (product_one ao ac la s w.heap.size 1 a _ HLA.out (by omega) (HA.out.below hb1.out) hR1.out HDA.out s2).mono ?_
  rintro e w1 ⟨g1, R0, hl1, rfl, hg1, hrow1, hd1, hv1, hbl1⟩
  rw [World.size_alloc] at hg1 hbl1
  have hB1 := hidden (hb1.out.trans (hbl1.mono (by omega)))
  have HL1 := hidden hl1
  have HR1 := hidden hrow1
  have HD1 := hidden hd1
  have HV1 := hidden hv1
  have hz1 : w.heap.size + 1 ≤ w1.heap.size := by have := hbl1.size; rwa [World.size_alloc] at this
  have hg1l := hrow1.lt
  have hr2 := rowN_alloc w1 [s]
  have hR2 := hidden (show RowN (w1.alloc (.cells #[.int .u32 (s : Int)] 75)) w1.heap.size [s] from hr2)
  have hb2 := hidden ((Below.refl w1.heap.size w1).alloc (Nat.le_refl _) (.cells #[.int .u32 (s : Int)] 75))
  clear hl1 hrow1 hd1 hv1 hbl1 hr2 hb1 hR1
  go_wp2_with fail
  refine (product_one _ bc lb s w1.heap.size 1 b _ HLB.out (by omega) ((HB.out.below hB1.out).below hb2.out) hR2.out HDB.out s2).mono ?_
  rintro e w2 ⟨g2, T2, hl2, rfl, hg2, hrow2, hd2, hv2, hbl2⟩
  rw [World.size_alloc] at hg2 hbl2
  have hB2 := hidden (hb2.out.trans (hbl2.mono (by omega)))
  have hz2 : w1.heap.size + 1 ≤ w2.heap.size := by have := hbl2.size; rwa [World.size_alloc] at this
  have hg2l := hrow2.lt
  obtain ⟨k1, k2, k3, k4⟩ := scaled_len h2 hl2 hd2 hv2 HS3.out (Nat.le_trans HS4.out (Nat.le_mul_of_pos_right _ s1))
  have htr := trimmed_any (some ⟨g2, 0, none⟩) (lb + 1) T2 w2 (by omega) (by omega) hrow2.src
  rw [hl2, k1] at htr
  have HTR := hidden htr
  have HV := hidden hv2
  have HK2 := hidden k2
  have HK3 := hidden k3
  have HK4 := hidden k4
  have HT2 := hidden hrow2
  have HD2 := hidden hd2
  clear hl2 hrow2 hd2 hv2 hbl2 hb2 hR2 k1 k2 k3 k4 htr
  go_wp2_with fail
  refine HTR.out.mono ?_
  rintro e w' ⟨rfl, rfl⟩
  have hmk := make_u32 .i64 .i64 m (by omega) ((la : Int) - lb + 1) ((la : Int) - lb + 1) (by omega) (by omega)
  have hmi : ((la : Int) - lb + 1) = (m : Int) := by omega
  have HMI := hidden hmi
  clear hmi
  go_wp2
  obtain ⟨gq, hgq⟩ : ∃ gq, w2.heap.size = gq := ⟨_, rfl⟩
  rw [hgq]
  have hLC : LC w g1 g2 gq la lb m (T2.take lb) := ⟨by omega, by omega, by omega, by omega, by omega, by omega, HSZ.out, h2, by omega, HK3.out, dig_take HD2.out _, HK4.out⟩
  have HLC := hidden hLC
  have hst := ls_start (a := a) (V := T2.take lb) (R := R0) (vb := val b) HSZ.out h2 HL1.out HV1.out HK2.out s1 HDA.out HLA.out HS4.out
  have hLS : LS w g1 g2 gq la lb m (val a * s) (T2.take lb) m R0 (List.replicate m 0) (w2.alloc (.cells (ncells (List.replicate m 0)) 75)) := by
    have hba := (Below.refl w2.heap.size w2).alloc (Nat.le_refl _) (.cells (ncells (List.replicate m 0)) 75)
    refine ⟨HL1.out, by rw [List.length_replicate], ((HR1.out.below hB2.out hg1l).below hba (by omega)), ?_, HD1.out, dig_zeros _, (HT2.out.at.take lb).below hba (by omega), by rw [World.size_alloc]; omega, ?_, hst.2, hB1.out.trans ((hB2.out.mono (by omega)).trans (hba.mono (by omega)))⟩
    · rw [← hgq]; exact rowN_alloc _ _
    · rw [List.drop_of_length_le (show (List.replicate m 0).length ≤ m by rw [List.length_replicate]; omega)]
      exact hst.1
  have HLS := hidden hLS
  clear hLC hLS hst hmk HR1 HT2 HTR hB2 hB1
  go_loopw [7] (fun i wr => ∃ (j : Nat) (R Q : List Nat), j ≤ m ∧ i = .int .i64 ((j : Int) - 1) ∧ Hid (LS w g1 g2 gq la lb m (val a * s) (T2.take lb) j R Q wr)) (fun i _ => (intOf i + 1).toNat)
  case atStart => exact ⟨m, R0, _, Nat.le_refl _, rfl, HLS⟩
  case round =>
    clear HLS
    obtain ⟨j, R, Q, hj, rfl, hS⟩ := hrel
    by_cases h0 : 0 < j
    · obtain ⟨i, rfl⟩ : ∃ i, j = i + 1 := ⟨j - 1, by omega⟩
      rw [show ((i + 1 : Nat) : Int) - 1 = (i : Int) by omega]
      go_wp2_with fail
      rw [show i + lb + 1 - i = lb + 1 by omega]
      refine (ls_guess HLC.out hS.out hj).mono ?_
      rintro e w3 ⟨p, rfl, hp, hp1, hp2, hb3⟩
      have hS3 := hidden (hS.out.below hb3)
      have HP1 := hidden hp1
      have HP2 := hidden hp2
      clear hb3 hp1 hp2
      go_wp2_with fail
      have hta := takeAway_any g1 i lb p (la + 1 - i) (some ⟨g2, 0, none⟩) (lb + 1) R (T2.take lb) w3 (by omega) hp hS3.out.rowR (by rw [hS3.out.lenR]; omega) hS3.out.digR HK3.out (fun _ => ⟨g2, 0, rfl, hS3.out.bLt, HLC.out.h12.symm, hS3.out.bAt⟩) (dig_take HD2.out _)
      refine hta.mono ?_
      rintro e w4 ⟨c, T, rfl, hW, hT, hv, ht⟩
      obtain ⟨_, hw2, hw3⟩ := ls_window HLC.out hS3.out hj
      have hVl : val (T2.take lb) < pw lb := by rw [HK2.out]; exact HS3.out
      have hq4 : RowN w4 gq Q := (ht.block gq hS3.out.rowQ.lt HLC.out.hq1).trans hS3.out.rowQ
      have hgt4 : g2 < w4.heap.size := Nat.lt_of_lt_of_le hS3.out.bLt ht.size
      have hb4 := hS3.out.bAt.turn ht hS3.out.bLt HLC.out.h12.symm
      by_cases hlk : R.getD (i + lb) 0 < c
      · rw [decide_eq_true hlk]
        have hTl : val ((T.drop i).take lb) < pw lb := by
          have := val_lt (dig_take (dig_drop hW.dig i) lb)
          rwa [List.length_take, List.length_drop, hW.len, hS3.out.lenR, Nat.min_eq_left (by omega)] at this
        have hp0 := away_pos hTl hv (show 0 < c by omega)
        have HTl := hidden hTl
        have HVl := hidden hVl
        have HW := hidden hW
        have HT := hidden hT
        have Hv := hidden hv
        have Ht := hidden ht
        have HQ4 := hidden hq4
        have HB4 := hidden hb4
        have HLK := hidden hlk
        have HW3 := hidden hw3
        clear hTl hVl hW hT hv ht hq4 hb4 hlk hw2 hw3 hta
        go_wp2_with fail
        have hpb := putBack_any g1 i lb (la + 1 - i) (some ⟨g2, 0, none⟩) (lb + 1) T (T2.take lb) w4 (by omega) HT.out (by rw [HW.out.len, hS3.out.lenR]; omega) HW.out.dig HK3.out (fun _ => ⟨g2, 0, rfl, hgt4, HLC.out.h12.symm, HB4.out⟩) (dig_take HD2.out _)
        refine hpb.mono ?_
        rintro e w5 ⟨c2, T', rfl, hW', hT', hv', ht'⟩
        have hTl' : val ((T'.drop i).take lb) < pw lb := by
          have := val_lt (dig_take (dig_drop hW'.dig i) lb)
          rwa [List.length_take, List.length_drop, hW'.len, HW.out.len, hS3.out.lenR, Nat.min_eq_left (by omega)] at this
        obtain ⟨_, r1, r2⟩ := away_lacks HVl.out HTl.out hTl' HW3.out Hv.out HLK.out HP2.out HP1.out hv'
        have hq5 : RowN w5 gq Q := (ht'.block gq HQ4.out.lt HLC.out.hq1).trans HQ4.out
        have hfr := hq5.frozen i
        have hto := hq5.cell i (by rw [hS3.out.lenQ]; omega)
        obtain ⟨old, hold⟩ : ∃ x, Q.getD i 0 = x := ⟨_, rfl⟩
        rw [hold] at hto
        have hst := ls_step HLC.out hS3.out hj (show p - 1 < 1000000000 by omega) (HW.out.trans hW') hT' (Ht.out.trans ht') r1 r2
        have HST := hidden hst
        clear hold hst r1 r2 hq5 hTl' hW' hT' hv' ht' hpb
        go_wp2
        go_roundw
        case rel =>
          refine ⟨i, T', Q.set i (p - 1), by omega, by go_num, hidden ?_⟩
          have := HST.out
          rwa [show ((p - 1 : Nat) : Int) = (p : Int) - 1 by omega] at this
        case measure => simp [intOf]
      · rw [decide_eq_false hlk]
        obtain ⟨r1, r2⟩ := away_fits hVl hw3 hv (by omega) HP1.out
        have hfr := hq4.frozen i
        have hto := hq4.cell i (by rw [hS3.out.lenQ]; omega)
        obtain ⟨old, hold⟩ : ∃ x, Q.getD i 0 = x := ⟨_, rfl⟩
        rw [hold] at hto
        have hst := ls_step HLC.out hS3.out hj hp hW hT ht r1 r2
        have HST := hidden hst
        clear hold hst r1 r2 hq4 hVl hW hT hv ht hb4 hlk hw2 hw3 hta
        go_wp2
        go_roundw
        case rel => exact ⟨i, T, Q.set i p, by omega, by go_num, HST⟩
        case measure => simp [intOf]
    · obtain rfl : j = 0 := by omega
      have hLl : (R.take lb).length = lb := by rw [List.length_take, hS.out.lenR]; omega
      have hsh := dividedShort_any (some ⟨g1, 0, none⟩) (la + 1) (R.take lb) s wr (by omega) s1 s2 (hS.out.rowR.src.take lb) (dig_take hS.out.digR _)
      rw [hLl] at hsh
      have he := hS.out.eq
      have hlt := hS.out.lt
      rw [Nat.zero_add, List.drop_zero] at he
      rw [List.drop_zero, HK2.out] at hlt
      rw [HK2.out, show pw 0 = 1 from rfl, Nat.mul_one] at he
      obtain ⟨z1, z2⟩ := long_end (Nat.lt_of_lt_of_le (pw_pos _) HS4.out) s1 he hlt
      rw [z2] at hsh
      have HSH := hidden hsh
      have HZ1 := hidden z1
      clear hLl hsh he hlt z1 z2
      go_wp2_with fail
      refine HSH.out.mono ?_
      rintro e w6 ⟨gr, T6, left, hl6, rfl, hg6, hrow6, hd6, hv6, hlf6, hb6⟩
      have hfin : val T6 = val a % val b := by
        have h1 : (val a % val b) * s / s = val T6 := by
          rw [hv6, Nat.mul_comm (val T6), Nat.mul_add_div s1, Nat.div_eq_of_lt hlf6, Nat.add_zero]
        rw [Nat.mul_div_cancel _ s1] at h1
        exact h1.symm
      go_wp2
      go_ret2
      exact ⟨gq, Q, gr, T6, hS.out.lenQ, hl6, rfl, hS.out.rowQ.below hb6 hS.out.rowQ.lt, hrow6, hS.out.digQ, hd6, HZ1.out, hfin, hS.out.bel.trans (hb6.mono hS.out.bel.size)⟩
end Nm
end Go.Proofs.YtapdkibiegeijaaDoor
