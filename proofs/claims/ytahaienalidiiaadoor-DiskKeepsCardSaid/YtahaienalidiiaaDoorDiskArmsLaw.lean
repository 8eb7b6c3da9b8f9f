/- smithylaw3.DiskArms answers true at every two whole numbers. Conditions: the errors of api lie in their variables; the library's number of bytes lies in its. -/
import Derived.Test.YtahaienalidiiaaDoorDiskFirst
namespace Go.Proofs.YtahaienalidiiaaDoor
open Go.RowKit Go.Maps

theorem number_any (z : Int) (m : Nat) (h1 : 1 ≤ m) (h2 : m ≤ 1000) (w : World) : Calls Tryd.prog 8 #[.int .i64 z, .int .i64 (m : Int)] w fun e w' => ∃ q : Nat, q < m ∧ e = .returned (.int .i64 (q : Int)) ∧ w' = w := by
  have e1 := Int.tmod_lt_of_pos z (show (0 : Int) < m by omega)
  have e2 := Int.tmod_lt_of_pos (-z) (show (0 : Int) < m by omega)
  rw [Int.neg_tmod] at e2
  obtain ⟨r, hr⟩ : ∃ r, z.tmod (m : Int) = r := ⟨_, rfl⟩
  rw [hr] at e1 e2
  have e3 := Int.tmod_eq_emod_of_nonneg (a := r + (m : Int)) (b := (m : Int)) (by omega)
  have e4 := Int.emod_nonneg (r + (m : Int)) (show (m : Int) ≠ 0 by omega)
  have e5 := Int.emod_lt_of_pos (r + (m : Int)) (show (0 : Int) < m by omega)
  obtain ⟨q, hq⟩ : ∃ q : Nat, (r + (m : Int)) % (m : Int) = (q : Int) := ⟨((r + (m : Int)) % (m : Int)).toNat, by omega⟩
  have hm0 : ¬ ((m : Int) = 0) := by omega
  have hw : IntKind.i64.wrap (r + (m : Int)) = r + (m : Int) := by rw [IntKind.wrap_i64]; omega
  have hq' : (r + (m : Int)).tmod (m : Int) = (q : Int) := by rw [e3, hq]
  have hqm : q < m := by omega
  have HQ := hid' hqm
  clear e3 e4 e5 hq hqm
  go_enter Tryd.func8, Tryd.ntmps8
  go_wp2
  go_ret
  exact ⟨q, HQ.out, rfl, rfl⟩
/-- How many calls are counted of t, armed n; what stands armed then; whether the power has gone. -/
def opsN (n t : Nat) : Int := if n = 0 then t else if t ≤ n then t else n
def armN (n t : Nat) : Int := if n = 0 then 0 else if t ≤ n then (n : Int) - t else 0
def dnN (n t : Nat) : Bool := decide (0 < n ∧ n ≤ t)
def fileA : ByteArray → Option Value := putF (fun _ => none) nmA (cont ⟨#[120]⟩ true)
theorem fileA_at : (fileA nmA).getD cont0 = cont ⟨#[120]⟩ true := by rw [fileA, putF_same]; rfl
set_option maxRecDepth 100000 in
set_option maxHeartbeats 3200000 in
theorem DiskArms_any (A : Nat → Addr) (m : Int) (x y : Int) (w : World) (hm : w.cell? ⟨3, 0, none⟩ = some (.int .i64 m)) (hS : Sent A w) :
    Calls Tryd.prog 5 #[.int .i64 x, .int .i64 y] w fun e w' => e = .returned (.bool true) ∧ Below w.heap.size w w' := by
  have hwm := World.block_lt_of_cell? w _ hm
  have hwe := World.block_lt_of_cell? w _ hS.g15
  have HF := hid' (first_any A m w hm hS)
  have HM := hid' hm
  have HS := hid' hS
  clear hm hS
  go_enter Tryd.func5, Tryd.ntmps5
  go_wp2_with fail
  refine (HF.out).mono ?_
  rintro e w1 ⟨rfl, hb1⟩
  have N1 := hid' (number_any x 20 (by omega) (by omega) w1)
  go_wp2_with fail
  refine (N1.out).mono ?_
  rintro e w1' ⟨n, hn, rfl, rfl⟩
  have N2 := hid' (number_any y 30 (by omega) (by omega) w1')
  go_wp2_with fail
  refine (N2.out).mono ?_
  rintro e w1 ⟨c, hc, rfl, rfl⟩
  have s1 := hb1.size
  have hb2 : Below w.heap.size w (w1.alloc (.cells #[.string nmA, .string ⟨#[120]⟩] 52)) := hb1.alloc s1 _
  have r2 : (w1.alloc (.cells #[.string nmA, .string ⟨#[120]⟩] 52)).heap[w1.heap.size]? = some (.cells #[.string nmA, .string ⟨#[120]⟩] 52 (0, 0)) := heap_alloc_new _ _
  have m2 := (hb2.cell (p := ⟨3, 0, none⟩) hwm).trans HM.out
  have W2 := new_one (w1.alloc (.cells #[.string nmA, .string ⟨#[120]⟩] 52)) w1.heap.size nmA ⟨#[120]⟩ (cell_of_row _ _ 0 _ _ _ r2) (cell_of_row _ _ 1 _ _ _ r2) (by decide) (by decide) okA m m2
  have z2 : (w1.alloc (.cells #[.string nmA, .string ⟨#[120]⟩] 52)).heap.size = w1.heap.size + 1 := by simp
  have HB2 := hid' hb2
  obtain ⟨B, hB⟩ : ∃ B, (w1.alloc (.cells #[.string nmA, .string ⟨#[120]⟩] 52)).heap.size = B := ⟨_, rfl⟩
  rw [hB] at W2 z2
  obtain ⟨sb, hsb⟩ : ∃ sb, B + 1 + 1 = sb := ⟨_, rfl⟩
  obtain ⟨cb, hcb⟩ : ∃ cb, B + 1 = cb := ⟨_, rfl⟩
  rw [hsb, hcb] at W2
  have h1sb : B ≤ sb := by omega
  have h1cb : B ≤ cb := by omega
  have hwB : w.heap.size ≤ B := by omega
  have HW2 := hid' W2
  have HBB := hid' hB
  clear hb2 r2 m2 W2 hB hsb hcb N1 N2 HF z2
  unfold nmA at HW2 HBB
  go_wp2_with fail
  refine (HW2.out).mono ?_
  rintro e w3 ⟨rfl, D3, b3⟩
  have A3 := hid' (arm_any D3 (n : Int))
  have HB3 := hid' (HB2.out.trans (b3.mono hwB))
  have s3 := b3.size
  rw [HBB.out] at s3
  clear D3 b3 HW2
  go_wp2_with fail
  refine (A3.out).mono ?_
  rintro e w4 ⟨rfl, D4, T4⟩
  have T34 := Tri.below (Below.refl B w3) T4 h1sb (Nat.le_refl B) h1cb s3
  have HB4 := hid' (HB3.out.trans (T34.mono hwB))
  have s4' : B ≤ w4.heap.size := Nat.le_trans s3 T34.size
  have HD4 : Hid (DiskAt w4 B sb B cb 1 0 fileA (fun _ => none) (opsN n 0) (armN n 0) (dnN n 0)) := hid' (by
    have e1 : opsN n 0 = 0 := by unfold opsN; split <;> simp
    have e2 : armN n 0 = (n : Int) := by unfold armN; split <;> simp_all
    have e3 : dnN n 0 = false := by unfold dnN; simp; omega
    rw [e1, e2, e3]
    exact D4)
  clear D4 T4 T34 A3 HB3
  go_wp2
  go_loopw [8] (fun i wr => ∃ t : Nat, t ≤ c ∧ i = .int .i64 t ∧ Hid (DiskAt wr B sb B cb 1 0 fileA (fun _ => none) (opsN n t) (armN n t) (dnN n t)) ∧ Hid (Below w.heap.size w wr) ∧ B ≤ wr.heap.size) (fun i _ => c - (intOf i).toNat)
  case atStart => exact ⟨0, Nat.zero_le _, rfl, HD4, HB4, s4'⟩
  case round =>
    clear HD4 HB4
    obtain ⟨t, ht, rfl, hD, hb, hs⟩ := hrel
    by_cases htc : t < c
    · by_cases hup : n = 0 ∨ t + 1 < n
      · have e0 : dnN n t = false := by unfold dnN; simp; omega
        have e1 : armN n t ≠ 1 := by unfold armN; split <;> (try split) <;> omega
        have e2 : opsN n t + 1 = opsN n (t + 1) := by unfold opsN; split <;> (try split) <;> (try split) <;> omega
        have e3 : armed' (armN n t) = armN n (t + 1) := by unfold armed' armN; split <;> (try split) <;> (try split) <;> (try split) <;> omega
        have e4 : dnN n (t + 1) = false := by unfold dnN; simp; omega
        have b0 : 0 ≤ opsN n t ∧ opsN n t < 1000000 := by unfold opsN; split <;> (try split) <;> omega
        have b1 : -9223372036854775808 ≤ armN n t ∧ armN n t < 9223372036854775808 := by unfold armN; split <;> (try split) <;> omega
        have hD' := hD.out
        rw [e0] at hD'
        have HR := hid' (read_up hD' b0.1 b0.2 b1.1 b1.2 e1 nmA (by decide) ⟨#[120]⟩ true fileA_at)
        rw [e2, e3] at HR
        have E4 := hid' e4
        clear hD' e0 e1 e2 e3 e4 b0 b1 hD
        unfold nmA at HR
        go_wp2_with fail
        refine (HR.out).mono ?_
        rintro e w5 ⟨rfl, D5, T5⟩
        have HDn := hid' (down_any D5)
        have T35 := Tri.below (Below.refl B wr) T5 h1sb (Nat.le_refl B) h1cb hs
        have HB5 := hid' (hb.out.trans (T35.mono hwB))
        have s5 : B ≤ w5.heap.size := Nat.le_trans hs T35.size
        have HD5 : Hid (DiskAt w5 B sb B cb 1 0 fileA (fun _ => none) (opsN n (t + 1)) (armN n (t + 1)) (dnN n (t + 1))) := hid' (by rw [E4.out]; exact D5)
        clear D5 T5 T35 HR
        by_cases hn0 : n = 0
        · have c1 : ¬ (0 < (n : Int)) := by omega
          have HN0 := hid' hn0
          clear hn0 hup
          go_wp2_with fail
          refine (HDn.out).mono ?_
          rintro e w6 ⟨rfl, rfl⟩
          go_wp2
          go_roundw
          case rel => exact ⟨t + 1, by omega, by go_num, HD5, HB5, s5⟩
          case measure => simp [intOf]; omega
        · have c1 : 0 < (n : Int) := by omega
          have c2 : ¬ ((n : Int) - 1 ≤ (t : Int)) := by omega
          go_wp2_with fail
          refine (HDn.out).mono ?_
          rintro e w6 ⟨rfl, rfl⟩
          go_wp2
          go_roundw
          case rel => exact ⟨t + 1, by omega, by go_num, HD5, HB5, s5⟩
          case measure => simp [intOf]; omega
      · have hE := (HS.out.below hb.out).g15
        have e4 : dnN n (t + 1) = true := by unfold dnN; simp; omega
        have HR : Hid (Calls Tryd.prog 15 #[.pointer (some ⟨sb, 0, none⟩), .string nmA] wr fun e w' => e = .returned (.tuple #[.string ⟨#[]⟩, .bool false, E A 15]) ∧ DiskAt w' B sb B cb 1 0 fileA (fun _ => none) (opsN n (t + 1)) (armN n (t + 1)) (dnN n (t + 1)) ∧ Tri sb B cb wr w') := hid' (by
          rw [e4]
          by_cases hl : t + 1 = n
          · have e0 : dnN n t = false := by unfold dnN; simp; omega
            have e1 : armN n t = 1 := by unfold armN; split <;> (try split) <;> omega
            have e2 : opsN n (t + 1) = opsN n t + 1 := by unfold opsN; split <;> (try split) <;> (try split) <;> omega
            have e3 : armN n (t + 1) = 0 := by unfold armN; split <;> (try split) <;> omega
            have hD' := hD.out
            rw [e0, e1] at hD'
            rw [e2, e3]
            exact read_last A hD' (by omega) (by unfold opsN; split <;> (try split) <;> omega) (by unfold opsN; split <;> (try split) <;> omega) nmA hE
          · have e0 : dnN n t = true := by unfold dnN; simp; omega
            have e2 : opsN n (t + 1) = opsN n t := by unfold opsN; split <;> (try split) <;> (try split) <;> omega
            have e3 : armN n (t + 1) = armN n t := by unfold armN; split <;> (try split) <;> (try split) <;> omega
            have hD' := hD.out
            rw [e0] at hD'
            rw [e2, e3]
            exact read_down A hD' nmA hE)
        have E4 := hid' e4
        have c1 : 0 < (n : Int) := by omega
        have c2 : (n : Int) - 1 ≤ (t : Int) := by omega
        clear hD e4 hE
        unfold nmA at HR
        go_wp2_with fail
        refine (HR.out).mono ?_
        rintro e w5 ⟨rfl, D5, T5⟩
        have T35 := Tri.below (Below.refl B wr) T5 h1sb (Nat.le_refl B) h1cb hs
        have hb5 := hb.out.trans (T35.mono hwB)
        have s5 : B ≤ w5.heap.size := Nat.le_trans hs T35.size
        have S5 : Sent A w5 := HS.out.below hb5
        have HI := hid' (Is_bare (A := A) (v := E A 15) (c := 116) 116 (.inr ⟨15, by omega, rfl, rfl⟩) w5 S5)
        have HD5 := hid' D5
        have HB5 := hid' hb5
        clear D5 T5 T35 HR S5 hb5
        unfold E tells at *
        go_wp2_with fail
        refine (HI.out).mono ?_
        rintro e w6 ⟨rfl, hb6⟩
        have D6 := HD5.out.below hb6
        have HDn := hid' (down_any D6)
        rw [E4.out] at HDn
        have HD6 := hid' D6
        have HB6 := hid' (HB5.out.trans (hb6.mono (by have := HB5.out.size; omega)))
        have s6 : B ≤ w6.heap.size := Nat.le_trans s5 hb6.size
        clear D6 hb6 HI HD5 HB5
        go_wp2_with fail
        refine (HDn.out).mono ?_
        rintro e w7 ⟨rfl, rfl⟩
        go_wp2
        go_roundw
        case rel => exact ⟨t + 1, by omega, by go_num, HD6, HB6, s6⟩
        case measure => simp [intOf]; omega
    · have htc' : t = c := by omega
      subst htc'
      have b0 : 0 ≤ opsN n t ∧ opsN n t < 1000000 := by unfold opsN; split <;> (try split) <;> omega
      have b1 : -9223372036854775808 ≤ armN n t ∧ armN n t < 9223372036854775808 := by unfold armN; split <;> (try split) <;> omega
      have HO := hid' (ops_any hD.out)
      by_cases hn0 : n = 0
      · have e0 : dnN n t = false := by unfold dnN; simp; omega
        have e1 : armN n t ≠ 1 := by unfold armN; split <;> (try split) <;> omega
        have e2 : opsN n t = t := by unfold opsN; split <;> (try split) <;> omega
        have c1 : ¬ (0 < (n : Int)) := by omega
        have hD' := hD.out
        rw [e0] at hD'
        have HRi := hid' (rise_up hD' 0 0)
        have HR := hid' (read_up hD' b0.1 b0.2 b1.1 b1.2 e1 nmA (by decide) ⟨#[120]⟩ true fileA_at)
        rw [e2] at HO
        have HN0 := hid' hn0
        clear hD hD' e0 e1 e2 b0 b1 hn0
        unfold nmA at HR
        go_wp2_with fail
        refine (HO.out).mono ?_
        rintro e w5 ⟨rfl, rfl⟩
        go_wp2_with fail
        refine (HRi.out).mono ?_
        rintro e w6 ⟨rfl, rfl⟩
        go_wp2_with fail
        refine (HR.out).mono ?_
        rintro e w7 ⟨rfl, D7, T7⟩
        have HDn := hid' (down_any D7)
        have HB7 := hid' (hb.out.trans ((Tri.below (Below.refl B w6) T7 h1sb (Nat.le_refl B) h1cb hs).mono hwB))
        clear D7 T7
        go_wp2_with fail
        refine (HDn.out).mono ?_
        rintro e w8 ⟨rfl, rfl⟩
        go_wp2
        go_ret
        exact ⟨rfl, HB7.out⟩
      · have c1 : 0 < (n : Int) := by omega
        by_cases hlt : t < n
        · have e0 : dnN n t = false := by unfold dnN; simp; omega
          have e2 : opsN n t = t := by unfold opsN; split <;> (try split) <;> omega
          have hmin : min (t : Int) (n : Int) = (t : Int) := by omega
          have c2 : (t : Int) < (n : Int) := by omega
          have hD' := hD.out
          rw [e0] at hD'
          have HRi := hid' (rise_up hD' 0 0)
          rw [e2] at HO
          by_cases hl : t + 1 = n
          · have e1 : armN n t = 1 := by unfold armN; split <;> (try split) <;> omega
            rw [e1] at hD'
            have HR := hid' (read_last A hD' (by omega) b0.1 b0.2 nmA (HS.out.below hb.out).g15)
            have c3 : ¬ ((t : Int) < (n : Int) - 1) := by omega
            have HL := hid' hl
            clear hD hD' e0 e1 e2 b0 b1 hl hn0
            unfold nmA E at HR
            go_wp2_with fail
            refine (HO.out).mono ?_
            rintro e w5 ⟨rfl, rfl⟩
            go_wp2_with fail
            refine (HRi.out).mono ?_
            rintro e w6 ⟨rfl, rfl⟩
            go_wp2_with fail
            refine (HR.out).mono ?_
            rintro e w7 ⟨rfl, D7, T7⟩
            have HB7 := hid' (hb.out.trans ((Tri.below (Below.refl B w6) T7 h1sb (Nat.le_refl B) h1cb hs).mono hwB))
            clear D7 T7
            go_wp2
            go_ret
            exact ⟨ret_bool' (by simp; omega), HB7.out⟩
          · have e1 : armN n t ≠ 1 := by unfold armN; split <;> (try split) <;> omega
            have HR := hid' (read_up hD' b0.1 b0.2 b1.1 b1.2 e1 nmA (by decide) ⟨#[120]⟩ true fileA_at)
            have c3 : (t : Int) < (n : Int) - 1 := by omega
            have HL := hid' hl
            clear hD hD' e0 e1 e2 b0 b1 hl hn0
            unfold nmA at HR
            go_wp2_with fail
            refine (HO.out).mono ?_
            rintro e w5 ⟨rfl, rfl⟩
            go_wp2_with fail
            refine (HRi.out).mono ?_
            rintro e w6 ⟨rfl, rfl⟩
            go_wp2_with fail
            refine (HR.out).mono ?_
            rintro e w7 ⟨rfl, D7, T7⟩
            have HB7 := hid' (hb.out.trans ((Tri.below (Below.refl B w6) T7 h1sb (Nat.le_refl B) h1cb hs).mono hwB))
            clear D7 T7
            go_wp2
            go_ret
            exact ⟨rfl, HB7.out⟩
        · have e0 : dnN n t = true := by unfold dnN; simp; omega
          have e2 : opsN n t = n := by unfold opsN; split <;> (try split) <;> omega
          have hmin : min (t : Int) (n : Int) = (n : Int) := by omega
          have c2 : ¬ ((t : Int) < (n : Int)) := by omega
          have hD' := hD.out
          rw [e0] at hD'
          have HRi := hid' (rise_none hD' (fun _ => rfl) (by omega))
          rw [e2] at HO
          clear hD hD' e0 e2 b1 hn0
          go_wp2_with fail
          refine (HO.out).mono ?_
          rintro e w5 ⟨rfl, rfl⟩
          go_wp2_with fail
          refine (HRi.out).mono ?_
          rintro e w6 ⟨rfl, D6, T6⟩
          have HR := hid' (read_up D6 b0.1 b0.2 (by decide) (by decide) (by decide) nmA (by decide) ⟨#[120]⟩ true fileA_at)
          have T56 := Tri.below (Below.refl B w5) T6 h1sb (Nat.le_refl B) h1cb hs
          have HB6 := hid' (hb.out.trans (T56.mono hwB))
          have s6 : B ≤ w6.heap.size := Nat.le_trans hs T56.size
          clear D6 T6 T56 b0
          unfold nmA at HR
          go_wp2_with fail
          refine (HR.out).mono ?_
          rintro e w7 ⟨rfl, D7, T7⟩
          have HDn := hid' (down_any D7)
          have HB7 := hid' (HB6.out.trans ((Tri.below (Below.refl B w6) T7 h1sb (Nat.le_refl B) h1cb s6).mono hwB))
          clear D7 T7
          go_wp2_with fail
          refine (HDn.out).mono ?_
          rintro e w8 ⟨rfl, rfl⟩
          go_wp2
          go_ret
          exact ⟨rfl, HB7.out⟩
end Go.Proofs.YtahaienalidiiaaDoor
