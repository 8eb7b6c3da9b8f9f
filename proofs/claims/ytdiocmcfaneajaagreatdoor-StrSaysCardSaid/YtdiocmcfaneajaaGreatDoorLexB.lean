/- Of which sort a byte is, as the program tells. No conditions. -/
import Derived.Test.YtdiocmcfaneajaaGreatDoorLexF
import Derived.Test.YtdiocmcfaneajaaGreatDoorErr
namespace Go.Proofs.YtdiocmcfaneajaaGreatDoor
open Go.RowKit
open Lx

def bv (b : UInt8) : Value := .int .u8 (b.toNat : Int)
theorem sp_iff (b : UInt8) : sp b = decide ((b.toNat : Int) = 32) := by
  unfold sp; rw [Bool.eq_iff_iff]; simp [← UInt8.toNat_inj]; omega
theorem dg_iff (b : UInt8) : dg b = decide (48 ≤ (b.toNat : Int) ∧ (b.toNat : Int) ≤ 57) := by
  unfold dg; rw [Bool.eq_iff_iff]; simp [UInt8.le_iff_toNat_le]; omega
theorem lt_iff (b : UInt8) : lt b = decide ((65 ≤ (b.toNat : Int) ∧ (b.toNat : Int) ≤ 90) ∨ (97 ≤ (b.toNat : Int) ∧ (b.toNat : Int) ≤ 122) ∨ (b.toNat : Int) = 95) := by
  unfold lt; rw [Bool.eq_iff_iff]; simp [UInt8.le_iff_toNat_le, ← UInt8.toNat_inj]; omega
theorem tb_iff (b : UInt8) : tb b = decide (32 ≤ (b.toNat : Int) ∧ (b.toNat : Int) ≠ 127) := by
  unfold tb; rw [Bool.eq_iff_iff]; simp [UInt8.le_iff_toNat_le, ← UInt8.toNat_inj]; omega
theorem byte_lt (b : UInt8) : (b.toNat : Int) < 256 := by have := b.toNat_lt; omega
def Tells (P : FuncId) (p : UInt8 → Bool) : Prop := ∀ (b : UInt8) (w : World), Calls Tryz.prog P #[.int .u8 (b.toNat : Int)] w fun e w' => e = .returned (.bool (p b)) ∧ w' = w
theorem isDigit_tells : Tells 98 dg := fun b w => by
  have HR := hid' (dg_iff b)
  generalize dg b = r at HR ⊢
  generalize (b.toNat : Int) = n at HR ⊢
  by_cases h1 : 48 ≤ n
  · by_cases h2 : n ≤ 57
    · go_enter Tryz.func98, Tryz.ntmps98
      go_wp2
      go_ret
      exact ⟨ret_bool' (by rw [HR.out]; first | rfl | exact (decide_eq_true (by omega)).symm | exact (decide_eq_false (by omega)).symm), rfl⟩
    · go_enter Tryz.func98, Tryz.ntmps98
      go_wp2
      go_ret
      exact ⟨ret_bool' (by rw [HR.out]; first | rfl | exact (decide_eq_true (by omega)).symm | exact (decide_eq_false (by omega)).symm), rfl⟩
  · have h1' : n < 48 := by omega
    go_enter Tryz.func98, Tryz.ntmps98
    go_wp2
    go_ret
    exact ⟨ret_bool' (by rw [HR.out]; first | rfl | exact (decide_eq_true (by omega)).symm | exact (decide_eq_false (by omega)).symm), rfl⟩
set_option maxHeartbeats 800000 in
theorem isLetter_tells : Tells 109 lt := fun b w => by
  have HR := hid' (lt_iff b)
  generalize lt b = r at HR ⊢
  generalize (b.toNat : Int) = n at HR ⊢
  have hcases : n < 65 ∨ (65 ≤ n ∧ n ≤ 90) ∨ (90 < n ∧ n < 97 ∧ n ≠ 95) ∨ n = 95 ∨ (97 ≤ n ∧ n ≤ 122) ∨ 122 < n := by omega
  rcases hcases with h | ⟨h, h2⟩ | ⟨h, h2, h3⟩ | rfl | ⟨h, h2⟩ | h
  · have h4 : (n == 95) = false := by rw [beq_eq_false_iff_ne]; omega
    have h5 : ¬ 65 ≤ n := by omega
    have h6 : ¬ 97 ≤ n := by omega
    have h7 : n ≠ 95 := by omega
    go_enter Tryz.func109, Tryz.ntmps109
    go_wp2
    go_ret
    exact ⟨ret_bool' (by rw [HR.out]; first | rfl | exact (decide_eq_true (by omega)).symm | exact (decide_eq_false (by omega)).symm), rfl⟩
  · go_enter Tryz.func109, Tryz.ntmps109
    go_wp2
    go_ret
    exact ⟨ret_bool' (by rw [HR.out]; first | rfl | exact (decide_eq_true (by omega)).symm | exact (decide_eq_false (by omega)).symm), rfl⟩
  · have h4 : (n == 95) = false := by rw [beq_eq_false_iff_ne]; omega
    have h5 : 65 ≤ n := by omega
    have h6 : ¬ 97 ≤ n := by omega
    have h7 : ¬ n ≤ 90 := by omega
    go_enter Tryz.func109, Tryz.ntmps109
    go_wp2
    go_ret
    exact ⟨ret_bool' (by rw [HR.out]; first | rfl | exact (decide_eq_true (by omega)).symm | exact (decide_eq_false (by omega)).symm), rfl⟩
  · go_enter Tryz.func109, Tryz.ntmps109
    go_wp2
    go_ret
    exact ⟨ret_bool' (by rw [HR.out]; first | rfl | exact (decide_eq_true (by omega)).symm | exact (decide_eq_false (by omega)).symm), rfl⟩
  · have h5 : 65 ≤ n := by omega
    have h7 : ¬ n ≤ 90 := by omega
    go_enter Tryz.func109, Tryz.ntmps109
    go_wp2
    go_ret
    exact ⟨ret_bool' (by rw [HR.out]; first | rfl | exact (decide_eq_true (by omega)).symm | exact (decide_eq_false (by omega)).symm), rfl⟩
  · have h4 : (n == 95) = false := by rw [beq_eq_false_iff_ne]; omega
    have h5 : 65 ≤ n := by omega
    have h6 : 97 ≤ n := by omega
    have h7 : ¬ n ≤ 90 := by omega
    have h8 : ¬ n ≤ 122 := by omega
    have h9 : n ≠ 95 := by omega
    go_enter Tryz.func109, Tryz.ntmps109
    go_wp2
    go_ret
    exact ⟨ret_bool' (by rw [HR.out]; first | rfl | exact (decide_eq_true (by omega)).symm | exact (decide_eq_false (by omega)).symm), rfl⟩
theorem isNameByte_tells : Tells 100 nb := fun b w => by
  have H1 := hid' (isLetter_tells b w)
  have H2 := hid' (isDigit_tells b w)
  unfold nb
  cases hl : lt b with
  | true =>
    rw [hl] at H1
    go_enter Tryz.func100, Tryz.ntmps100
    go_wp2_with (go_at_call 109; refine (H1.out).mono ?_; rintro e w1 ⟨rfl, rfl⟩)
    go_ret
    exact ⟨rfl, rfl⟩
  | false =>
    rw [hl] at H1
    go_enter Tryz.func100, Tryz.ntmps100
    go_wp2_with (first | (go_at_call 109; refine (H1.out).mono ?_; rintro e w1 ⟨rfl, rfl⟩) | (go_at_call 98; refine (H2.out).mono ?_; rintro e w1 ⟨rfl, rfl⟩))
    go_ret
    exact ⟨rfl, rfl⟩
end Go.Proofs.YtdiocmcfaneajaaGreatDoor
