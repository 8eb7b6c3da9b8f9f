/- Nines, and one with noughts behind: pure; for NumDigits. No conditions but those that each states. -/
import Derived.Test.YtapdkibiegeijaaDoorNumDg
namespace Go.Proofs.YtapdkibiegeijaaDoor
namespace Nm
open Go.Lib

theorem nines_nv (n : Nat) : nv (List.replicate n 57) + 1 = 10 ^ n := by
  induction n with
  | zero => rfl
  | succ n ih =>
    rw [List.replicate_succ', nv_snoc, Nat.pow_succ, ← ih]
    have : (57 : UInt8).toNat - 48 = 9 := rfl
    omega
theorem nines_all (n : Nat) : (List.replicate n (57 : UInt8)).all isD = true := List.all_eq_true.2 fun x hx => by
  rw [List.eq_of_mem_replicate hx]; rfl
theorem wr_nines {n : Nat} (h : 0 < n) : wr (List.replicate n 57) = true := by
  obtain ⟨m, rfl⟩ : ∃ m, n = m + 1 := ⟨n - 1, by omega⟩
  unfold wr
  rw [nines_all, List.replicate_succ]
  rfl
theorem says_nines {n : Nat} (h : 0 < n) : says (List.replicate n 57) = some ((10 ^ n - 1 : Nat) : Int) := by
  have hv := nines_nv n
  have hw := wr_nines h
  have hh0 : (List.replicate n (57 : UInt8)).headD 0 ≠ 45 := by
    obtain ⟨m, rfl⟩ : ∃ m, n = m + 1 := ⟨n - 1, by omega⟩
    rw [List.replicate_succ, List.headD_cons]
    decide
  unfold says
  rw [if_neg hh0, if_pos hw, show nv (List.replicate n 57) = 10 ^ n - 1 by omega]
theorem ten_dec (n : Nat) : decDigits (10 ^ n) = 49 :: List.replicate n 48 := by
  induction n with
  | zero => decide +kernel
  | succ n ih =>
    have hp : 1 ≤ 10 ^ n := Nat.one_le_pow _ _ (by decide)
    rw [decDigits, dif_neg (by rw [Nat.pow_succ]; omega), show 10 ^ (n + 1) / 10 = 10 ^ n by rw [Nat.pow_succ]; omega, ih, show 10 ^ (n + 1) % 10 = 0 by rw [Nat.pow_succ]; omega, List.replicate_succ']
    rfl
theorem txt_ten (n : Nat) : txt ((10 ^ n : Nat) : Int) = 49 :: List.replicate n 48 := by
  unfold txt
  rw [if_neg (Int.not_lt.2 (Int.natCast_nonneg _)), Int.natAbs_natCast, ten_dec]
theorem txt_nines {n : Nat} (h : 0 < n) : txt ((10 ^ n - 1 : Nat) : Int) = List.replicate n 57 := (says_txt (says_nines h)).symm
theorem digs_ten (n : Nat) : digs ((10 ^ n : Nat) : Int) = n + 1 := by
  unfold digs
  rw [Int.natAbs_natCast, nD_len, ten_dec, List.length_cons, List.length_replicate]
theorem digs_nines {n : Nat} (h : 0 < n) : digs ((10 ^ n - 1 : Nat) : Int) = n := by
  have e := txt_nines h
  unfold txt at e
  rw [if_neg (Int.not_lt.2 (Int.natCast_nonneg _)), Int.natAbs_natCast] at e
  unfold digs
  rw [Int.natAbs_natCast, nD_len, e, List.length_replicate]
theorem says_led {n : Nat} (h : 0 < n) : says (48 :: List.replicate n 57) = none := by
  obtain ⟨m, rfl⟩ : ∃ m, n = m + 1 := ⟨n - 1, by omega⟩
  have hw : wr (48 :: List.replicate (m + 1) 57) = false := by
    unfold wr
    rw [List.replicate_succ]
    simp
  unfold says
  rw [List.headD_cons, if_neg (by decide), hw]
  rfl
theorem says_minus : says [45, 48] = none := by decide +kernel
end Nm
end Go.Proofs.YtapdkibiegeijaaDoor
