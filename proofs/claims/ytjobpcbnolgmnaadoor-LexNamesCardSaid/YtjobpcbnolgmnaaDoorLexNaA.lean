/- Which byte is a letter or a digit, and which words are words, as the law's own words tell; the list of words. Conditions: the words lie in their variable. -/
import Derived.Test.YtjobpcbnolgmnaaDoorLexWord
import Derived.Test.YtjobpcbnolgmnaaDoorAmong
namespace Go.Proofs.YtjobpcbnolgmnaaDoor
open Go.RowKit
open Lx

theorem refDigit_tells : Tells 30 dg := fun b w => by
  have HR := hid' (dg_iff b)
  generalize dg b = r at HR ⊢
  generalize (b.toNat : Int) = n at HR ⊢
  have hcases : n < 48 ∨ (48 ≤ n ∧ n ≤ 57) ∨ (48 ≤ n ∧ 57 < n) := by omega
  rcases hcases with h | ⟨h, h2⟩ | ⟨h, h2⟩
  · have h3 : ¬ 48 ≤ n := by omega
    go_enter Tryd.func30, Tryd.ntmps30
    go_wp2
    go_ret
    exact ⟨ret_bool' (by rw [HR.out]; first | rfl | exact (decide_eq_true (by omega)).symm | exact (decide_eq_false (by omega)).symm), rfl⟩
  · have h3 := h
    go_enter Tryd.func30, Tryd.ntmps30
    go_wp2
    go_ret
    exact ⟨ret_bool' (by rw [HR.out]; first | rfl | exact (decide_eq_true (by omega)).symm | exact (decide_eq_false (by omega)).symm), rfl⟩
  · have h3 : ¬ n ≤ 57 := by omega
    go_enter Tryd.func30, Tryd.ntmps30
    go_wp2
    go_ret
    exact ⟨ret_bool' (by rw [HR.out]; first | rfl | exact (decide_eq_true (by omega)).symm | exact (decide_eq_false (by omega)).symm), rfl⟩
theorem refLetter_tells : Tells 29 lt := fun b w => by
  have HR := hid' (lt_iff b)
  generalize lt b = r at HR ⊢
  generalize (b.toNat : Int) = n at HR ⊢
  have hcases : n < 65 ∨ (65 ≤ n ∧ n ≤ 90) ∨ (90 < n ∧ n < 97 ∧ n ≠ 95) ∨ n = 95 ∨ (97 ≤ n ∧ n ≤ 122) ∨ 122 < n := by omega
  rcases hcases with h | ⟨h, h2⟩ | ⟨h, h2, h3⟩ | rfl | ⟨h, h2⟩ | h
  · have h4 : (n == 95) = false := by rw [beq_eq_false_iff_ne]; omega
    have h5 : ¬ 65 ≤ n := by omega
    have h6 : ¬ 97 ≤ n := by omega
    go_enter Tryd.func29, Tryd.ntmps29
    go_wp2
    go_ret
    exact ⟨ret_bool' (by rw [HR.out]; first | rfl | exact (decide_eq_true (by omega)).symm | exact (decide_eq_false (by omega)).symm), rfl⟩
  · have h6 : ¬ 97 ≤ n := by omega
    go_enter Tryd.func29, Tryd.ntmps29
    go_wp2
    go_ret
    exact ⟨ret_bool' (by rw [HR.out]; first | rfl | exact (decide_eq_true (by omega)).symm | exact (decide_eq_false (by omega)).symm), rfl⟩
  · have h4 : (n == 95) = false := by rw [beq_eq_false_iff_ne]; omega
    have h5 : 65 ≤ n := by omega
    have h6 : ¬ 97 ≤ n := by omega
    have h7 : ¬ n ≤ 90 := by omega
    go_enter Tryd.func29, Tryd.ntmps29
    go_wp2
    go_ret
    exact ⟨ret_bool' (by rw [HR.out]; first | rfl | exact (decide_eq_true (by omega)).symm | exact (decide_eq_false (by omega)).symm), rfl⟩
  · go_enter Tryd.func29, Tryd.ntmps29
    go_wp2
    go_ret
    exact ⟨ret_bool' (by rw [HR.out]; first | rfl | exact (decide_eq_true (by omega)).symm | exact (decide_eq_false (by omega)).symm), rfl⟩
  · have h5 : 65 ≤ n := by omega
    go_enter Tryd.func29, Tryd.ntmps29
    go_wp2
    go_ret
    exact ⟨ret_bool' (by rw [HR.out]; first | rfl | exact (decide_eq_true (by omega)).symm | exact (decide_eq_false (by omega)).symm), rfl⟩
  · have h4 : (n == 95) = false := by rw [beq_eq_false_iff_ne]; omega
    have h5 : 65 ≤ n := by omega
    have h6 : 97 ≤ n := by omega
    have h7 : ¬ n ≤ 90 := by omega
    have h8 : ¬ n ≤ 122 := by omega
    go_enter Tryd.func29, Tryd.ntmps29
    go_wp2
    go_ret
    exact ⟨ret_bool' (by rw [HR.out]; first | rfl | exact (decide_eq_true (by omega)).symm | exact (decide_eq_false (by omega)).symm), rfl⟩
/-- The words, as texts. -/
def wordsT : List ByteArray := words.map txt
theorem refWords_any (w : World) : Calls Tryd.prog 21 #[] w fun e w' => ∃ ao c, e = .returned (.slice ao wordsT.length c) ∧ Txs w' ao wordsT ∧ Below w.heap.size w w' := by
  go_enter Tryd.func21, Tryd.ntmps21
  go_wp2
  go_ret
  refine ⟨_, 17, rfl, .inr ⟨w.heap.size, 0, rfl, by simp, fun j x hx => ?_⟩, (Below.refl _ _).alloc (Nat.le_refl _) _⟩
  rw [cell_of_row _ w.heap.size (0 + j) _ _ _ (heap_alloc_new w _), Nat.zero_add]
  have h1 : (wordsT.map Value.string)[j]? = some (.string x) := by rw [List.getElem?_map, hx]; rfl
  show (wordsT.map Value.string).toArray[j]? = some (.string x)
  rw [List.getElem?_toArray]
  exact h1
end Go.Proofs.YtjobpcbnolgmnaaDoor
