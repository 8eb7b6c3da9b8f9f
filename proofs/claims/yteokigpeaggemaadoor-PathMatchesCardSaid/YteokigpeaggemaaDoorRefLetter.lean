/- What smithyref1.letter answers at every byte. Conditions: none. -/
import Derived.Test.YteokigpeaggemaaDoorRefParts
namespace Go.Proofs.YteokigpeaggemaaDoor
open Go.RowKit

def isLetter (n : Nat) : Prop := (97 ≤ n ∧ n ≤ 122) ∨ (65 ≤ n ∧ n ≤ 90) ∨ (48 ≤ n ∧ n ≤ 57) ∨ n = 33 ∨ n = 35 ∨ n = 37 ∨ n = 43 ∨ n = 44 ∨ n = 45 ∨ n = 46 ∨ n = 61 ∨ n = 64 ∨ n = 95 ∨ n = 126
instance (n : Nat) : Decidable (isLetter n) := by unfold isLetter; infer_instance
theorem letter_all : ∀ v : BitVec 8, Pth.byteOK ⟨v⟩ = decide (isLetter (UInt8.toNat ⟨v⟩)) := by decide +kernel
theorem letter_num (b : UInt8) : Pth.byteOK b = decide (isLetter b.toNat) := letter_all b.toBitVec

set_option maxRecDepth 100000 in
set_option maxHeartbeats 4000000 in
theorem letter_any (b : UInt8) (w : World) :
    Calls Tryd.prog 61 #[.int .u8 (b.toNat : Int)] w fun e w' => e = .returned (.bool (Pth.byteOK b)) ∧ w = w' := by
  have hl := Lib.hid (letter_num b)
  rcases (show (97 ≤ (b.toNat : Int) ∧ (b.toNat : Int) ≤ 122) ∨ (65 ≤ (b.toNat : Int) ∧ (b.toNat : Int) ≤ 90) ∨ (48 ≤ (b.toNat : Int) ∧ (b.toNat : Int) ≤ 57) ∨ (b.toNat : Int) = 33 ∨ (b.toNat : Int) = 35 ∨ (b.toNat : Int) = 37 ∨ (b.toNat : Int) = 43 ∨ (b.toNat : Int) = 44 ∨ (b.toNat : Int) = 45 ∨ (b.toNat : Int) = 46 ∨ (b.toNat : Int) = 61 ∨ (b.toNat : Int) = 64 ∨ (b.toNat : Int) = 95 ∨ (b.toNat : Int) = 126 ∨
    ((b.toNat : Int) < 48 ∧ (b.toNat : Int) ≠ 33 ∧ (b.toNat : Int) ≠ 35 ∧ (b.toNat : Int) ≠ 37 ∧ (b.toNat : Int) ≠ 43 ∧ (b.toNat : Int) ≠ 44 ∧ (b.toNat : Int) ≠ 45 ∧ (b.toNat : Int) ≠ 46) ∨ (58 ≤ (b.toNat : Int) ∧ (b.toNat : Int) < 65 ∧ (b.toNat : Int) ≠ 61 ∧ (b.toNat : Int) ≠ 64) ∨ (91 ≤ (b.toNat : Int) ∧ (b.toNat : Int) < 97 ∧ (b.toNat : Int) ≠ 95) ∨ (123 ≤ (b.toNat : Int) ∧ (b.toNat : Int) ≠ 126) from by omega) with h | h | h | h | h | h | h | h | h | h | h | h | h | h | h | h | h | h
  all_goals
    go_enter Tryd.func61, Tryd.ntmps61
    go_wp2
    all_goals go_ret
    all_goals refine ⟨ret_bool ?_, rfl⟩
    all_goals rw [hl.out]
    all_goals first
      | exact (decide_eq_true (p := isLetter b.toNat) (by unfold isLetter; omega)).symm
      | (rw [decide_eq_false (p := isLetter b.toNat) (by unfold isLetter; omega)]; first | rfl | (simp only [Bool.or_eq_false_iff, beq_eq_false_iff_ne, decide_eq_false_iff_not]; omega))

end Go.Proofs.YteokigpeaggemaaDoor
