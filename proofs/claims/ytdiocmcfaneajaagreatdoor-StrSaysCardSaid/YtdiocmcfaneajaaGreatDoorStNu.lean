/- What smithyworld.Number answers; texts put behind one another. No conditions. -/
import Derived.Test.YtdiocmcfaneajaaGreatDoorStD
namespace Go.Proofs.YtdiocmcfaneajaaGreatDoor
open Go.RowKit
open Lx
namespace St

theorem number_still (z : Int) (m : Nat) (h1 : 1 ≤ m) (h2 : m ≤ 1000) : ∃ q : Nat, q < m ∧ ∀ W, Calls Tryz.prog 32 #[.int .i64 z, .int .i64 (m : Int)] W fun e w' => e = .returned (.int .i64 (q : Int)) ∧ w' = W := by
  have e1 := Int.tmod_lt_of_pos z (show (0 : Int) < m by omega)
  have e2 := Int.tmod_lt_of_pos (-z) (show (0 : Int) < m by omega)
  rw [Int.neg_tmod] at e2
  obtain ⟨r, hr⟩ : ∃ r, z.tmod (m : Int) = r := ⟨_, rfl⟩
  rw [hr] at e1 e2
  have e3 := Int.tmod_eq_emod_of_nonneg (a := r + (m : Int)) (b := (m : Int)) (by omega)
  have e4 := Int.emod_nonneg (r + (m : Int)) (show (m : Int) ≠ 0 by omega)
  have e5 := Int.emod_lt_of_pos (r + (m : Int)) (show (0 : Int) < m by omega)
  obtain ⟨q, hq⟩ : ∃ q : Nat, (r + (m : Int)) % (m : Int) = (q : Int) := ⟨((r + (m : Int)) % (m : Int)).toNat, by omega⟩
  have hm0 : ¬ ((m : Int) = 0) := by omega
  have hw : IntKind.i64.wrap (r + (m : Int)) = r + (m : Int) := by rw [IntKind.wrap_i64]; omega
  have hq' : (r + (m : Int)).tmod (m : Int) = (q : Int) := by rw [e3, hq]
  have hqm : q < m := by omega
  refine ⟨q, hqm, fun W => ?_⟩
  clear e3 e4 e5 hq hqm
  go_enter Tryz.func32, Tryz.ntmps32
  go_wp2
  go_ret
  exact ⟨rfl, rfl⟩
theorem number_any (z : Int) (m : Nat) (h1 : 1 ≤ m) (h2 : m ≤ 1000) (w : World) : ∃ q : Nat, q < m ∧ Ans 32 #[.int .i64 z, .int .i64 (m : Int)] (.int .i64 (q : Int)) w := by
  obtain ⟨q, h3, h4⟩ := number_still z m h1 h2
  exact ⟨q, h3, Ans.still fun W _ => h4 W⟩
theorem text_add (a b : ByteArray) (h : a.size + b.size ≤ 1000000) (W : World) : (binOp .add 9 (.string a) (.string b)).run Tryz.prog W = .ok (.string (a ++ b)) W := by
  have h1 : (a.size : Int) + (b.size : Int) ≤ 1000000 := by omega
  go_simp
  omega
theorem app_data (a b : ByteArray) : (a ++ b).data.toList = a.data.toList ++ b.data.toList := by rw [ByteArray.data_append, Array.toList_append]
end St
end Go.Proofs.YtdiocmcfaneajaaGreatDoor
