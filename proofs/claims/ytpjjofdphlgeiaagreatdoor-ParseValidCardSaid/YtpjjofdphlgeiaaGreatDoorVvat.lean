/- Parts of the proof, together. What saysRight and (*former).sortOf answer, of whatever Op. Conditions: short texts; the words lie in their variable; the kids lie ahead. -/
import Derived.Test.YtpjjofdphlgeiaaGreatDoorVvaq
import Derived.Test.YtpjjofdphlgeiaaGreatDoorVvas
namespace Go.Proofs.YtpjjofdphlgeiaaGreatDoor
open Go.RowKit
open Lx Ax Ay

/-- A node by value. -/
def nodeW (x : Nd) (v : Value) : Value := .agg #[.int .i64 x.op, .int .i64 x.n, .int .i64 x.pos, .string x.s, v]
set_option maxRecDepth 10000 in
set_option maxHeartbeats 1600000 in
theorem says_all (x : Nd) (v : Value) (w : World) (ho : OpK x.op) (hs : x.s.size ≤ 1000000) (hw : WordsAt w) :
    Calls Tryz.prog 38 #[nodeW x v] w fun e w' => e = .returned (.bool (saysG x)) ∧ Below w.heap.size w w' := by
  obtain ⟨op, num, pos, s, kids⟩ := x
  have hN := hid' (fun W (h : WordsAt W) => lexName_any s hs W h)
  have hM := hid' (fun W => isNumber_any s hs W)
  have HW := hid' (hw.below ((Below.refl w.heap.size w).alloc (Nat.le_refl _) (.cells #[.int .i64 op, .int .i64 num, .int .i64 pos, .string s, v] 32)))
  clear hw
  unfold nodeW saysG
  simp only at ho hs ⊢
  by_cases h1 : op = 5 ∨ op = 42
  · rw [if_pos h1]
    clear hN hM HW
    rcases h1 with rfl | rfl
    all_goals
      go_enter Tryz.func38, Tryz.ntmps38
      go_wp2
      go_ret
      exact ⟨rfl, (Below.refl _ _).alloc (Nat.le_refl _) _⟩
  rw [if_neg h1]
  by_cases h2 : op = 4
  · rw [if_pos h2]
    generalize numB s.data.toList = nb at hM ⊢
    clear hN HW h1
    subst h2
    go_enter Tryz.func38, Tryz.ntmps38
    go_wp2_with fail
    refine (hM.out _).mono ?_
    rintro e w2 ⟨rfl, rfl⟩
    go_wp2
    go_ret
    exact ⟨rfl, (Below.refl _ _).alloc (Nat.le_refl _) _⟩
  rw [if_neg h2]
  by_cases h3 : op = 6 ∨ op = 11 ∨ op = 12 ∨ op = 45 ∨ op = 46
  · rw [if_pos h3]
    generalize nameB s.data.toList = nb at hN ⊢
    clear hM h1 h2
    rcases h3 with rfl | rfl | rfl | rfl | rfl
    all_goals
      go_enter Tryz.func38, Tryz.ntmps38
      go_wp2_with fail
      refine (hN.out _ HW.out).mono ?_
      rintro e w2 ⟨rfl, rfl⟩
      go_wp2
      go_ret
      exact ⟨rfl, (Below.refl _ _).alloc (Nat.le_refl _) _⟩
  rw [if_neg h3, ← ByteArray.toList_eq]
  clear hN hM HW
  rcases ho.each with h | h | h
  · rcases h with rfl | rfl | rfl | rfl | rfl | rfl | rfl | rfl | rfl | rfl | rfl | rfl | rfl | rfl | rfl | rfl
    all_goals
      first | (exact absurd rfl h2) | (exfalso; revert h1; decide) | (exfalso; revert h3; decide) | (
        clear h1 h2 h3 ho
        go_enter Tryz.func38, Tryz.ntmps38
        go_wp2
        go_ret
        exact ⟨by first | rfl | exact ret_bool' (by cases s.toList <;> simp), (Below.refl _ _).alloc (Nat.le_refl _) _⟩)
  · rcases h with rfl | rfl | rfl | rfl | rfl | rfl | rfl | rfl | rfl | rfl | rfl | rfl | rfl | rfl | rfl | rfl
    all_goals
      first | (exact absurd rfl h2) | (exfalso; revert h1; decide) | (exfalso; revert h3; decide) | (
        clear h1 h2 h3 ho
        go_enter Tryz.func38, Tryz.ntmps38
        go_wp2
        go_ret
        exact ⟨by first | rfl | exact ret_bool' (by cases s.toList <;> simp), (Below.refl _ _).alloc (Nat.le_refl _) _⟩)
  · rcases h with rfl | rfl | rfl | rfl | rfl | rfl | rfl | rfl | rfl | rfl | rfl | rfl | rfl | rfl | rfl
    all_goals
      first | (exact absurd rfl h2) | (exfalso; revert h1; decide) | (exfalso; revert h3; decide) | (
        clear h1 h2 h3 ho
        go_enter Tryz.func38, Tryz.ntmps38
        go_wp2
        go_ret
        exact ⟨by first | rfl | exact ret_bool' (by cases s.toList <;> simp), (Below.refl _ _).alloc (Nat.le_refl _) _⟩)
end Go.Proofs.YtpjjofdphlgeiaaGreatDoor
