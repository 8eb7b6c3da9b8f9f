/- What saysRight and (*former).sortOf answer, for names, sums, expressions and blocks. Conditions: short texts; the words lie in their variable. -/
import Derived.Test.YtnjbhcjdlbmmhaaDoorAstMem
namespace Go.Proofs.YtnjbhcjdlbmmhaaDoor
open Go.RowKit
open Lx Ax

/-- A node by value. -/
def nodeV (x : Nd) (v : Value) : Value := .agg #[.int .i64 x.op, .int .i64 x.n, .int .i64 x.pos, .string x.s, v]
set_option maxRecDepth 10000 in
set_option maxHeartbeats 400000 in
theorem says_any (x : Nd) (v : Value) (w : World) (ho : OpOK x.op) (hs : x.s.size ≤ 1000000) (hw : WordsAt w) :
    Calls Tryd.prog 27 #[nodeV x v] w fun e w' => e = .returned (.bool (saysF x)) ∧ Below w.heap.size w w' := by
  obtain ⟨op, num, pos, s, kids⟩ := x
  have hN := hid' (fun W (h : WordsAt W) => lexName_any s hs W h)
  have HW := hid' (hw.below ((Below.refl w.heap.size w).alloc (Nat.le_refl _) (.cells #[.int .i64 6, .int .i64 num, .int .i64 pos, .string s, v] 27)))
  clear hw
  unfold nodeV saysF
  simp only at ho hs ⊢
  rcases ho with rfl | rfl | rfl | rfl
  · rw [if_pos rfl]
    generalize nameB s.data.toList = nb at hN ⊢
    go_enter Tryd.func27, Tryd.ntmps27
    go_wp2_with fail
    refine (hN.out _ HW.out).mono ?_
    rintro e w2 ⟨rfl, rfl⟩
    go_wp2
    go_ret
    exact ⟨rfl, (Below.refl _ _).alloc (Nat.le_refl _) _⟩
  all_goals
    rw [if_neg (by decide), ← ByteArray.toList_eq]
    go_enter Tryd.func27, Tryd.ntmps27
    go_wp2
    go_ret
    exact ⟨by first | rfl | exact ret_bool' (by cases s.toList <;> simp), (Below.refl _ _).alloc (Nat.le_refl _) _⟩
set_option maxRecDepth 10000 in
set_option maxHeartbeats 400000 in
theorem sortOf_any (p : Value) (x : Nd) (v : Value) (w : World) (ho : OpOK x.op) :
    Calls Tryd.prog 29 #[p, nodeV x v] w fun e w' => e = .returned (.int .u16 (sortN x.op)) ∧ Below w.heap.size w w' := by
  obtain ⟨op, num, pos, s, kids⟩ := x
  unfold nodeV
  simp only at ho ⊢
  rcases ho with rfl | rfl | rfl | rfl
  all_goals
    go_enter Tryd.func29, Tryd.ntmps29
    go_wp2
    go_ret
    exact ⟨rfl, (Below.refl _ _).alloc (Nat.le_refl _) _⟩
end Go.Proofs.YtnjbhcjdlbmmhaaDoor
