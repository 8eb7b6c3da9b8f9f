/- Lists of whole numbers of the call's own, two beside one another: appends, cuts, reads; and such a list that comes in. Conditions: short lists. -/
import Derived.Test.YtjobpcbnolgmnaaDoorLexInd2
namespace Go.Proofs.YtjobpcbnolgmnaaDoor
open Go.RowKit
open Lx

def OwnI (W : World) (B : Nat) (v : Value) (xs : List Nat) : Prop := W.ownsRow B 3 1 v xs.length (xs.map iv)
theorem OwnI.keep {W W' : World} {B : Nat} {v : Value} {xs : List Nat} (h : OwnI W B v xs) (hk : ∀ k, v.ownBlock = some k → k < W.heap.size → W'.heap[k]? = W.heap[k]?) : OwnI W' B v xs := row_far h hk
theorem OwnI.none (W : World) (B : Nat) : OwnI W B (.slice none 0 0) [] := ⟨rfl, .inl ⟨rfl, rfl⟩⟩
/-- An append of one number in a plain region. -/
theorem int_plain {ops : Array Oper} {rest : List Oper} {o : Oper} {a : Act} {Q : Exit → Act → World → Prop} {W : World} {B : Nat} {v : Value} {xs : List Nat} (h : OwnI W B v xs) (n m : Nat) (z : Int) (hz : z = (n : Int)) (hm : m = xs.length + 1) (hB : B ≤ W.heap.size) (hl : xs.length < 1000000) (hgd : o.guard = none) (x y : Operand)
    (ho : o.op = .call { callee := .builtin .append, args := #[x, y], argTypes := #[42, 42] }) (hx : a.eval x = v) (hy : a.eval y = .slice (some ⟨W.heap.size, 0, none⟩) 1 1)
    (hK : ∀ g cap w', OwnI w' B (.slice (some ⟨g, 0, none⟩) m cap) (xs ++ [n]) → Below B W w' → (∀ k, k < W.heap.size → v.ownBlock ≠ some k → w'.heap[k]? = W.heap[k]?) → ((some g = v.ownBlock) ∨ g = W.heap.size + 1) →
      wpList Tryd.prog ops Q rest (a.put o.dst (.slice (some ⟨g, 0, none⟩) m cap)) w') : wpList Tryd.prog ops Q (o :: rest) a (W.alloc (.cells #[.int .i64 z] 3)) := by
  subst hz hm
  refine wpList_plain hgd fun K hKK => ?_
  obtain ⟨i0, hi, hz0, hz1, hz2⟩ := info_parts info_int
  obtain ⟨u, w', hr, h1, h2, _, h4⟩ := run_append_own_at (P := Tryd.prog) (W.alloc (.cells #[.int .i64 (n : Int)] 3)) B 42 o.type 3 i0 _ 1 8 Tryd.underlying42 hi hz0 hz1 hz2 rfl (by decide) v xs.length (xs.map iv)
    (World.ownsRow.alloc h _) ⟨W.heap.size, 0, none⟩ 1 1 [iv n] rfl (cell_one_new W _ _) (fun u hu => by simp at hu; subst hu; rfl) (by unfold maxLen; omega) (by omega) (by simp; omega)
  have hb : ∀ j, j < W.heap.size → v.ownBlock ≠ some j → w'.heap[j]? = W.heap[j]? := fun j hj hne => (h2.block j (by simp; omega) (Ne.symm hne)).trans (Below.heap_alloc W _ j hj)
  have h1' : OwnI w' B u (xs ++ [n]) := by unfold OwnI; rw [List.length_append, List.map_append]; exact h1
  obtain ⟨g, cap, e, _⟩ := own_some h1' (by simp)
  subst e
  rw [List.length_append, List.length_singleton] at h1' hr h4
  unfold Oper.wp execOp
  simp only [ho, resolve, invoke, builtin, Sem.run_bind, Sem.run_pure, Result.andThen_ok, List.map_toArray, List.map_cons, List.map_nil, hx, hy, hr]
  refine hKK _ _ (hK g _ w' h1' ?_ hb ?_)
  · exact ((Below.refl B W).alloc hB _).grown h2 (by simp; omega) fun j hj => (h.lt j hj).1
  · rcases h4 with h4 | h4
    · exact .inl h4
    · refine .inr ?_
      simp only [Value.ownBlock, Option.some.injEq, World.size_alloc] at h4
      exact h4
/-- Two lists of numbers, apart: the first one told from its end. -/
structure Two (W : World) (B : Nat) (vo : Value) (o : List Nat) (vd : Value) (d : List Nat) : Prop where
  opn : OwnI W B vo o.reverse
  dep : OwnI W B vd d
  apart : ∀ k, vo.ownBlock = some k → vd.ownBlock ≠ some k
section
variable {W W' : World} {B : Nat} {vo vd : Value} {o d : List Nat}
theorem Two.keep (h : Two W B vo o vd d) (hk : ∀ k, B ≤ k → k < W.heap.size → W'.heap[k]? = W.heap[k]?) : Two W' B vo o vd d :=
  ⟨h.opn.keep fun k e hl => hk k (h.opn.lt k e).1 hl, h.dep.keep fun k e hl => hk k (h.dep.lt k e).1 hl, h.apart⟩
theorem Two.pushed (h : Two W B vo o vd d) {g n cap m : Nat} (h1 : OwnI W' B (.slice (some ⟨g, 0, none⟩) m cap) (o.reverse ++ [n])) (hk : ∀ k, k < W.heap.size → vo.ownBlock ≠ some k → W'.heap[k]? = W.heap[k]?) (hu : some g = vo.ownBlock ∨ g = W.heap.size + 1) :
    Two W' B (.slice (some ⟨g, 0, none⟩) m cap) (n :: o) vd d := by
  refine ⟨by rw [List.reverse_cons]; exact h1, h.dep.keep fun k e hl => hk k hl (fun e2 => h.apart k e2 e), fun k e e2 => ?_⟩
  obtain rfl : g = k := by simpa [Value.ownBlock] using e
  rcases hu with hu | hu
  · exact h.apart g hu.symm e2
  · have := (h.dep.lt g e2).2; omega
theorem Two.added (h : Two W B vo o vd d) {g n cap m : Nat} (h1 : OwnI W' B (.slice (some ⟨g, 0, none⟩) m cap) (d ++ [n])) (hk : ∀ k, k < W.heap.size → vd.ownBlock ≠ some k → W'.heap[k]? = W.heap[k]?) (hu : some g = vd.ownBlock ∨ g = W.heap.size + 1) :
    Two W' B vo o (.slice (some ⟨g, 0, none⟩) m cap) (d ++ [n]) := by
  refine ⟨h.opn.keep fun k e hl => hk k hl (h.apart k e), h1, fun k e e2 => ?_⟩
  obtain rfl : g = k := by simpa [Value.ownBlock] using e2
  rcases hu with hu | hu
  · exact h.apart g e hu.symm
  · have := (h.opn.lt g e).2; omega
theorem Two.cut {g n cap : Nat} (h : Two W B (.slice (some ⟨g, 0, none⟩) n cap) o vd d) (j m : Nat) (hj : j ≤ o.length) (hm : m = o.length - j) : Two W B (.slice (some ⟨g, 0, none⟩) m cap) (o.drop j) vd d := by
  have h1 := h.opn
  have hn : n = o.length := by
    obtain ⟨ao, cp, e, _⟩ := own_form h1
    injection e with _ e2 _
    rw [e2, List.length_reverse]
  subst hn
  refine ⟨?_, h.dep, fun k e => h.apart k (by simpa [Value.ownBlock] using e)⟩
  unfold OwnI at h1 ⊢
  rw [List.length_reverse] at h1 ⊢
  have h2 := own_less (m := m) h1 (by omega)
  rw [List.length_drop, ← hm]
  have e : (o.reverse.map iv).take m = (o.drop j).reverse.map iv := by
    rw [← List.map_take, hm, ← List.reverse_drop]
  rw [e] at h2
  exact h2
theorem Two.top {o0 : Nat} (h : Two W B vo (o0 :: o) vd d) : ∃ g cap, vo = .slice (some ⟨g, 0, none⟩) (o.length + 1) cap ∧ o.length + 1 ≤ cap ∧ g < W.heap.size ∧ W.cell? ⟨g, o.length, none⟩ = some (.int .i64 (o0 : Int)) := by
  obtain ⟨g, cap, e, h1, _, h2, h3⟩ := own_some h.opn (by simp)
  rw [List.length_reverse, List.length_cons] at e h1
  refine ⟨g, cap, e, h1, h2, h3 o.length _ ?_⟩
  simp [iv]
end
end Go.Proofs.YtjobpcbnolgmnaaDoor
