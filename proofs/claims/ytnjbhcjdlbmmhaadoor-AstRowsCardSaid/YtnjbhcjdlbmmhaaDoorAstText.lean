/- An append of one text onto a list of the call's own, with all else as it was. Conditions: short lists. -/
import Derived.Test.YtnjbhcjdlbmmhaaDoorAstNames
namespace Go.Proofs.YtnjbhcjdlbmmhaaDoor
open Go.RowKit
open Lx Ax

theorem text_plain {ops : Array Oper} {rest : List Oper} {o : Oper} {a : Act} {Q : Exit → Act → World → Prop} {W : World} {B : Nat} {v : Value} {xs : List ByteArray} (h : Tx.Owned W B v xs) (s : ByteArray) (m : Nat) (hm : m = xs.length + 1) (hB : B ≤ W.heap.size) (hl : xs.length < 1000000) (hgd : o.guard = none) (x y : Operand)
    (ho : o.op = .call { callee := .builtin .append, args := #[x, y], argTypes := #[38, 38] }) (hx : a.eval x = v) (hy : a.eval y = .slice (some ⟨W.heap.size, 0, none⟩) 1 1)
    (hK : ∀ g cap w', Tx.Owned w' B (.slice (some ⟨g, 0, none⟩) m cap) (xs ++ [s]) → Below B W w' → (∀ k, k < W.heap.size → v.ownBlock ≠ some k → w'.heap[k]? = W.heap[k]?) → W.heap.size + 1 ≤ w'.heap.size →
      wpList Tryd.prog ops Q rest (a.put o.dst (.slice (some ⟨g, 0, none⟩) m cap)) w') : wpList Tryd.prog ops Q (o :: rest) a (W.alloc (.cells #[.string s] 9)) := by
  subst hm
  refine wpList_plain hgd fun K hKK => ?_
  obtain ⟨i0, hi, hz0, hz1, hz2⟩ := info_parts Tx.info_text
  obtain ⟨u, w', hr, h1, h2, _, _⟩ := run_append_own_at (P := Tryd.prog) (W.alloc (.cells #[.string s] 9)) B 38 o.type 9 i0 _ 1 16 Tryd.underlying38 hi hz0 hz1 hz2 rfl (by decide) v xs.length (xs.map Value.string)
    (World.ownsRow.alloc h _) ⟨W.heap.size, 0, none⟩ 1 1 [.string s] rfl (cell_one_new W _ _) (fun u hu => by simp at hu; subst hu; rfl) (by unfold maxLen; omega) (by omega) (by simp; omega)
  have hb : ∀ j, j < W.heap.size → v.ownBlock ≠ some j → w'.heap[j]? = W.heap[j]? := fun j hj hne => (h2.block j (by simp; omega) (Ne.symm hne)).trans (Below.heap_alloc W _ j hj)
  have h1' : Tx.Owned w' B u (xs ++ [s]) := by unfold Tx.Owned; rw [List.length_append, List.map_append]; exact h1
  obtain ⟨g, cap, e, _⟩ := own_some h1' (by simp)
  subst e
  rw [List.length_append, List.length_singleton] at h1' hr
  have hsz := h2.size
  simp only [World.size_alloc] at hsz
  unfold Oper.wp execOp
  simp only [ho, resolve, invoke, builtin, Sem.run_bind, Sem.run_pure, Result.andThen_ok, List.map_toArray, List.map_cons, List.map_nil, hx, hy, hr]
  exact hKK _ _ (hK g _ w' h1' (((Below.refl B W).alloc hB _).grown h2 (by simp; omega) fun j hj => (h.lt j hj).1) hb hsz)
theorem kid_one {W : World} {B : Nat} {x : Nd} {v : Value} (h : OwnZ W B v x.kids) : ∀ (j : Nat) y u, [x][j]? = some y → [v][j]? = some u → OwnZ W B u y.kids := fun j y u hy hu => by
  match j, hy, hu with
  | 0, hy, hu => simp at hy hu; subst hy hu; exact h
  | j + 1, hy, hu => simp at hy
theorem few_one {x : Nd} (h : x.kids.length ≤ 1048576) : ∀ y ∈ [x], y.kids.length ≤ 1048576 := fun y hy => by
  obtain rfl : y = x := by simpa using hy
  exact h
theorem apart_nil {vs : List Value} (h : Apart vs) : Apart (vs ++ [Value.slice none 0 0]) := Apart.more h fun j u _ q _ e => by simp [Value.ownBlock] at e
/-- A new block's number is no older kid's. -/
theorem Tr.apart_new {W : World} {B : Nat} {vl : Value} {l : List Nd} {vs : List Value} (h : Tr W B vl l vs) (n cap : Nat) : Apart (vs ++ [.slice (some ⟨W.heap.size, 0, none⟩) n cap]) := Apart.more h.apart fun j u hu q hq e => by
  simp only [Value.ownBlock, Option.some.injEq] at e
  subst e
  have hj := (List.getElem?_eq_some_iff.1 hu).1
  have := ((h.kid j _ u (List.getElem?_eq_getElem (by rw [← h.len]; exact hj)) hu).lt _ hq).2
  omega
end Go.Proofs.YtnjbhcjdlbmmhaaDoor
