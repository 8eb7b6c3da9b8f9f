/- Parts of the proof, together. Lists of numbers and of nodes of the call's own: appends, stores, reads. Conditions: short lists. What stores make of nodes of the call's own. Conditions: short lists. -/
import Derived.Maps.AppendAt
import Derived.Laws.OwnMore
import Derived.Test.YtpjjofdphlgeiaaGreatDoorVvar
import Derived.Test.YtpjjofdphlgeiaaGreatDoorVvab
namespace Go.Proofs.YtpjjofdphlgeiaaGreatDoor
open Go.RowKit
open Lx Ax

theorem own_apart {W : World} {base base' : Nat} {e e' : TypeId} {size size' n n' : Nat} {v v' : Value} {xs xs' : List Value} (h : W.ownsRow base e size v n xs) (h' : W.ownsRow base' e' size' v' n' xs') (hne : e ≠ e') : ∀ k, v.ownBlock = some k → v'.ownBlock ≠ some k := by
  intro k h1 h2
  rcases h.2 with ⟨rfl, _⟩ | ⟨g, cap, cur, rfl, _, hg, _⟩
  · simp [Value.ownBlock] at h1
  · rcases h'.2 with ⟨rfl, _⟩ | ⟨g', cap', cur', rfl, _, hg', _⟩
    · simp [Value.ownBlock] at h2
    · simp only [Value.ownBlock, Option.some.injEq] at h1 h2
      subst h1 h2
      rw [hg] at hg'
      injection hg' with hg'
      injection hg' with _ h3 _
      exact hne h3
/-- Numbers of the call's own. -/
def OwnZ (W : World) (B : Nat) (v : Value) (zs : List Int) : Prop := W.ownsRow B 3 1 v zs.length (nums zs)
theorem OwnZ.keep {W W' : World} {B : Nat} {v : Value} {zs : List Int} (h : OwnZ W B v zs) (hk : ∀ k, v.ownBlock = some k → k < W.heap.size → W'.heap[k]? = W.heap[k]?) : OwnZ W' B v zs := row_far h hk
theorem OwnZ.nil (W : World) (B : Nat) : OwnZ W B (.slice none 0 0) [] := ⟨rfl, .inl ⟨rfl, rfl⟩⟩
theorem OwnZ.kids {W : World} {B : Nat} {v : Value} {zs : List Int} (h : OwnZ W B v zs) (hl : zs.length ≤ 1048576) : KidsAt W.heap.size W v zs := by
  by_cases h0 : zs = []
  · obtain ⟨ao, cap, e, h1⟩ := own_form h
    exact ⟨ao, cap, e, ⟨h1, hl⟩, .inl h0⟩
  · obtain ⟨g, cap, e, h1, _, h3, h4⟩ := own_some h (List.length_pos_iff.2 h0)
    exact ⟨_, cap, e, ⟨h1, hl⟩, .inr ⟨g, 0, rfl, h3, fun j z hz => by rw [Nat.zero_add]; exact h4 j _ (nums_at hz)⟩⟩
/-- A new list, all of it written. -/
theorem OwnZ.lit (W : World) (B : Nat) (hB : B ≤ W.heap.size) (zs : List Int) (hz : zs.length ≤ 1048576) (arr : Array Value) (ha : arr = (nums zs).toArray) : OwnZ (W.alloc (.cells arr 3)) B (.slice (some ⟨W.heap.size, 0, none⟩) zs.length zs.length) zs := by
  subst ha
  have h := World.ownsRow_lit (base := B) (e := 3) (size := 1) W (nums zs).toArray zs.length hB (by unfold maxLen; omega) (by simp [nums])
  exact h
theorem OwnZ.set {W : World} {B : Nat} {g n cap : Nat} {zs : List Int} (h : OwnZ W B (.slice (some ⟨g, 0, none⟩) n cap) zs) (hn : n = zs.length) (j : Nat) (z : Int) : OwnZ (W.setCell ⟨g, j, none⟩ (.int .i64 z)) B (.slice (some ⟨g, 0, none⟩) n cap) (zs.set j z) := by
  subst hn
  have h1 := (World.ownsRow.stored h j (.int .i64 z)).1
  unfold OwnZ
  rw [List.length_set, ← nums_set]
  exact h1
/-- An append of one number in a plain region. -/
theorem num_plain {ops : Array Oper} {rest : List Oper} {o : Oper} {a : Act} {Q : Exit → Act → World → Prop} {W : World} {B : Nat} {v : Value} {xs : List Int} (h : OwnZ W B v xs) (z : Int) (m : Nat) (hm : m = xs.length + 1) (hB : B ≤ W.heap.size) (hl : xs.length < 1000000) (hgd : o.guard = none) (x y : Operand)
    (ho : o.op = .call { callee := .builtin .append, args := #[x, y], argTypes := #[30, 30] }) (hx : a.eval x = v) (hy : a.eval y = .slice (some ⟨W.heap.size, 0, none⟩) 1 1)
    (hK : ∀ g cap w', OwnZ w' B (.slice (some ⟨g, 0, none⟩) m cap) (xs ++ [z]) → Below B W w' → (∀ k, k < W.heap.size → v.ownBlock ≠ some k → w'.heap[k]? = W.heap[k]?) → ((some g = v.ownBlock) ∨ g = W.heap.size + 1) → W.heap.size + 1 ≤ w'.heap.size →
      wpList Tryz.prog ops Q rest (a.put o.dst (.slice (some ⟨g, 0, none⟩) m cap)) w') : wpList Tryz.prog ops Q (o :: rest) a (W.alloc (.cells #[.int .i64 z] 3)) := by
  subst hm
  refine wpList_plain hgd fun K hKK => ?_
  obtain ⟨i0, hi, hz0, hz1, hz2⟩ := info_parts info_num
  obtain ⟨u, w', hr, h1, h2, _, h4⟩ := run_append_own_at (P := Tryz.prog) (W.alloc (.cells #[.int .i64 z] 3)) B 30 o.type 3 i0 _ 1 8 Tryz.underlying30 hi hz0 hz1 hz2 rfl (by decide) v xs.length (nums xs)
    (World.ownsRow.alloc h _) ⟨W.heap.size, 0, none⟩ 1 1 [.int .i64 z] rfl (cell_one_new W _ _) (fun u hu => by simp at hu; subst hu; rfl) (by unfold maxLen; omega) (by omega) (by simp; omega)
  have hb : ∀ j, j < W.heap.size → v.ownBlock ≠ some j → w'.heap[j]? = W.heap[j]? := fun j hj hne => (h2.block j (by simp; omega) (Ne.symm hne)).trans (Below.heap_alloc W _ j hj)
  have h1' : OwnZ w' B u (xs ++ [z]) := by unfold OwnZ nums; rw [List.length_append, List.map_append]; exact h1
  obtain ⟨g, cap, e, _⟩ := own_some h1' (by simp)
  subst e
  rw [List.length_append, List.length_singleton] at h1' hr h4
  have hsz := h2.size
  simp only [World.size_alloc] at hsz
  unfold Oper.wp execOp
  simp only [ho, resolve, invoke, builtin, Sem.run_bind, Sem.run_pure, Result.andThen_ok, List.map_toArray, List.map_cons, List.map_nil, hx, hy, hr]
  refine hKK _ _ (hK g _ w' h1' ?_ hb ?_ hsz)
  · exact ((Below.refl B W).alloc hB _).grown h2 (by simp; omega) fun j hj => (h.lt j hj).1
  · rcases h4 with h4 | h4
    · exact .inl h4
    · refine .inr ?_
      simp only [Value.ownBlock, Option.some.injEq, World.size_alloc] at h4
      exact h4
theorem info_node : (Tryz.prog.info? 32).map (fun i => (i.zero, i.size, i.bytes)) = some (some (.agg #[.int .i64 0, .int .i64 0, .int .i64 0, .string ⟨#[]⟩, .slice none 0 0]), 5, 64) := by kernel_rfl
def nodeC (x : Nd) (v : Value) : List Value := [.int .i64 x.op, .int .i64 x.n, .int .i64 x.pos, .string x.s, v]
def nodesC : List Nd → List Value → List Value
  | x :: l, v :: vs => nodeC x v ++ nodesC l vs
  | _, _ => []
theorem nodesC_append : ∀ (l l' : List Nd) (vs vs' : List Value), vs.length = l.length → nodesC (l ++ l') (vs ++ vs') = nodesC l vs ++ nodesC l' vs'
  | [], _, [], _, _ => rfl
  | [], _, _ :: _, _, h => by simp at h
  | _ :: _, _, [], _, h => by simp at h
  | x :: l, l', v :: vs, vs', h => by
    show nodeC x v ++ nodesC (l ++ l') (vs ++ vs') = (nodeC x v ++ nodesC l vs) ++ nodesC l' vs'
    rw [nodesC_append l l' vs vs' (by simpa using h), List.append_assoc]
theorem nodesC_length : ∀ (l : List Nd) (vs : List Value), vs.length = l.length → (nodesC l vs).length = l.length * 5
  | [], [], _ => rfl
  | [], _ :: _, h => by simp at h
  | _ :: _, [], h => by simp at h
  | x :: l, v :: vs, h => by
    show (nodeC x v ++ nodesC l vs).length = _
    rw [List.length_append, nodesC_length l vs (by simpa using h), List.length_cons]
    show 5 + _ = _
    omega
theorem nodesC_at : ∀ (l : List Nd) (vs : List Value) (j : Nat) (x : Nd) (v : Value), l[j]? = some x → vs[j]? = some v → ∀ c u, (nodeC x v)[c]? = some u → (nodesC l vs)[j * 5 + c]? = some u
  | [], _, j, x, v, h, _, _, _, _ => by simp at h
  | _ :: _, [], j, x, v, _, h, _, _, _ => by simp at h
  | y :: l, w :: vs, 0, x, v, h1, h2, c, u, hu => by
    obtain rfl : y = x := by simpa using h1
    obtain rfl : w = v := by simpa using h2
    show (nodeC y w ++ nodesC l vs)[0 * 5 + c]? = _
    rw [List.getElem?_append_left (by have := (List.getElem?_eq_some_iff.1 hu).1; omega), Nat.zero_mul, Nat.zero_add]
    exact hu
  | y :: l, w :: vs, j + 1, x, v, h1, h2, c, u, hu => by
    show (nodeC y w ++ nodesC l vs)[(j + 1) * 5 + c]? = _
    have hl : (nodeC y w).length = 5 := rfl
    rw [List.getElem?_append_right (by omega), hl, show (j + 1) * 5 + c - 5 = j * 5 + c by omega]
    exact nodesC_at l vs j x v (by simpa using h1) (by simpa using h2) c u hu
theorem nodesC_one (l : List Nd) (vs : List Value) (hv : ∀ v ∈ vs, v.oneCell' = true) : ∀ u ∈ nodesC l vs, u.oneCell' = true := by
  induction l generalizing vs with
  | nil => intro u hu; cases hu
  | cons x l ih =>
    cases vs with
    | nil => intro u hu; cases hu
    | cons v vs =>
      intro u hu
      rcases List.mem_append.1 hu with h | h
      · simp only [nodeC, List.mem_cons, List.not_mem_nil, or_false] at h
        rcases h with rfl | rfl | rfl | rfl | rfl
        · rfl
        · rfl
        · rfl
        · rfl
        · exact hv _ (by simp)
      · exact ih vs (fun v h => hv v (by simp [h])) u h
/-- Nodes of the call's own, with their kids. -/
structure Tr (W : World) (B : Nat) (vl : Value) (l : List Nd) (vs : List Value) : Prop where
  own : W.ownsRow B 32 5 vl l.length (nodesC l vs)
  len : vs.length = l.length
  kid : ∀ (j : Nat) x v, l[j]? = some x → vs[j]? = some v → OwnZ W B v x.kids
  few : ∀ x ∈ l, x.kids.length ≤ 1048576
  apart : ∀ (i j : Nat) vi vj, i ≠ j → vs[i]? = some vi → vs[j]? = some vj → ∀ k, vi.ownBlock = some k → vj.ownBlock ≠ some k
section
variable {W W' : World} {B : Nat} {vl : Value} {l : List Nd} {vs : List Value}
theorem Tr.nil (W : World) (B : Nat) : Tr W B (.slice none 0 0) [] [] := ⟨⟨rfl, .inl ⟨rfl, rfl⟩⟩, rfl, fun j x v h => by simp at h, fun x h => by simp at h, fun i j vi vj _ h => by simp at h⟩
theorem Tr.keep (h : Tr W B vl l vs) (hk : ∀ k, B ≤ k → k < W.heap.size → W'.heap[k]? = W.heap[k]?) : Tr W' B vl l vs :=
  ⟨row_far h.own fun k e hl => hk k (h.own.lt k e).1 hl, h.len, fun j x v h1 h2 => (h.kid j x v h1 h2).keep fun k e hl => hk k ((h.kid j x v h1 h2).lt k e).1 hl, h.few, h.apart⟩
theorem Tr.nodes (h : Tr W B vl l vs) : ∃ ao cap, vl = .slice ao l.length cap ∧ l.length ≤ cap ∧ NodesAt W.heap.size W ao l := by
  by_cases h0 : l = []
  · obtain ⟨ao, cap, e, h1⟩ := own_form h.own
    exact ⟨ao, cap, e, h1, .inl h0⟩
  · obtain ⟨g, cap, e, h1, _, h3, h4⟩ := own_some h.own (List.length_pos_iff.2 h0)
    refine ⟨_, cap, e, h1, .inr ⟨g, rfl, h3, fun j x hx => ?_⟩⟩
    have hj := (List.getElem?_eq_some_iff.1 hx).1
    obtain ⟨v, hv⟩ : ∃ v, vs[j]? = some v := ⟨_, List.getElem?_eq_getElem (by rw [h.len]; exact hj)⟩
    have hc := fun (c : Nat) (u : Value) (hu : (nodeC x v)[c]? = some u) => h4 _ _ (nodesC_at l vs j x v hx hv c u hu)
    exact ⟨v, ⟨hc 0 _ rfl, hc 1 _ rfl, hc 2 _ rfl, hc 3 _ rfl, hc 4 _ rfl, (h.kid j x _ hx hv).kids (h.few x (List.mem_of_getElem? hx))⟩⟩
end
/-- An append of nodes in a plain region. -/
theorem nodes_plain {ops : Array Oper} {rest : List Oper} {o : Oper} {a : Act} {Q : Exit → Act → World → Prop} {W : World} {B : Nat} {vl : Value} {l : List Nd} {vs : List Value} (h : Tr W B vl l vs) (l2 : List Nd) (vs2 : List Value) (hlen : vs2.length = l2.length) (hpos : 0 < l2.length)
    (hkid : ∀ (j : Nat) x v, l2[j]? = some x → vs2[j]? = some v → OwnZ W B v x.kids) (hfew : ∀ x ∈ l2, x.kids.length ≤ 1048576)
    (hap : ∀ (i j : Nat) vi vj, i ≠ j → (vs ++ vs2)[i]? = some vi → (vs ++ vs2)[j]? = some vj → ∀ k, vi.ownBlock = some k → vj.ownBlock ≠ some k) (m k2 : Nat) (hk2 : k2 = l2.length) (hm : m = l.length + l2.length) (hB : B ≤ W.heap.size) (hl : m < 1000000)
    (arr : Array Value) (ha : arr.toList = nodesC l2 vs2) (hgd : o.guard = none) (x y : Operand)
    (ho : o.op = .call { callee := .builtin .append, args := #[x, y], argTypes := #[23, 23] }) (hx : a.eval x = vl) (hy : a.eval y = .slice (some ⟨W.heap.size, 0, none⟩) k2 k2)
    (hK : ∀ g cap w', Tr w' B (.slice (some ⟨g, 0, none⟩) m cap) (l ++ l2) (vs ++ vs2) → Below B W w' → (∀ k, k < W.heap.size → vl.ownBlock ≠ some k → w'.heap[k]? = W.heap[k]?) → W.heap.size + 1 ≤ w'.heap.size →
      wpList Tryz.prog ops Q rest (a.put o.dst (.slice (some ⟨g, 0, none⟩) m cap)) w') : wpList Tryz.prog ops Q (o :: rest) a (W.alloc (.cells arr 32)) := by
  subst hm hk2
  refine wpList_plain hgd fun K hKK => ?_
  obtain ⟨i0, hi, hz0, hz1, hz2⟩ := info_parts info_node
  have hone : ∀ v ∈ vs2, v.oneCell' = true := by
    intro v hv
    obtain ⟨j, hj, e⟩ := List.getElem_of_mem hv
    obtain ⟨ao, cap, e2, _⟩ := own_form (hkid j l2[j] v (List.getElem?_eq_getElem (by omega)) (by rw [List.getElem?_eq_getElem hj, e]))
    rw [e2]; rfl
  have hr0 : (W.alloc (.cells arr 32)).heap[W.heap.size]? = some (.cells arr 32 (0, 0)) := heap_alloc_new _ _
  obtain ⟨u, w', hr, h1, h2, _, h4⟩ := run_append_own_at (P := Tryz.prog) (W.alloc (.cells arr 32)) B 23 o.type 32 i0 _ 5 64 Tryz.underlying23 hi hz0 hz1 hz2 rfl (by decide) vl l.length (nodesC l vs)
    (World.ownsRow.alloc h.own _) ⟨W.heap.size, 0, none⟩ l2.length l2.length (nodesC l2 vs2) (nodesC_length l2 vs2 hlen) (fun j u hu => by
      rw [Go.WideShapes.add_plain, Nat.zero_add, cell_of_row _ _ _ _ _ _ hr0]
      rw [← ha] at hu
      simpa using hu) (nodesC_one l2 vs2 hone) (by unfold maxLen; omega) (by omega) (by simp; omega)
  have hb : ∀ j, j < W.heap.size → vl.ownBlock ≠ some j → w'.heap[j]? = W.heap[j]? := fun j hj hne => (h2.block j (by simp; omega) (Ne.symm hne)).trans (Below.heap_alloc W _ j hj)
  have hk' : ∀ v zs, OwnZ W B v zs → OwnZ w' B v zs := fun v zs hv => hv.keep fun k e hl => hb k hl (fun e2 => own_apart hv h.own (by decide) k e e2)
  have h1' : w'.ownsRow B 32 5 u (l ++ l2).length (nodesC (l ++ l2) (vs ++ vs2)) := by
    rw [nodesC_append l l2 vs vs2 h.len, List.length_append]; exact h1
  have hT : Tr w' B u (l ++ l2) (vs ++ vs2) := by
    refine ⟨h1', by simp [h.len, hlen], fun j x v hx hv => ?_, fun x hx => ?_, hap⟩
    · by_cases hj : j < l.length
      · rw [List.getElem?_append_left hj] at hx
        rw [List.getElem?_append_left (by rw [h.len]; exact hj)] at hv
        exact hk' v _ (h.kid j x v hx hv)
      · rw [List.getElem?_append_right (by omega)] at hx
        rw [List.getElem?_append_right (by rw [h.len]; omega), h.len] at hv
        exact hk' v _ (hkid _ x v hx hv)
    · rcases List.mem_append.1 hx with hx | hx
      · exact h.few x hx
      · exact hfew x hx
  obtain ⟨g, cap, e, _⟩ := own_some h1' (by simp; omega)
  subst e
  rw [List.length_append] at hT hr
  have hsz := h2.size
  simp only [World.size_alloc] at hsz
  unfold Oper.wp execOp
  simp only [ho, resolve, invoke, builtin, Sem.run_bind, Sem.run_pure, Result.andThen_ok, List.map_toArray, List.map_cons, List.map_nil, hx, hy, hr]
  exact hKK _ _ (hK g _ w' hT (((Below.refl B W).alloc hB _).grown h2 (by simp; omega) fun j hj => (h.own.lt j hj).1) hb hsz)
end Go.Proofs.YtpjjofdphlgeiaaGreatDoor

namespace Go.Proofs.YtpjjofdphlgeiaaGreatDoor
open Go.RowKit
open Lx Ax

def Apart (vs : List Value) : Prop := ∀ (i j : Nat) vi vj, i ≠ j → vs[i]? = some vi → vs[j]? = some vj → ∀ k, vi.ownBlock = some k → vj.ownBlock ≠ some k
theorem Apart.more {vs : List Value} (h : Apart vs) {v : Value} (hv : ∀ (j : Nat) u, vs[j]? = some u → ∀ k, u.ownBlock = some k → v.ownBlock ≠ some k) : Apart (vs ++ [v]) := by
  have last : ∀ (j : Nat) u, (vs ++ [v])[j]? = some u → ¬ j < vs.length → u = v := by
    intro j u hu hj
    rw [List.getElem?_append_right (by omega)] at hu
    have h1 := (List.getElem?_eq_some_iff.1 hu).1
    simp at h1
    have : j - vs.length = 0 := by omega
    rw [this] at hu
    simpa using hu.symm
  intro i j vi vj hij hi hj k hk
  by_cases h1 : i < vs.length
  · rw [List.getElem?_append_left h1] at hi
    by_cases h2 : j < vs.length
    · rw [List.getElem?_append_left h2] at hj
      exact h i j vi vj hij hi hj k hk
    · rw [last j vj hj h2]
      exact hv i vi hi k hk
  · have e1 := last i vi hi h1
    subst e1
    by_cases h2 : j < vs.length
    · rw [List.getElem?_append_left h2] at hj
      intro e
      exact hv j vj hj k e hk
    · have a1 := (List.getElem?_eq_some_iff.1 hi).1
      have a2 := (List.getElem?_eq_some_iff.1 hj).1
      simp at a1 a2
      omega
theorem nodesC_set : ∀ (l : List Nd) (vs : List Value) (j : Nat) (x : Nd) (zs : List Int), l[j]? = some x → nodesC (l.set j { x with kids := zs }) vs = nodesC l vs
  | [], _, _, _, _, h => by simp at h
  | y :: l, [], 0, x, zs, _ => rfl
  | y :: l, [], j + 1, x, zs, _ => rfl
  | y :: l, v :: vs, 0, x, zs, h => by
    obtain rfl : y = x := by simpa using h
    rfl
  | y :: l, v :: vs, j + 1, x, zs, h => by
    show nodeC y v ++ nodesC (l.set j { x with kids := zs }) vs = nodeC y v ++ nodesC l vs
    rw [nodesC_set l vs j x zs (by simpa using h)]
section
variable {W W' : World} {B : Nat} {vl : Value} {l : List Nd} {vs : List Value}
theorem Tr.keep' (h : Tr W B vl l vs) (h1 : ∀ k, vl.ownBlock = some k → k < W.heap.size → W'.heap[k]? = W.heap[k]?) (h2 : ∀ (j : Nat) v, vs[j]? = some v → ∀ k, v.ownBlock = some k → k < W.heap.size → W'.heap[k]? = W.heap[k]?) : Tr W' B vl l vs :=
  ⟨row_far h.own h1, h.len, fun j x v hx hv => (h.kid j x v hx hv).keep (h2 j v hv), h.few, h.apart⟩
/-- A kid turned. -/
theorem Tr.setKid (h : Tr W B vl l vs) (j : Nat) (x : Nd) (g n cap : Nat) (hx : l[j]? = some x) (hv : vs[j]? = some (.slice (some ⟨g, 0, none⟩) n cap)) (hn : n = x.kids.length) (i : Nat) (z : Int) : Tr (W.setCell ⟨g, i, none⟩ (.int .i64 z)) B vl (l.set j { x with kids := x.kids.set i z }) vs := by
  have hk := h.kid j x _ hx hv
  have hb : (Value.slice (some ⟨g, 0, none⟩) n cap).ownBlock = some g := rfl
  refine ⟨?_, by rw [List.length_set]; exact h.len, fun j2 x2 v2 hx2 hv2 => ?_, fun y hy => ?_, h.apart⟩
  · rw [List.length_set, nodesC_set _ _ _ _ _ hx]
    exact row_far h.own fun k e _ => heap_setCell_other _ ⟨g, i, none⟩ _ _ (fun e2 => own_apart h.own hk (by decide) k e (by rw [hb, e2]))
  · by_cases hj : j2 = j
    · subst hj
      rw [hv] at hv2
      obtain rfl := Option.some.inj hv2
      have hl := (List.getElem?_eq_some_iff.1 hx).1
      rw [List.getElem?_set_self hl] at hx2
      obtain rfl := Option.some.inj hx2
      exact hk.set hn i z
    · rw [List.getElem?_set_ne (Ne.symm hj)] at hx2
      exact (h.kid j2 x2 v2 hx2 hv2).keep fun k e _ => heap_setCell_other _ ⟨g, i, none⟩ _ _ (fun e2 => h.apart j2 j v2 _ hj hv2 hv k e (by rw [hb, e2]))
  · rcases List.mem_or_eq_of_mem_set hy with hy | rfl
    · exact h.few y hy
    · simp only [List.length_set]; exact h.few x (List.mem_of_getElem? hx)
theorem Tr.nodesAt {g n cap : Nat} (h : Tr W B (.slice (some ⟨g, 0, none⟩) n cap) l vs) : NodesAt W.heap.size W (some ⟨g, 0, none⟩) l := by
  obtain ⟨ao7, c7, e7, _, h7⟩ := h.nodes
  injection e7 with e7 _ _
  rw [e7]; exact h7
/-- The nodes, one of them laid anew in their row. -/
theorem Tr.nodes_to {g n cap : Nat} (h : Tr W B (.slice (some ⟨g, 0, none⟩) n cap) l vs) (hfar : ∀ k, k ≠ g → W'.heap[k]? = W.heap[k]?) (hsz : W'.heap.size = W.heap.size) (j : Nat) (x' : Nd) (v' : Value)
    (hoth : ∀ i, i ≠ j → ∀ c, c < 5 → W'.cell? ⟨g, i * 5 + c, none⟩ = W.cell? ⟨g, i * 5 + c, none⟩) (hat : NodeAt W'.heap.size W' g j x' v') : NodesAt W'.heap.size W' (some ⟨g, 0, none⟩) (l.set j x') := by
  have hgl : g < W.heap.size := (h.own.lt g rfl).2
  obtain ⟨ao, cap2, e, _, hN⟩ := h.nodes
  injection e with e1 e2 e3
  subst e1
  refine .inr ⟨g, rfl, by omega, fun i x hx => ?_⟩
  by_cases hi : i = j
  · subst hi
    have hl := (List.getElem?_eq_some_iff.1 hx).1
    rw [List.length_set] at hl
    rw [List.getElem?_set_self hl] at hx
    obtain rfl := Option.some.inj hx
    exact ⟨v', hat⟩
  · rw [List.getElem?_set_ne (Ne.symm hi)] at hx
    have hil := (List.getElem?_eq_some_iff.1 hx).1
    obtain ⟨v, hv⟩ : ∃ v, vs[i]? = some v := ⟨_, List.getElem?_eq_getElem (by rw [h.len]; exact hil)⟩
    obtain ⟨g', cap', e', _, _, _, h4⟩ := own_some h.own (Nat.lt_of_le_of_lt (Nat.zero_le _) hil)
    injection e' with e1' _ _
    injection e1' with e1'
    injection e1' with e1' _ _
    subst e1'
    have hc := fun (c : Nat) (u : Value) (hu : (nodeC x v)[c]? = some u) => h4 _ _ (nodesC_at l vs i x v hx hv c u hu)
    have hco := hoth i hi
    have hkid := (h.kid i x v hx hv).keep (W' := W') (fun k e _ => hfar k (fun e2 => own_apart h.own (h.kid i x v hx hv) (by decide) g rfl (by rw [← e2]; exact e)))
    exact ⟨v, ⟨(hco 0 (by omega)).trans (hc 0 _ rfl), (hco 1 (by omega)).trans (hc 1 _ rfl), (hco 2 (by omega)).trans (hc 2 _ rfl), (hco 3 (by omega)).trans (hc 3 _ rfl), (hco 4 (by omega)).trans (hc 4 _ rfl), hkid.kids (h.few x (List.mem_of_getElem? hx))⟩⟩
/-- The cells of one node. -/
theorem Tr.cells {g n cap : Nat} (h : Tr W B (.slice (some ⟨g, 0, none⟩) n cap) l vs) (j : Nat) (x : Nd) (hx : l[j]? = some x) : ∃ v, vs[j]? = some v ∧ NodeAt W.heap.size W g j x v ∧ OwnZ W B v x.kids := by
  have hl := (List.getElem?_eq_some_iff.1 hx).1
  obtain ⟨v, hv⟩ : ∃ v, vs[j]? = some v := ⟨_, List.getElem?_eq_getElem (by rw [h.len]; exact hl)⟩
  obtain ⟨g', cap', e', _, _, _, h4⟩ := own_some h.own (Nat.lt_of_le_of_lt (Nat.zero_le _) hl)
  injection e' with e1' _ _
  injection e1' with e1'
  injection e1' with e1' _ _
  subst e1'
  have hc := fun (c : Nat) (u : Value) (hu : (nodeC x v)[c]? = some u) => h4 _ _ (nodesC_at l vs j x v hx hv c u hu)
  exact ⟨v, hv, ⟨hc 0 _ rfl, hc 1 _ rfl, hc 2 _ rfl, hc 3 _ rfl, hc 4 _ rfl, (h.kid j x v hx hv).kids (h.few x (List.mem_of_getElem? hx))⟩, h.kid j x v hx hv⟩
theorem Tr.open_ {g n cap : Nat} (h : Tr W B (.slice (some ⟨g, 0, none⟩) n cap) l vs) (i : Nat) : W.frozen? ⟨g, i, none⟩ = false := by
  rcases h.own.2 with ⟨h', _⟩ | ⟨g', cap', cur, h', _, hg, _⟩
  · simp at h'
  · injection h' with h1 _ _
    injection h1 with h1
    injection h1 with h1 _ _
    subst h1
    exact frozen_of_row W g i cur _ hg
/-- The nodes, other kids laid in one of them. -/
theorem Tr.set_kids {g n cap : Nat} (h : Tr W B (.slice (some ⟨g, 0, none⟩) n cap) l vs) (j : Nat) (x : Nd) (hx : l[j]? = some x) (v' : Value) (zs : List Int) (hfar : ∀ k, k ≠ g → W'.heap[k]? = W.heap[k]?) (hsz : W'.heap.size = W.heap.size)
    (hoth : ∀ o, o ≠ j * 5 + 4 → W'.cell? ⟨g, o, none⟩ = W.cell? ⟨g, o, none⟩) (hat : W'.cell? ⟨g, j * 5 + 4, none⟩ = some v') (hk : KidsAt W'.heap.size W' v' zs) : NodesAt W'.heap.size W' (some ⟨g, 0, none⟩) (l.set j { x with kids := zs }) := by
  obtain ⟨v, _, N, _⟩ := h.cells j x hx
  exact h.nodes_to hfar hsz j { x with kids := zs } v' (fun i hi c hc => hoth _ (by omega)) ⟨(hoth _ (by omega)).trans N.op, (hoth _ (by omega)).trans N.num, (hoth _ (by omega)).trans N.pos, (hoth _ (by omega)).trans N.text, hat, hk⟩
theorem OwnZ.open_ {W : World} {B g n cap : Nat} {zs : List Int} (h : OwnZ W B (.slice (some ⟨g, 0, none⟩) n cap) zs) (i : Nat) : W.frozen? ⟨g, i, none⟩ = false := by
  rcases h.2 with ⟨h', _⟩ | ⟨g', cap', cur, h', _, hg, _⟩
  · simp at h'
  · injection h' with h1 _ _
    injection h1 with h1
    injection h1 with h1 _ _
    subst h1
    exact frozen_of_row W g i cur _ hg
/-- Nodes written at once. -/
theorem Tr.lit (B : Nat) (hB : B ≤ W.heap.size) (l : List Nd) (vs : List Value) (hlen : vs.length = l.length) (hl : l.length ≤ 1000000) (hkid : ∀ (j : Nat) x v, l[j]? = some x → vs[j]? = some v → OwnZ W B v x.kids) (hfew : ∀ x ∈ l, x.kids.length ≤ 1048576) (hap : Apart vs) (arr : Array Value) (ha : arr.toList = nodesC l vs) (k : Nat) (hk : k = l.length) :
    Tr (W.alloc (.cells arr 32)) B (.slice (some ⟨W.heap.size, 0, none⟩) k k) l vs := by
  subst hk
  refine ⟨?_, hlen, fun j x v hx hv => (hkid j x v hx hv).keep fun k _ hk => Below.heap_alloc _ _ _ hk, hfew, hap⟩
  have h := World.ownsRow_lit (base := B) (e := 32) (size := 5) W arr l.length hB (by unfold maxLen; omega) (by rw [← Array.length_toList, ha, nodesC_length l vs hlen])
  rw [ha] at h
  exact h
end
end Go.Proofs.YtpjjofdphlgeiaaGreatDoor
