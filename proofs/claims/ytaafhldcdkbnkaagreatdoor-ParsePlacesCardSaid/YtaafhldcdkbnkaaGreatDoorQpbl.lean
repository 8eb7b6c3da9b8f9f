/- Parts of the proof, together. What stores make of nodes of the call's own. Conditions: short lists. -/
import Derived.Test.YtaafhldcdkbnkaaGreatDoorQpbk
namespace Go.Proofs.YtaafhldcdkbnkaaGreatDoor
open Go.RowKit
open Lx Ax

def Apart (vs : List Value) : Prop := ∀ (i j : Nat) vi vj, i ≠ j → vs[i]? = some vi → vs[j]? = some vj → ∀ k, vi.ownBlock = some k → vj.ownBlock ≠ some k
theorem Apart.more {vs : List Value} (h : Apart vs) {v : Value} (hv : ∀ (j : Nat) u, vs[j]? = some u → ∀ k, u.ownBlock = some k → v.ownBlock ≠ some k) : Apart (vs ++ [v]) := by
  have last : ∀ (j : Nat) u, (vs ++ [v])[j]? = some u → ¬ j < vs.length → u = v := by
    intro j u hu hj
    rw [List.getElem?_append_right (by omega)] at hu
    have h1 := (List.getElem?_eq_some_iff.1 hu).1
    simp at h1
    have : j - vs.length = 0 := by omega
    rw [this] at hu
    simpa using hu.symm
  intro i j vi vj hij hi hj k hk
  by_cases h1 : i < vs.length
  · rw [List.getElem?_append_left h1] at hi
    by_cases h2 : j < vs.length
    · rw [List.getElem?_append_left h2] at hj
      exact h i j vi vj hij hi hj k hk
    · rw [last j vj hj h2]
      exact hv i vi hi k hk
  · have e1 := last i vi hi h1
    subst e1
    by_cases h2 : j < vs.length
    · rw [List.getElem?_append_left h2] at hj
      intro e
      exact hv j vj hj k e hk
    · have a1 := (List.getElem?_eq_some_iff.1 hi).1
      have a2 := (List.getElem?_eq_some_iff.1 hj).1
      simp at a1 a2
      omega
theorem nodesC_set : ∀ (l : List Nd) (vs : List Value) (j : Nat) (x : Nd) (zs : List Int), l[j]? = some x → nodesC (l.set j { x with kids := zs }) vs = nodesC l vs
  | [], _, _, _, _, h => by simp at h
  | y :: l, [], 0, x, zs, _ => rfl
  | y :: l, [], j + 1, x, zs, _ => rfl
  | y :: l, v :: vs, 0, x, zs, h => by
    obtain rfl : y = x := by simpa using h
    rfl
  | y :: l, v :: vs, j + 1, x, zs, h => by
    show nodeC y v ++ nodesC (l.set j { x with kids := zs }) vs = nodeC y v ++ nodesC l vs
    rw [nodesC_set l vs j x zs (by simpa using h)]
section
variable {W W' : World} {B : Nat} {vl : Value} {l : List Nd} {vs : List Value}
theorem Tr.keep' (h : Tr W B vl l vs) (h1 : ∀ k, vl.ownBlock = some k → k < W.heap.size → W'.heap[k]? = W.heap[k]?) (h2 : ∀ (j : Nat) v, vs[j]? = some v → ∀ k, v.ownBlock = some k → k < W.heap.size → W'.heap[k]? = W.heap[k]?) : Tr W' B vl l vs :=
  ⟨row_far h.own h1, h.len, fun j x v hx hv => (h.kid j x v hx hv).keep (h2 j v hv), h.few, h.apart⟩
/-- A kid turned. -/
theorem Tr.setKid (h : Tr W B vl l vs) (j : Nat) (x : Nd) (g n cap : Nat) (hx : l[j]? = some x) (hv : vs[j]? = some (.slice (some ⟨g, 0, none⟩) n cap)) (hn : n = x.kids.length) (i : Nat) (z : Int) : Tr (W.setCell ⟨g, i, none⟩ (.int .i64 z)) B vl (l.set j { x with kids := x.kids.set i z }) vs := by
  have hk := h.kid j x _ hx hv
  have hb : (Value.slice (some ⟨g, 0, none⟩) n cap).ownBlock = some g := rfl
  refine ⟨?_, by rw [List.length_set]; exact h.len, fun j2 x2 v2 hx2 hv2 => ?_, fun y hy => ?_, h.apart⟩
  · rw [List.length_set, nodesC_set _ _ _ _ _ hx]
    exact row_far h.own fun k e _ => heap_setCell_other _ ⟨g, i, none⟩ _ _ (fun e2 => own_apart h.own hk (by decide) k e (by rw [hb, e2]))
  · by_cases hj : j2 = j
    · subst hj
      rw [hv] at hv2
      obtain rfl := Option.some.inj hv2
      have hl := (List.getElem?_eq_some_iff.1 hx).1
      rw [List.getElem?_set_self hl] at hx2
      obtain rfl := Option.some.inj hx2
      exact hk.set hn i z
    · rw [List.getElem?_set_ne (Ne.symm hj)] at hx2
      exact (h.kid j2 x2 v2 hx2 hv2).keep fun k e _ => heap_setCell_other _ ⟨g, i, none⟩ _ _ (fun e2 => h.apart j2 j v2 _ hj hv2 hv k e (by rw [hb, e2]))
  · rcases List.mem_or_eq_of_mem_set hy with hy | rfl
    · exact h.few y hy
    · simp only [List.length_set]; exact h.few x (List.mem_of_getElem? hx)
theorem Tr.nodesAt {g n cap : Nat} (h : Tr W B (.slice (some ⟨g, 0, none⟩) n cap) l vs) : NodesAt W.heap.size W (some ⟨g, 0, none⟩) l := by
  obtain ⟨ao7, c7, e7, _, h7⟩ := h.nodes
  injection e7 with e7 _ _
  rw [e7]; exact h7
/-- The nodes, one of them laid anew in their row. -/
theorem Tr.nodes_to {g n cap : Nat} (h : Tr W B (.slice (some ⟨g, 0, none⟩) n cap) l vs) (hfar : ∀ k, k ≠ g → W'.heap[k]? = W.heap[k]?) (hsz : W'.heap.size = W.heap.size) (j : Nat) (x' : Nd) (v' : Value)
    (hoth : ∀ i, i ≠ j → ∀ c, c < 5 → W'.cell? ⟨g, i * 5 + c, none⟩ = W.cell? ⟨g, i * 5 + c, none⟩) (hat : NodeAt W'.heap.size W' g j x' v') : NodesAt W'.heap.size W' (some ⟨g, 0, none⟩) (l.set j x') := by
  have hgl : g < W.heap.size := (h.own.lt g rfl).2
  obtain ⟨ao, cap2, e, _, hN⟩ := h.nodes
  injection e with e1 e2 e3
  subst e1
  refine .inr ⟨g, rfl, by omega, fun i x hx => ?_⟩
  by_cases hi : i = j
  · subst hi
    have hl := (List.getElem?_eq_some_iff.1 hx).1
    rw [List.length_set] at hl
    rw [List.getElem?_set_self hl] at hx
    obtain rfl := Option.some.inj hx
    exact ⟨v', hat⟩
  · rw [List.getElem?_set_ne (Ne.symm hi)] at hx
    have hil := (List.getElem?_eq_some_iff.1 hx).1
    obtain ⟨v, hv⟩ : ∃ v, vs[i]? = some v := ⟨_, List.getElem?_eq_getElem (by rw [h.len]; exact hil)⟩
    obtain ⟨g', cap', e', _, _, _, h4⟩ := own_some h.own (Nat.lt_of_le_of_lt (Nat.zero_le _) hil)
    injection e' with e1' _ _
    injection e1' with e1'
    injection e1' with e1' _ _
    subst e1'
    have hc := fun (c : Nat) (u : Value) (hu : (nodeC x v)[c]? = some u) => h4 _ _ (nodesC_at l vs i x v hx hv c u hu)
    have hco := hoth i hi
    have hkid := (h.kid i x v hx hv).keep (W' := W') (fun k e _ => hfar k (fun e2 => own_apart h.own (h.kid i x v hx hv) (by decide) g rfl (by rw [← e2]; exact e)))
    exact ⟨v, ⟨(hco 0 (by omega)).trans (hc 0 _ rfl), (hco 1 (by omega)).trans (hc 1 _ rfl), (hco 2 (by omega)).trans (hc 2 _ rfl), (hco 3 (by omega)).trans (hc 3 _ rfl), (hco 4 (by omega)).trans (hc 4 _ rfl), hkid.kids (h.few x (List.mem_of_getElem? hx))⟩⟩
/-- The cells of one node. -/
theorem Tr.cells {g n cap : Nat} (h : Tr W B (.slice (some ⟨g, 0, none⟩) n cap) l vs) (j : Nat) (x : Nd) (hx : l[j]? = some x) : ∃ v, vs[j]? = some v ∧ NodeAt W.heap.size W g j x v ∧ OwnZ W B v x.kids := by
  have hl := (List.getElem?_eq_some_iff.1 hx).1
  obtain ⟨v, hv⟩ : ∃ v, vs[j]? = some v := ⟨_, List.getElem?_eq_getElem (by rw [h.len]; exact hl)⟩
  obtain ⟨g', cap', e', _, _, _, h4⟩ := own_some h.own (Nat.lt_of_le_of_lt (Nat.zero_le _) hl)
  injection e' with e1' _ _
  injection e1' with e1'
  injection e1' with e1' _ _
  subst e1'
  have hc := fun (c : Nat) (u : Value) (hu : (nodeC x v)[c]? = some u) => h4 _ _ (nodesC_at l vs j x v hx hv c u hu)
  exact ⟨v, hv, ⟨hc 0 _ rfl, hc 1 _ rfl, hc 2 _ rfl, hc 3 _ rfl, hc 4 _ rfl, (h.kid j x v hx hv).kids (h.few x (List.mem_of_getElem? hx))⟩, h.kid j x v hx hv⟩
theorem Tr.open_ {g n cap : Nat} (h : Tr W B (.slice (some ⟨g, 0, none⟩) n cap) l vs) (i : Nat) : W.frozen? ⟨g, i, none⟩ = false := by
  rcases h.own.2 with ⟨h', _⟩ | ⟨g', cap', cur, h', _, hg, _⟩
  · simp at h'
  · injection h' with h1 _ _
    injection h1 with h1
    injection h1 with h1 _ _
    subst h1
    exact frozen_of_row W g i cur _ hg
/-- The nodes, other kids laid in one of them. -/
theorem Tr.set_kids {g n cap : Nat} (h : Tr W B (.slice (some ⟨g, 0, none⟩) n cap) l vs) (j : Nat) (x : Nd) (hx : l[j]? = some x) (v' : Value) (zs : List Int) (hfar : ∀ k, k ≠ g → W'.heap[k]? = W.heap[k]?) (hsz : W'.heap.size = W.heap.size)
    (hoth : ∀ o, o ≠ j * 5 + 4 → W'.cell? ⟨g, o, none⟩ = W.cell? ⟨g, o, none⟩) (hat : W'.cell? ⟨g, j * 5 + 4, none⟩ = some v') (hk : KidsAt W'.heap.size W' v' zs) : NodesAt W'.heap.size W' (some ⟨g, 0, none⟩) (l.set j { x with kids := zs }) := by
  obtain ⟨v, _, N, _⟩ := h.cells j x hx
  exact h.nodes_to hfar hsz j { x with kids := zs } v' (fun i hi c hc => hoth _ (by omega)) ⟨(hoth _ (by omega)).trans N.op, (hoth _ (by omega)).trans N.num, (hoth _ (by omega)).trans N.pos, (hoth _ (by omega)).trans N.text, hat, hk⟩
theorem OwnZ.open_ {W : World} {B g n cap : Nat} {zs : List Int} (h : OwnZ W B (.slice (some ⟨g, 0, none⟩) n cap) zs) (i : Nat) : W.frozen? ⟨g, i, none⟩ = false := by
  rcases h.2 with ⟨h', _⟩ | ⟨g', cap', cur, h', _, hg, _⟩
  · simp at h'
  · injection h' with h1 _ _
    injection h1 with h1
    injection h1 with h1 _ _
    subst h1
    exact frozen_of_row W g i cur _ hg
/-- Nodes written at once. -/
theorem Tr.lit (B : Nat) (hB : B ≤ W.heap.size) (l : List Nd) (vs : List Value) (hlen : vs.length = l.length) (hl : l.length ≤ 1000000) (hkid : ∀ (j : Nat) x v, l[j]? = some x → vs[j]? = some v → OwnZ W B v x.kids) (hfew : ∀ x ∈ l, x.kids.length ≤ 1048576) (hap : Apart vs) (arr : Array Value) (ha : arr.toList = nodesC l vs) (k : Nat) (hk : k = l.length) :
    Tr (W.alloc (.cells arr 32)) B (.slice (some ⟨W.heap.size, 0, none⟩) k k) l vs := by
  subst hk
  refine ⟨?_, hlen, fun j x v hx hv => (hkid j x v hx hv).keep fun k _ hk => Below.heap_alloc _ _ _ hk, hfew, hap⟩
  have h := World.ownsRow_lit (base := B) (e := 32) (size := 5) W arr l.length hB (by unfold maxLen; omega) (by rw [← Array.length_toList, ha, nodesC_length l vs hlen])
  rw [ha] at h
  exact h
end
end Go.Proofs.YtaafhldcdkbnkaaGreatDoor
