/- Limbs in a row of the call's own: appends. Conditions: as each states. -/
import Derived.Test.YtapdkibiegeijaaDoorRvM
namespace Go.Proofs.YtapdkibiegeijaaDoor
open Go.RowKit
namespace Rv

theorem nval_one (xs : List Nat) : ∀ v ∈ xs.map nval, v.oneCell' = true := by
  intro v hv
  obtain ⟨x, _, rfl⟩ := List.mem_map.1 hv
  rfl
/-- Parts in a row of the call's own, from block B on. -/
def OwnN (W : World) (B : Nat) (v : Value) (bs : List Nat) : Prop := W.ownsRow B 3 1 v bs.length (bs.map nval)
theorem OwnN.of_eq {W W' : World} {B : Nat} {v : Value} {bs : List Nat} (h : OwnN W B v bs) (hb : ∀ k, B ≤ k → k < W.heap.size → W'.heap[k]? = W.heap[k]?) : OwnN W' B v bs := by
  refine ⟨h.1, ?_⟩
  rcases h.2 with h0 | ⟨g, cap, cur, e, hB, hg, h3⟩
  · exact .inl h0
  · exact .inr ⟨g, cap, cur, e, hB, (hb g hB (Array.getElem?_eq_some_iff.1 hg).1).trans hg, h3⟩
theorem OwnN.below {W W' : World} {B : Nat} {v : Value} {bs : List Nat} (h : OwnN W B v bs) (hb : Below W.heap.size W W') : OwnN W' B v bs := h.of_eq fun k _ hk => hb.block k hk
theorem OwnN.mono {W : World} {B B' : Nat} {v : Value} {bs : List Nat} (h : OwnN W B v bs) (hb : B' ≤ B) : OwnN W B' v bs := by
  refine ⟨h.1, ?_⟩
  rcases h.2 with h0 | ⟨g, cap, cur, e, hB, h3⟩
  · exact .inl h0
  · exact .inr ⟨g, cap, cur, e, by omega, h3⟩
theorem ownN_nil (W : World) (B : Nat) : OwnN W B (.slice none 0 0) [] := ⟨rfl, .inl ⟨rfl, rfl⟩⟩
/-- Where the parts of a list of the call's own stand. -/
theorem OwnN.at {W : World} {B : Nat} {v : Value} {bs : List Nat} (h : OwnN W B v bs) : ∃ ao cap, v = .slice ao bs.length cap ∧ bs.length ≤ cap ∧ (0 < bs.length → ∃ g, ao = some ⟨g, 0, none⟩ ∧ B ≤ g ∧ g < W.heap.size ∧ AtN W g 0 bs) := by
  rcases h.2 with ⟨rfl, h0⟩ | ⟨g, cap, cur, rfl, hB, hg, hc, _, hs, ht⟩
  · exact ⟨none, 0, by rw [h0], by omega, fun hp => by omega⟩
  · refine ⟨_, cap, rfl, hc, fun _ => ⟨g, rfl, hB, (Array.getElem?_eq_some_iff.1 hg).1, fun j x hx => ?_⟩⟩
    rw [cell_of_row W g (0 + j) _ _ _ hg, Nat.zero_add]
    have h1 : (bs.map nval)[j]? = some (nval x) := by rw [List.getElem?_map, hx]; rfl
    rw [← ht, List.getElem?_take] at h1
    split at h1
    · simpa using h1
    · cases h1

theorem app_run (w : World) (base : Nat) (ty : TypeId) (v : Value) (xs ys : List Nat) (hown : OwnN w base v xs) (bk off m c : Nat) (hm : ys.length = m) (hc : AtN w bk off ys) (hlen : xs.length + ys.length < 100000000) (hbase : base ≤ w.heap.size) :
    ∃ v' w', (Builtin.append_ #[26, 26] ty #[v, .slice (some ⟨bk, off, none⟩) m c]).run Tryd.prog w = .ok v' w' ∧ OwnN w' base v' (xs ++ ys) ∧ Below base w w' := by
  subst hm
  obtain ⟨i, hi, hz, hz1, hz2⟩ := i64_parts
  obtain ⟨v', w', hr, h1, h2, _⟩ := run_append_own (P := Tryd.prog) w base 26 ty 3 i (.int .i64 0) 1 8 Tryd.underlying26 hi hz hz1 hz2 rfl (by decide) v xs.length (xs.map nval) hown ⟨bk, off, none⟩ ys.length c (ys.map nval) (by simp)
    (fun j u hu => by
      rw [List.getElem?_map] at hu
      obtain ⟨x, hx, rfl⟩ := Option.map_eq_some_iff.1 hu
      rw [Addr.add_mid]
      exact hc j x hx) (nval_one _) (by unfold maxLen; omega) (by omega) hbase
  refine ⟨v', w', hr, ?_, ⟨h2.os, h2.tape, h2.output, h2.size, fun k hk => h2.block k (by omega) (fun e => ?_)⟩⟩
  · unfold OwnN; rw [List.length_append, List.map_append]; exact h1
  · have := (hown.lt k e.symm).1
    omega

theorem wp_append_parts {o : Oper} {a : Act} {K : Act → World → Prop} {Q : Exit → Act → World → Prop} (w : World) (s x : Operand)
    (ho : o.op = .call { callee := .builtin .append, args := #[s, x], argTypes := #[26, 26] }) (base : Nat) (v : Value) (xs ys : List Nat) (hs : a.eval s = v) (hown : OwnN w base v xs) (bk off m c : Nat) (hx : a.eval x = .slice (some ⟨bk, off, none⟩) m c) (hm : ys.length = m)
    (hc : AtN w bk off ys) (hlen : xs.length + ys.length < 100000000) (hbase : base ≤ w.heap.size)
    (h : ∀ v' w', OwnN w' base v' (xs ++ ys) → Below base w w' → K (a.put o.dst v') w') : o.wp Tryd.prog a w K Q := by
  obtain ⟨v', w', hr, h1, h2⟩ := app_run w base o.type v xs ys hown bk off m c hm hc hlen hbase
  unfold Oper.wp execOp
  simp only [ho, resolve, invoke, builtin, Sem.run_bind, Sem.run_pure, Result.andThen_ok, List.map_toArray, List.map_cons, List.map_nil, hs, hx, hr]
  exact h v' w' h1 h2
theorem append_parts {ops : Array Oper} {rest : List Oper} {o : Oper} {a : Act} {Q : Exit → Act → World → Prop} (w : World) (hgd : o.guard = none) (s x : Operand)
    (ho : o.op = .call { callee := .builtin .append, args := #[s, x], argTypes := #[26, 26] }) (base : Nat) (v : Value) (xs ys : List Nat) (hs : a.eval s = v) (hown : OwnN w base v xs) (bk off m c : Nat) (hx : a.eval x = .slice (some ⟨bk, off, none⟩) m c) (hm : ys.length = m)
    (hc : AtN w bk off ys) (hlen : xs.length + ys.length < 100000000) (hbase : base ≤ w.heap.size)
    (h : ∀ v' w', OwnN w' base v' (xs ++ ys) → Below base w w' → wpList Tryd.prog ops Q rest (a.put o.dst v') w') : wpList Tryd.prog ops Q (o :: rest) a w :=
  wpList_plain hgd fun _ hK => wp_append_parts w s x ho base v xs ys hs hown bk off m c hx hm hc hlen hbase fun v' w' h1 h2 => hK _ _ (h v' w' h1 h2)

theorem OwnN.src {W : World} {B : Nat} {v : Value} {l : List Nat} (h : OwnN W B v l) : ∃ ao cap, v = .slice ao l.length cap ∧ l.length ≤ cap ∧ SrcN W ao l := by
  obtain ⟨ao, cap, e, hc, h2⟩ := h.at
  exact ⟨ao, cap, e, hc, fun hp => by
    obtain ⟨g, e2, _, h3, h4⟩ := h2 hp
    exact ⟨g, 0, e2, h3, h4⟩⟩
theorem one_lit (w : World) (x : Nat) : AtN (w.alloc (.cells #[.int .i64 (x : Int)] 3)) w.heap.size 0 [x] := (show RowN (w.alloc (.cells #[.int .i64 (x : Int)] 3)) w.heap.size [x] from rowN_alloc w [x]).at
end Rv
end Go.Proofs.YtapdkibiegeijaaDoor
