/- What ast.Kids answers. Conditions: the nodes lie below the world's end. -/
import Derived.Test.YtnjbhcjdlbmmhaaDoorAstOwn2
import Derived.Test.YtnjbhcjdlbmmhaaDoorAstAre
namespace Go.Proofs.YtnjbhcjdlbmmhaaDoor
open Go.RowKit
open Lx Ax

/-- An append of numbers that came in onto a list of the call's own, in a plain region. -/
theorem nums_onto {ops : Array Oper} {rest : List Oper} {o : Oper} {a : Act} {Q : Exit → Act → World → Prop} {W : World} {B : Nat} {v : Value} {xs : List Int} (h : OwnZ W B v xs) (zs : List Int) (bk of c m : Nat) (hm : m = zs.length) (hz : ∀ (j : Nat) z, zs[j]? = some z → W.cell? ⟨bk, of + j, none⟩ = some (.int .i64 z)) (hB : B ≤ W.heap.size) (hl : xs.length + zs.length < 10000000) (hgd : o.guard = none) (x y : Operand)
    (ho : o.op = .call { callee := .builtin .append, args := #[x, y], argTypes := #[25, 25] }) (hx : a.eval x = v) (hy : a.eval y = .slice (some ⟨bk, of, none⟩) m c)
    (hK : ∀ u w', OwnZ w' B u (xs ++ zs) → Below B W w' → wpList Tryd.prog ops Q rest (a.put o.dst u) w') : wpList Tryd.prog ops Q (o :: rest) a W := by
  subst hm
  refine wpList_plain hgd fun K hKK => ?_
  obtain ⟨i0, hi, hz0, hz1, hz2⟩ := info_parts info_num
  obtain ⟨u, w', hr, h1, h2, _, h4⟩ := run_append_own_at (P := Tryd.prog) W B 25 o.type 3 i0 _ 1 8 Tryd.underlying25 hi hz0 hz1 hz2 rfl (by decide) v xs.length (nums xs)
    h ⟨bk, of, none⟩ zs.length c (nums zs) (by simp [nums]) (fun j u hu => by
      rw [Go.WideShapes.add_plain]
      unfold nums at hu
      rw [List.getElem?_map] at hu
      obtain ⟨z, e, rfl⟩ := Option.map_eq_some_iff.1 hu
      exact hz j z e) (fun u hu => by unfold nums at hu; obtain ⟨z, _, rfl⟩ := List.mem_map.1 hu; rfl) (by unfold maxLen; omega) (by omega) hB
  unfold Oper.wp execOp
  simp only [ho, resolve, invoke, builtin, Sem.run_bind, Sem.run_pure, Result.andThen_ok, List.map_toArray, List.map_cons, List.map_nil, hx, hy, hr]
  refine hKK _ _ (hK u w' ?_ ((Below.refl B W).grown h2 hB fun j hj => (h.lt j hj).1))
  unfold OwnZ nums
  rw [List.length_append, List.map_append]
  exact h1
theorem kids_out (ao : Option Addr) (cap len : Nat) (i : Int) (w : World) (h : i < 0 ∨ (len : Int) ≤ i) :
    Calls Tryd.prog 12 #[.slice ao len cap, .int .i64 i] w fun e w' => e = .returned (.slice none 0 0) ∧ w' = w := by
  rcases Int.lt_or_le i 0 with h0 | h0
  · go_enter Tryd.func12, Tryd.ntmps12
    go_wp2
    go_ret
    exact ⟨rfl, rfl⟩
  · have h1 : (len : Int) ≤ i := by omega
    have h2 : ¬ i < 0 := by omega
    go_enter Tryd.func12, Tryd.ntmps12
    go_wp2
    go_ret
    exact ⟨rfl, rfl⟩
set_option maxRecDepth 10000 in
set_option maxHeartbeats 400000 in
theorem kids_any (n : Nat) (ao : Option Addr) (cap : Nat) (l : List Nd) (w : World) (hN : NodesAt n w ao l) (i : Nat) (hi : i < l.length) (hk : 0 < l[i].kids.length) :
    Calls Tryd.prog 12 #[.slice ao l.length cap, .int .i64 (i : Int)] w fun e w' => ∃ g c, e = .returned (.slice (some ⟨g, 0, none⟩) l[i].kids.length c) ∧ OwnZ w' w.heap.size (.slice (some ⟨g, 0, none⟩) l[i].kids.length c) l[i].kids ∧ Below w.heap.size w w' := by
  obtain ⟨b, v, hao, hbn, hnode⟩ := hN.node i hi
  have hc4 := hnode.kids
  have hlist := hnode.list
  have hi' : (i : Int) < (l.length : Int) := by omega
  have hi2 : ¬ (l.length : Int) ≤ (i : Int) := by omega
  generalize l[i].kids = zs at hlist hk ⊢
  obtain ⟨ako, kcap, rfl, ⟨hkc, hzl⟩, hcz⟩ := hlist
  rcases hcz with h0 | ⟨bk, o, rfl, hb, hcz⟩
  · rw [h0] at hk; simp at hk
  · have HCZ := hid' hcz
    subst hao
    clear hnode hcz
    go_enter Tryd.func12, Tryd.ntmps12
    go_wp2_with (at_builtin; refine nums_onto (OwnZ.nil w w.heap.size) zs bk o kcap zs.length rfl HCZ.out (Nat.le_refl _) (by simp; omega) rfl (.const (.slice none 0 0)) (.tmp 17) (by rfl) (by rfl) (by rfl) ?_; intro u5 w5 q1 q2; have HO5 := hid' q1; have HB5 := hid' q2; clear q1 q2)
    go_ret
    have h5 := HO5.out
    rw [List.nil_append] at h5
    obtain ⟨g, c, e, _⟩ := own_some h5 hk
    subst e
    exact ⟨g, c, rfl, h5, HB5.out⟩
end Go.Proofs.YtnjbhcjdlbmmhaaDoor
