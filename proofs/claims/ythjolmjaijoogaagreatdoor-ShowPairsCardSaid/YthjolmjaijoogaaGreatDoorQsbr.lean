/- Parts of the proof, together. What slices.Grow of no nodes and slices.Concat of two lists of nodes answer. Conditions: few nodes. -/
import Derived.Lib.AppendZerosOnto
import Derived.Lib.SliceRun
import Derived.WalkKit
import Derived.Test.YthjolmjaijoogaaGreatDoorQsay
namespace Go.Proofs.YthjolmjaijoogaaGreatDoor
open Go.RowKit
open Lx Ax

/-- Cells of nodes, in a row of the call's own. -/
def OwnN (W : World) (B : Nat) (v : Value) (n : Nat) (xs : List Value) : Prop := W.ownsRow B 39 5 v n xs
def SrcAt (W : World) (g : Nat) (xs : List Value) : Prop := ∀ (j : Nat) u, xs[j]? = some u → W.cell? ⟨g, j, none⟩ = some u
theorem SrcAt.keep {W W' : World} {g : Nat} {xs : List Value} (h : SrcAt W g xs) (e : W'.heap[g]? = W.heap[g]?) : SrcAt W' g xs := fun j u hu => (World.cell?_of_block (w := W) e).trans (h j u hu)
set_option maxRecDepth 100000 in
set_option maxHeartbeats 4000000 in
theorem grow_any (n : Nat) (h0 : 0 < n) (hn : n ≤ 100000) (w : World) : Calls Tryz.prog 77 #[.slice none 0 0, .int .i64 (n : Int)] w fun e w' => ∃ g cap, e = .returned (.slice (some ⟨g, 0, none⟩) 0 cap) ∧ OwnN w' w.heap.size (.slice (some ⟨g, 0, none⟩) 0 cap) 0 [] ∧ Below w.heap.size w w' := by
  obtain ⟨i0, hi, hz0, hz1, hz2⟩ := info_parts info_node
  have hrz : ∀ ty, (Builtin.append_ #[23, 3] ty #[.slice none 0 0, .int .i64 (n : Int)]).run Tryz.prog w = .ok (.slice (some ⟨w.heap.size, 0, none⟩) n (grownCap w n 0 39)) (w.drew.alloc (.cells ((#[] : Array Value) ++ Builtin.zeroCells (Value.agg #[.int .i64 0, .int .i64 0, .int .i64 0, .string ⟨#[]⟩, .slice none 0 0]).cells n ++ Builtin.zeroCells (Value.agg #[.int .i64 0, .int .i64 0, .int .i64 0, .string ⟨#[]⟩, .slice none 0 0]).cells (grownCap w n 0 39 - n)) 39)) := fun ty => by
    have h := Lib.run_append_grow_zeros (P := Tryz.prog) w 23 3 ty 39 i0 _ .i64 .i64 Tryz.underlying23 Tryz.underlying3 hi hz0 none 0 0 [] (run_firstCells_none w.drew i0.size 0 0 0) n h0 (by rw [hz1]; omega) (by omega) (by omega) (by rw [hz2]; omega) (growslice_fits (by omega) (by rw [hz2]; omega))
    rw [Nat.zero_add] at h
    exact h
  have hG := grownCap_ge w n 0 39
  have hG2 := grownCap_le_maxLen w n 0 39 (by unfold maxLen; omega)
  generalize grownCap w n 0 39 = G at hrz hG hG2
  have hG63 : G ≤ 9223372036854775807 := by unfold maxLen at hG2; omega
  have hcs : ((#[] : Array Value) ++ Builtin.zeroCells (Value.agg #[.int .i64 0, .int .i64 0, .int .i64 0, .string ⟨#[]⟩, .slice none 0 0]).cells n ++ Builtin.zeroCells (Value.agg #[.int .i64 0, .int .i64 0, .int .i64 0, .string ⟨#[]⟩, .slice none 0 0]).cells (G - n)).size = G * 5 := by
    rw [Array.size_append, Array.size_append, size_zeroCells, size_zeroCells]
    show 0 + n * 5 + (G - n) * 5 = G * 5
    omega
  generalize ((#[] : Array Value) ++ Builtin.zeroCells (Value.agg #[.int .i64 0, .int .i64 0, .int .i64 0, .string ⟨#[]⟩, .slice none 0 0]).cells n ++ Builtin.zeroCells (Value.agg #[.int .i64 0, .int .i64 0, .int .i64 0, .string ⟨#[]⟩, .slice none 0 0]).cells (G - n)) = cur at hrz hcs
  have HF : Hid (OwnN (w.drew.alloc (.cells cur 39)) w.heap.size (.slice (some ⟨w.heap.size, 0, none⟩) 0 G) 0 [] ∧ Below w.heap.size w (w.drew.alloc (.cells cur 39))) :=
    hid' ⟨⟨rfl, .inr ⟨w.heap.size, G, cur, rfl, Nat.le_refl _, heap_alloc_new w.drew _, Nat.zero_le _, hG2, hcs, by simp⟩⟩, ((Below.refl w.heap.size w).drew).alloc (Nat.le_refl _) _⟩
  have hni : (0 : Int) < (n : Int) := by omega
  go_enter Tryz.func77, Tryz.ntmps77
  go_wp2_with (at_builtin; refine Lib.wpList_append_run _ rfl _ _ _ _ rfl _ _ rfl rfl _ _ (hrz _) ?_)
  all_goals (go_ret; exact ⟨_, _, rfl, HF.out.1, HF.out.2⟩)
/-- An append of nodes that lie somewhere else. -/
theorem app_nodes {ops : Array Oper} {rest : List Oper} {o : Oper} {a : Act} {Q : Exit → Act → World → Prop} {W : World} {B : Nat} {v : Value} {n : Nat} {xs : List Value} (h : OwnN W B v n xs) (g m c : Nat) (ys : List Value) (hl : ys.length = m * 5) (hs : SrcAt W g ys) (h1 : ∀ u ∈ ys, u.oneCell' = true) (hnm : n + m ≤ 100000) (hB : B ≤ W.heap.size)
    (hgd : o.guard = none) (x y : Operand) (ho : o.op = .call { callee := .builtin .append, args := #[x, y], argTypes := #[23, 23] }) (hx : a.eval x = v) (hy : a.eval y = .slice (some ⟨g, 0, none⟩) m c)
    (hK : ∀ v' w', OwnN w' B v' (n + m) (xs ++ ys) → Below B W w' → (∀ k, k < W.heap.size → v.ownBlock ≠ some k → w'.heap[k]? = W.heap[k]?) → wpList Tryz.prog ops Q rest (a.put o.dst v') w') : wpList Tryz.prog ops Q (o :: rest) a W := by
  obtain ⟨i0, hi, hz0, hz1, hz2⟩ := info_parts info_node
  refine wpList_plain hgd fun K hKK => ?_
  obtain ⟨u, w', hr, h2, h3, _, _⟩ := run_append_own_at (P := Tryz.prog) W B 23 o.type 39 i0 _ 5 64 Tryz.underlying23 hi hz0 hz1 hz2 rfl (by decide) v n xs h ⟨g, 0, none⟩ m c ys hl (fun j u hu => by
    rw [Go.WideShapes.add_plain, Nat.zero_add]
    exact hs j u hu) h1 (by unfold maxLen; omega) (by omega) hB
  have hbl : ∀ k, k < W.heap.size → v.ownBlock ≠ some k → w'.heap[k]? = W.heap[k]? := fun k hk hne => h3.block k hk (Ne.symm hne)
  unfold Oper.wp execOp
  simp only [ho, resolve, invoke, builtin, Sem.run_bind, Sem.run_pure, Result.andThen_ok, List.map_toArray, List.map_cons, List.map_nil, hx, hy, hr]
  exact hKK _ _ (hK u w' h2 ((Below.refl B W).grown h3 hB (fun k hk => (h.lt k hk).1)) hbl)
set_option maxRecDepth 100000 in
set_option maxHeartbeats 4000000 in
theorem concat_any (gs ga ca gb cb na nb : Nat) (xa xb : List Value) (W : World) (hsl : RowV W gs 23 [.slice (some ⟨ga, 0, none⟩) na ca, .slice (some ⟨gb, 0, none⟩) nb cb]) (hA : xa.length = na * 5) (sA : SrcAt W ga xa) (oA : ∀ u ∈ xa, u.oneCell' = true) (lA : ga < W.heap.size)
    (hBl : xb.length = nb * 5) (sB : SrcAt W gb xb) (oB : ∀ u ∈ xb, u.oneCell' = true) (lB : gb < W.heap.size) (hn : na + nb ≤ 100000) (hpos : 0 < na + nb) :
    Calls Tryz.prog 44 #[.slice (some ⟨gs, 0, none⟩) 2 2] W fun e w' => ∃ v, e = .returned v ∧ OwnN w' W.heap.size v (na + nb) (xa ++ xb) ∧ Below W.heap.size W w' := by
  have HSL := hid' hsl
  have HSA := hid' sA
  have HSB := hid' sB
  have c0 := hsl.cell (j := 0) rfl
  have c1 := hsl.cell (j := 1) rfl
  have HGR := hid' (grow_any (na + nb) hpos (by omega) W)
  have wa : IntKind.i64.wrap (na : Int) = (na : Int) := by rw [IntWalk.i64_in _ ⟨by omega, by omega⟩]
  have wab : IntKind.i64.wrap ((na : Int) + (nb : Int)) = (na : Int) + (nb : Int) := by rw [IntWalk.i64_in _ ⟨by omega, by omega⟩]
  have hneg : ¬ (na : Int) < 0 := by omega
  have hneg2 : ¬ (na : Int) + (nb : Int) < 0 := by omega
  clear sA sB
  go_enter Tryz.func44, Tryz.ntmps44
  go_wp2
  go_loopw [3, 11] (fun z c wr => ∃ j : Nat, j ≤ 2 ∧ c = .int .i64 (j : Int) ∧ z = .int .i64 ((if j = 0 then 0 else if j = 1 then na else na + nb : Nat) : Int) ∧ wr = W) (fun _ c _ => 2 - (intOf c).toNat)
  case atStart => exact ⟨0, by omega, rfl, rfl, rfl⟩
  case round =>
    obtain ⟨j, hj, rfl, rfl, rfl⟩ := hrel
    obtain rfl | rfl | rfl : j = 0 ∨ j = 1 ∨ j = 2 := by omega
    · go_wp2
      go_roundw
      case rel => exact ⟨1, by omega, rfl, by simp, trivial⟩
      case measure => simp [intOf]
    · go_wp2
      go_roundw
      case rel => exact ⟨2, by omega, rfl, by simp, trivial⟩
      case measure => simp [intOf]
    · rw [show ((if (2 : Nat) = 0 then 0 else if (2 : Nat) = 1 then na else na + nb : Nat) : Int) = ((na + nb : Nat) : Int) from rfl]
      clear c0 c1
      obtain ⟨wz, rfl⟩ : ∃ wz, wz = wr := ⟨_, rfl⟩
      go_wp2_with fail
      refine Calls.mono HGR.out ?_
      rintro e w2 ⟨g, cap, rfl, ho, hb⟩
      have HO := hid' ho
      have HB := hid' hb
      clear ho hb HGR
      go_wp2_with fail
      go_loopw [6, 27] (fun z c wq => ∃ (j : Nat) (v : Value), j ≤ 2 ∧ c = .int .i64 (j : Int) ∧ z = v ∧ Hid (OwnN wq wz.heap.size v (if j = 0 then 0 else if j = 1 then na else na + nb) (if j = 0 then [] else if j = 1 then xa else xa ++ xb)) ∧ Hid (Below wz.heap.size wz wq)) (fun _ c _ => 2 - (intOf c).toNat)
      case atStart => exact ⟨0, _, by omega, rfl, rfl, HO, HB⟩
      case round =>
        obtain ⟨j, v, hj, rfl, rfl, HOj, HBj⟩ := hrel
        clear HO HB
        obtain rfl | rfl | rfl : j = 0 ∨ j = 1 ∨ j = 2 := by omega
        · have HO0 : Hid (OwnN wr wz.heap.size u6 0 []) := HOj
          have cj := (HSL.out.far (HBj.out.block gs HSL.out.lt)).cell (j := 0) rfl
          have SJ := hid' (HSA.out.keep (HBj.out.block ga lA))
          have hsz := HBj.out.size
          clear HOj
          go_wp2_with (at_builtin; refine app_nodes HO0.out ga na ca xa hA SJ.out oA (by omega) hsz rfl (.tmp 31) (.tmp 32) (by rfl) (by rfl) (by rfl) ?_; intro v5 w5 q1 q2 q3; have HO5 := hid' q1; have HB5 := hid' (HBj.out.trans q2); clear q1 q2 q3)
          go_roundw
          case rel => exact ⟨1, v5, by omega, rfl, rfl, hid' (by have := HO5.out; simpa using this), HB5⟩
          case measure => simp [intOf]
        · have HO0 : Hid (OwnN wr wz.heap.size u6 na xa) := HOj
          have cj := (HSL.out.far (HBj.out.block gs HSL.out.lt)).cell (j := 1) rfl
          have SJ := hid' (HSB.out.keep (HBj.out.block gb lB))
          have hsz := HBj.out.size
          clear HOj
          go_wp2_with (at_builtin; refine app_nodes HO0.out gb nb cb xb hBl SJ.out oB (by omega) hsz rfl (.tmp 31) (.tmp 32) (by rfl) (by rfl) (by rfl) ?_; intro v5 w5 q1 q2 q3; have HO5 := hid' q1; have HB5 := hid' (HBj.out.trans q2); clear q1 q2 q3)
          go_roundw
          case rel => exact ⟨2, v5, by omega, rfl, rfl, hid' (by have := HO5.out; simpa using this), HB5⟩
          case measure => simp [intOf]
        · have HO0 : Hid (OwnN wr wz.heap.size u6 (na + nb) (xa ++ xb)) := HOj
          clear HOj
          go_wp2
          go_ret
          exact ⟨_, rfl, HO0.out, HBj.out⟩
end Go.Proofs.YthjolmjaijoogaaGreatDoor
