/- Parts of the proof, together. The law's first answer. Conditions: the words and the errors of api lie in their variables. -/
import Derived.BigQuiet
import Derived.Test.YtpjjofdphlgeiaaGreatDoorVvbu
import Derived.Test.YtpjjofdphlgeiaaGreatDoorVvad
namespace Go.Proofs.YtpjjofdphlgeiaaGreatDoor
open Go.RowKit
open Lx Ax Px

/-- The words and the errors of api lie in their variables. -/
structure PCx (A : Nat → Addr) (W : World) : Prop where
  vars : Vars A W
  sent : Sent A W
theorem PCx.below {A : Nat → Addr} {W W' : World} (h : PCx A W) (hb : Below W.heap.size W W') : PCx A W' := ⟨h.vars.below hb, h.sent.below hb⟩
theorem PCx.ev {A : Nat → Addr} {W : World} (h : PCx A W) : EV A W.heap.size W := ⟨h.sent.g1, h.sent.g7, ⟨World.block_lt_of_cell? W _ h.sent.g1, World.block_lt_of_cell? W _ h.sent.g7⟩, h.vars.words, World.block_lt_of_cell? W ⟨17, 0 + 0, none⟩ (h.vars.words 0 _ rfl)⟩
/-- The words and the errors that the parser itself asks for lie in their variables. -/
structure PCy (A : Nat → Addr) (W : World) : Prop where
  vars : Vars A W
  parse : W.cell? ⟨3, 0, none⟩ = some (E A 1)
  limit : W.cell? ⟨2, 0, none⟩ = some (E A 7)
theorem PCy.below {A : Nat → Addr} {W W' : World} (h : PCy A W) (hb : Below W.heap.size W W') : PCy A W' := ⟨h.vars.below hb, (hb.cell (World.block_lt_of_cell? W _ h.parse)).trans h.parse, (hb.cell (World.block_lt_of_cell? W _ h.limit)).trans h.limit⟩
theorem PCy.ev {A : Nat → Addr} {W : World} (h : PCy A W) : EV A W.heap.size W := ⟨h.parse, h.limit, ⟨World.block_lt_of_cell? W _ h.parse, World.block_lt_of_cell? W _ h.limit⟩, h.vars.words, World.block_lt_of_cell? W ⟨17, 0 + 0, none⟩ (h.vars.words 0 _ rfl)⟩
theorem PCx.y {A : Nat → Addr} {W : World} (h : PCx A W) : PCy A W := ⟨h.vars, h.sent.g1, h.sent.g7⟩
def O6 : List Int := [6, 4, 4, 21, 36, 47]
def P6 : List Int := [0, 4, 8, 6, 2, 2]
theorem first_nodes : ∃ l, Px.treeF 60 .file [120, 32, 61, 32, 49, 32, 43, 32, 50] = some (.ok l) ∧ l.map (fun x => (x.op, x.pos)) = [(6, 0), (4, 4), (4, 8), (21, 6), (36, 2), (47, 2)] := by
  have h := rk_first
  split at h
  · rename_i l hl
    exact ⟨l, hl, by simpa using h⟩
  · cases h
/-- The nodes of a list that came out, by their cells. -/
theorem nodes_cells {W : World} {B : Nat} {vl : Value} {l : List Nd} {vs : List Value} (h : Tr W B vl l vs) (hp : 0 < l.length) : ∃ g cap, vl = .slice (some ⟨g, 0, none⟩) l.length cap ∧ g < W.heap.size ∧ ∀ (j : Nat) x, l[j]? = some x → W.cell? ⟨g, j * 5, none⟩ = some (.int .i64 x.op) ∧ W.cell? ⟨g, j * 5 + 2, none⟩ = some (.int .i64 x.pos) := by
  obtain ⟨g, cap, e, _, _, hg, _⟩ := own_some h.own hp
  subst e
  refine ⟨g, cap, rfl, hg, fun j x hx => ?_⟩
  obtain ⟨v, _, N, _⟩ := h.cells j x hx
  exact ⟨N.op, N.pos⟩
set_option maxRecDepth 20000 in
set_option maxHeartbeats 3200000 in
theorem pfirstY_any (A : Nat → Addr) (W : World) (h : PCy A W) : Calls Tryz.prog 8 #[] W fun e w' => e = .returned (.bool true) ∧ Below W.heap.size W w' := by
  obtain ⟨l, hl, hm⟩ := first_nodes
  have hlen : l.length = 6 := by have := congrArg List.length hm; simpa using this
  have hat : ∀ j, j < 6 → ∃ x, l[j]? = some x ∧ x.op = O6.getD j 0 ∧ x.pos = P6.getD j 0 := by
    intro j hj
    have hx : l[j]? = some l[j] := List.getElem?_eq_getElem (by omega)
    refine ⟨l[j], hx, ?_⟩
    have h1 : (l.map (fun x => (x.op, x.pos)))[j]? = some (l[j].op, l[j].pos) := by rw [List.getElem?_map, hx]; rfl
    rw [hm] at h1
    have h2 : j = 0 ∨ j = 1 ∨ j = 2 ∨ j = 3 ∨ j = 4 ∨ j = 5 := by omega
    rcases h2 with rfl | rfl | rfl | rfl | rfl | rfl <;> (simp at h1; simp [O6, P6, h1.1.symm, h1.2.symm])
  have HT := hid' (parse_any A ⟨#[120, 32, 61, 32, 49, 32, 43, 32, 50]⟩ (by decide) W h.vars h.ev 60 (.ok l) hl)
  have hn2 := neq_none
  clear h hl hm
  go_enter Tryz.func8, Tryz.ntmps8
  go_wp2_with fail
  refine Calls.mono HT.out ?_
  rintro e w2 ⟨b2, B, vl, vs, rfl, hB, hT⟩
  obtain ⟨g, cap, rfl, hg, hc⟩ := nodes_cells hT (by omega)
  rw [hlen]
  have HC : Hid (∀ j, j < 6 → w2.cell? ⟨g, j * 5, none⟩ = some (.int .i64 (O6.getD j 0)) ∧ w2.cell? ⟨g, j * 5 + 2, none⟩ = some (.int .i64 (P6.getD j 0))) := hid' (fun j hj => by
    obtain ⟨x, hx, e1, e2⟩ := hat j hj
    have := hc j x hx
    rwa [e1, e2] at this)
  have HB := hid' b2
  clear hT hc hat b2 HT hlen
  go_wp2_with fail
  go_loopg [4] 6 (fun gk u4 wr => ∃ i : Nat, i + gk = 6 ∧ u4 = .int .i64 (i : Int) ∧ Hid (Below (w2.alloc (.cells #[.int .i64 6, .int .i64 4, .int .i64 4, .int .i64 21, .int .i64 36, .int .i64 47] 3)).heap.size (w2.alloc (.cells #[.int .i64 6, .int .i64 4, .int .i64 4, .int .i64 21, .int .i64 36, .int .i64 47] 3)) wr))
  case atStart => exact ⟨0, rfl, rfl, hid' (Below.refl _ _)⟩
  case round =>
    obtain ⟨i, hi, rfl, HBR⟩ := hrel
    have hrw := row_new w2 3 [.int .i64 6, .int .i64 4, .int .i64 4, .int .i64 21, .int .i64 36, .int .i64 47]
    have hgr : g < (w2.alloc (.cells #[.int .i64 6, .int .i64 4, .int .i64 4, .int .i64 21, .int .i64 36, .int .i64 47] 3)).heap.size := by simp; omega
    have hcell : ∀ o, wr.cell? ⟨g, o, none⟩ = w2.cell? ⟨g, o, none⟩ := fun o => World.cell?_of_block (w := w2) ((HBR.out.block g hgr).trans (Below.heap_alloc _ _ _ hg))
    have hrow := hrw.far (HBR.out.block _ hrw.lt)
    by_cases hlt : i < 6
    · have hli : (i : Int) < 6 := by omega
      obtain ⟨k1, k2⟩ := HC.out i hlt
      rw [← hcell] at k1
      have k3 : wr.cell? ⟨w2.heap.size, i, none⟩ = some (.int .i64 (O6.getD i 0)) := by
        have h2 : i = 0 ∨ i = 1 ∨ i = 2 ∨ i = 3 ∨ i = 4 ∨ i = 5 := by omega
        rcases h2 with rfl | rfl | rfl | rfl | rfl | rfl <;> exact hrow.cell rfl
      generalize O6.getD i 0 = o at k1 k3
      have hoo : (o != o) = false := by simp
      have hb1 : (0 : Int) ≤ (i : Int) ∧ (i : Int) < 6 := by omega
      have hwi : IntKind.i64.wrap ((i : Int) + 1) = ((i + 1 : Nat) : Int) := by rw [IntWalk.i64_in _ ⟨by omega, by omega⟩]; omega
      have HI := hid' hi
      clear hrw hgr hcell hrow k2 hi HC
      go_wp2
      go_region
      all_goals (
        go_wp2
        go_roundg (gk - 1)
        case measure => have := HI.out; omega
        case rel => exact ⟨i + 1, by have := HI.out; omega, by simp, hid' HBR.out.drew⟩)
    · obtain rfl : i = 6 := by omega
      have k4 := (HC.out 4 (by omega)).2
      have k5 := (HC.out 3 (by omega)).2
      rw [← hcell] at k4 k5
      have HBZ : Hid (Below W.heap.size W wr) := hid' (HB.out.trans (((Below.refl w2.heap.size w2).alloc (Nat.le_refl _) _ |>.trans (HBR.out.mono (by simp))).mono HB.out.size))
      clear hrw hgr hcell hrow HC HB HBR
      go_wp2
      go_returns
      exact ⟨rfl, HBZ.out⟩
theorem pfirst_any (A : Nat → Addr) (W : World) (h : PCx A W) : Calls Tryz.prog 8 #[] W fun e w' => e = .returned (.bool true) ∧ Below W.heap.size W w' := pfirstY_any A W h.y
end Go.Proofs.YtpjjofdphlgeiaaGreatDoor
