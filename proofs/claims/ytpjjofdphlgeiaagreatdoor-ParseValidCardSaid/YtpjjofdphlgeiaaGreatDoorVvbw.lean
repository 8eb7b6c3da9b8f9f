/- Parts of the proof, together. What smithyref.Ints, Node, Nodes and SameNodes answer: copies, and that they are the same. Conditions: short lists. -/
import Derived.Deep.RegionWith
import Derived.Test.YtpjjofdphlgeiaaGreatDoorVvbg
import Derived.Test.YtpjjofdphlgeiaaGreatDoorVvas
import Derived.Test.YtpjjofdphlgeiaaGreatDoorVvam
namespace Go.Proofs.YtpjjofdphlgeiaaGreatDoor
open Go.RowKit
open Lx Ax

set_option maxRecDepth 10000 in
set_option maxHeartbeats 400000 in
theorem cp_ints (n : Nat) (v : Value) (zs : List Int) (w : World) (hz : KidsAt n w v zs) (hn : n ≤ w.heap.size) (hl : zs.length ≤ 900000) :
    Calls Tryz.prog 45 #[v] w fun e w' => ∃ g cap, e = .returned (.slice (some ⟨g, 0, none⟩) zs.length cap) ∧ OwnZ w' w.heap.size (.slice (some ⟨g, 0, none⟩) zs.length cap) zs ∧ Below w.heap.size w w' := by
  obtain ⟨i0, hi, hz0, hz1, hz2⟩ := info_parts info_num
  have HZ := hid' hz
  obtain ⟨ao, cap, rfl, ⟨hcap, hzl⟩, _⟩ := hz
  go_enter Tryz.func45, Tryz.ntmps45
  go_wp2_with ((with_reducible refine wpList_make_own w rfl _ _ 30 rfl w.heap.size 3 i0 (.int .i64 0) 1 Tryz.underlying30 hi hz0 hz1 .i64 .i64 _ zs.length rfl rfl rfl (by rw [hz2]; omega) (by unfold maxLen; omega) (Nat.le_refl _) ?_); intro w1 hown hg; have HO1 := hid' hown; have HG1 := hid' hg; clear hown hg)
  go_loopw [3, 4] (fun u i wr => ∃ (k g c : Nat), k ≤ zs.length ∧ i = .int .i64 k ∧ u = .slice (some ⟨g, 0, none⟩) k c ∧ Hid (OwnZ wr w.heap.size (.slice (some ⟨g, 0, none⟩) k c) (zs.take k)) ∧ Hid (Below w.heap.size w wr)) (fun _ i _ => zs.length - (intOf i).toNat)
  case atStart => exact ⟨0, w.heap.size, zs.length, Nat.zero_le _, rfl, rfl, HO1, hid' ((Below.refl _ _).grown HG1.out (Nat.le_refl _) (fun k hk => by cases hk))⟩
  case round =>
    obtain ⟨k, g, c, hk, rfl, rfl, ho, hb⟩ := hrel
    by_cases hlt : k < zs.length
    · have hlt' : (k : Int) < (zs.length : Int) := by omega
      obtain ⟨b, o, cap', e, _, hc⟩ := kid_at (HZ.out.keep (hb.out.mono hn) (Nat.le_refl _)) hlt
      injection e with e1 e2 e3
      subst e1 e3
      clear e2
      have htk := List.take_succ_eq_append_getElem hlt
      generalize zs[k] = z at hc htk
      have HTK := hid' htk
      have hsz := hb.out.size
      clear htk
      go_wp2_with (at_builtin; refine num_plain ho.out z (k + 1) (by rw [List.length_take]; omega) hsz (by rw [List.length_take]; omega) rfl (.tmp 14) (.tmp 19) (by rfl) (by rfl) (by rfl) ?_; intro g5 cap5 w5 q1 q2 q3 q4 q5; have HO5 := hid' q1; have HB5 := hid' (hb.out.trans q2); clear q1 q2 q3 q4 q5)
      go_roundw
      case rel => exact ⟨k + 1, g5, cap5, by omega, by go_num, rfl, hid' (by rw [HTK.out]; exact HO5.out), HB5⟩
      case measure => simp [intOf]; omega
    · obtain rfl : k = zs.length := by omega
      go_wp2
      go_ret
      exact ⟨g, c, rfl, by have := ho.out; rwa [List.take_length] at this, hb.out⟩
theorem OwnZ.lower {W : World} {B B' : Nat} {v : Value} {zs : List Int} (h : OwnZ W B v zs) (hB : B' ≤ B) : OwnZ W B' v zs :=
  ⟨h.1, h.2.imp id fun ⟨g, cap, cur, e1, e2, e3⟩ => ⟨g, cap, cur, e1, Nat.le_trans hB e2, e3⟩⟩
set_option maxRecDepth 10000 in
set_option maxHeartbeats 3200000 in
theorem cp_node (n : Nat) (x : Nd) (v : Value) (w : World) (hz : KidsAt n w v x.kids) (hn : n ≤ w.heap.size) (hl : x.kids.length ≤ 900000) :
    Calls Tryz.prog 24 #[ndV x v] w fun e w' => ∃ u, e = .returned (ndV x u) ∧ OwnZ w' w.heap.size u x.kids ∧ Below w.heap.size w w' := by
  obtain ⟨op, num, pos, s, kids⟩ := x
  have hz' := hz
  obtain ⟨a1, c1, rfl, _, _⟩ := hz'
  unfold ndV
  dsimp only at hz hl ⊢
  obtain ⟨w1, hw1⟩ : ∃ w1, w1 = w.alloc (.cells #[.int .i64 op, .int .i64 num, .int .i64 pos, .string s, .slice a1 kids.length c1] 32) := ⟨_, rfl⟩
  obtain ⟨w2, hw2⟩ : ∃ w2, w2 = w1.alloc (.cells #[.int .i64 0, .int .i64 0, .int .i64 0, .string ⟨#[]⟩, .slice none 0 0] 32) := ⟨_, rfl⟩
  have s1 : w1.heap.size = w.heap.size + 1 := by rw [hw1]; simp
  have b1 : Below w.heap.size w w1 := by rw [hw1]; exact (Below.refl _ _).alloc (Nat.le_refl _) _
  have b2 : Below w.heap.size w w2 := by rw [hw2]; exact b1.alloc (by omega) _
  have r1 : RowV w2 w.heap.size 32 [.int .i64 op, .int .i64 num, .int .i64 pos, .string s, .slice a1 kids.length c1] := by
    rw [hw2]
    refine RowV.far (W := w1) ?_ (Below.heap_alloc _ _ _ (by omega))
    rw [hw1]; exact row_new _ _ _
  have r2 : RowV w2 (w.heap.size + 1) 32 [.int .i64 0, .int .i64 0, .int .i64 0, .string ⟨#[]⟩, .slice none 0 0] := by
    rw [hw2, ← s1]; exact row_new _ _ _
  have HI := hid' (fun W' (hb : Below w.heap.size w W') => cp_ints n _ kids W' (hz.keep (hb.mono hn) (Nat.le_refl _)) (by have := hb.size; omega) hl)
  have HC := hid' (fun W' (h : Below w.heap.size w W' ∧ RowV W' w.heap.size 32 [.int .i64 op, .int .i64 num, .int .i64 pos, .string s, .slice a1 kids.length c1] ∧ (∃ z0 z1 z2 z3 z4, RowV W' (w.heap.size + 1) 32 [z0, z1, z2, z3, z4])) => (And.intro (h.2.1.cell (j := 0) rfl) (And.intro (h.2.1.cell (j := 1) rfl) (And.intro (h.2.1.cell (j := 2) rfl) (And.intro (h.2.1.cell (j := 3) rfl) (And.intro (h.2.1.cell (j := 4) rfl) h.2.1.lt))))))
  have HS := hid' (And.intro b2 (And.intro r1 r2))
  have H1 := hid' hw1
  have H2 := hid' hw2
  clear hz b1 b2 r1 r2 hw1 hw2
  go_enter Tryz.func24, Tryz.ntmps24
  go_wp2_with fail
  rw [← H1.out, ← s1, ← H2.out]
  refine wp_region_held_drew (S := fun W' => Below w.heap.size w W' ∧ RowV W' w.heap.size 32 [.int .i64 op, .int .i64 num, .int .i64 pos, .string s, .slice a1 kids.length c1] ∧ (∃ z0 z1 z2 z3 z4, RowV W' (w.heap.size + 1) 32 [z0, z1, z2, z3, z4])) (by kernel_rfl) ⟨HS.out.1.drew, HS.out.2.1.far rfl, _, _, _, _, _, HS.out.2.2.far rfl⟩ (fun hHeld => ?_)
  refine take_val' (i := 0) (v := (.pointer (some ⟨w.heap.size, 0, none⟩))) rfl (by kernel_rfl) (by kernel_rfl) (by kernel_rfl) (some 3) rfl (fun _ _ _ h => h) (Or.inl ⟨by rfl, fun W hW => by go_simp⟩) hHeld ?_
  try simp only [Act.put, List.setIfInBounds_toArray, List.set_cons_zero, List.set_cons_succ]
  refine take_val' (i := 1) (v := (.int .i64 op)) rfl (by kernel_rfl) (by kernel_rfl) (by kernel_rfl) (some 4) rfl (fun _ _ _ h => h) (Or.inl ⟨by rfl, fun W hW => by obtain ⟨y0, y1, y2, y3, y4, yl⟩ := HC.out _ hW; go_simp⟩) hHeld ?_
  try simp only [Act.put, List.setIfInBounds_toArray, List.set_cons_zero, List.set_cons_succ]
  refine take_val' (i := 2) (v := (.pointer (some ⟨w.heap.size, 1, none⟩))) rfl (by kernel_rfl) (by kernel_rfl) (by kernel_rfl) (some 5) rfl (fun _ _ _ h => h) (Or.inl ⟨by rfl, fun W hW => by go_simp⟩) hHeld ?_
  try simp only [Act.put, List.setIfInBounds_toArray, List.set_cons_zero, List.set_cons_succ]
  refine take_val' (i := 3) (v := (.int .i64 num)) rfl (by kernel_rfl) (by kernel_rfl) (by kernel_rfl) (some 6) rfl (fun _ _ _ h => h) (Or.inl ⟨by rfl, fun W hW => by obtain ⟨y0, y1, y2, y3, y4, yl⟩ := HC.out _ hW; go_simp⟩) hHeld ?_
  try simp only [Act.put, List.setIfInBounds_toArray, List.set_cons_zero, List.set_cons_succ]
  refine take_val' (i := 4) (v := (.pointer (some ⟨w.heap.size, 2, none⟩))) rfl (by kernel_rfl) (by kernel_rfl) (by kernel_rfl) (some 7) rfl (fun _ _ _ h => h) (Or.inl ⟨by rfl, fun W hW => by go_simp⟩) hHeld ?_
  try simp only [Act.put, List.setIfInBounds_toArray, List.set_cons_zero, List.set_cons_succ]
  refine take_val' (i := 5) (v := (.int .i64 pos)) rfl (by kernel_rfl) (by kernel_rfl) (by kernel_rfl) (some 8) rfl (fun _ _ _ h => h) (Or.inl ⟨by rfl, fun W hW => by obtain ⟨y0, y1, y2, y3, y4, yl⟩ := HC.out _ hW; go_simp⟩) hHeld ?_
  try simp only [Act.put, List.setIfInBounds_toArray, List.set_cons_zero, List.set_cons_succ]
  refine take_val' (i := 6) (v := (.pointer (some ⟨w.heap.size, 3, none⟩))) rfl (by kernel_rfl) (by kernel_rfl) (by kernel_rfl) (some 9) rfl (fun _ _ _ h => h) (Or.inl ⟨by rfl, fun W hW => by go_simp⟩) hHeld ?_
  try simp only [Act.put, List.setIfInBounds_toArray, List.set_cons_zero, List.set_cons_succ]
  refine take_val' (i := 7) (v := (.string s)) rfl (by kernel_rfl) (by kernel_rfl) (by kernel_rfl) (some 10) rfl (fun _ _ _ h => h) (Or.inl ⟨by rfl, fun W hW => by obtain ⟨y0, y1, y2, y3, y4, yl⟩ := HC.out _ hW; go_simp⟩) hHeld ?_
  try simp only [Act.put, List.setIfInBounds_toArray, List.set_cons_zero, List.set_cons_succ]
  refine take_val' (i := 8) (v := (.pointer (some ⟨w.heap.size, 4, none⟩))) rfl (by kernel_rfl) (by kernel_rfl) (by kernel_rfl) (some 11) rfl (fun _ _ _ h => h) (Or.inl ⟨by rfl, fun W hW => by go_simp⟩) hHeld ?_
  try simp only [Act.put, List.setIfInBounds_toArray, List.set_cons_zero, List.set_cons_succ]
  refine take_val' (i := 9) (v := (.slice a1 kids.length c1)) rfl (by kernel_rfl) (by kernel_rfl) (by kernel_rfl) (some 12) rfl (fun _ _ _ h => h) (Or.inl ⟨by rfl, fun W hW => by obtain ⟨y0, y1, y2, y3, y4, yl⟩ := HC.out _ hW; go_simp⟩) hHeld ?_
  try simp only [Act.put, List.setIfInBounds_toArray, List.set_cons_zero, List.set_cons_succ]
  refine wpAnyH_ready (rs := [10]) (by kernel_rfl) (by simp) ?_
  refine AllReadyH.cons rfl (fun K hK => ?_) AllReadyH.nil
  go_simp
  refine (HI.out _ hHeld.1).mono ?_
  rintro e w3 ⟨g, cap, rfl, ho, q2⟩
  have hs3 : Below w.heap.size w w3 ∧ RowV w3 w.heap.size 32 [.int .i64 op, .int .i64 num, .int .i64 pos, .string s, .slice a1 kids.length c1] ∧ (∃ z0 z1 z2 z3 z4, RowV w3 (w.heap.size + 1) 32 [z0, z1, z2, z3, z4]) := ⟨hHeld.1.trans (q2.mono hHeld.1.size), hHeld.2.1.far (q2.block _ hHeld.2.1.lt), (let ⟨_, _, _, _, _, h⟩ := hHeld.2.2; ⟨_, _, _, _, _, h.far (q2.block _ h.lt)⟩)⟩
  have HO := hid' (ho.lower hHeld.1.size)
  have HG : Hid (w.heap.size + 1 < g) := hid' (by have h1 := (World.ownsRow.lt ho g rfl).1; obtain ⟨_, _, _, _, _, h⟩ := hHeld.2.2; have := h.lt; omega)
  clear ho q2
  refine hK.out _ _ hs3 (fun hHeld => ?_)
  clear hK K hs3
  try simp only [Act.put, List.setIfInBounds_toArray, List.set_cons_zero, List.set_cons_succ]
  refine take_val' (i := 11) (v := (.agg #[.int .i64 op, .int .i64 num, .int .i64 pos, .string s, .slice (some ⟨g, 0, none⟩) kids.length cap])) rfl (by kernel_rfl) (by kernel_rfl) (by kernel_rfl) (some 14) rfl (fun _ _ _ h => h) (Or.inl ⟨by rfl, fun W hW => by go_simp⟩) hHeld ?_
  try simp only [Act.put, List.setIfInBounds_toArray, List.set_cons_zero, List.set_cons_succ]
  refine wpAnyH_ready (rs := [12]) (by kernel_rfl) (by simp) ?_
  refine AllReadyH.cons rfl (fun K hK => ?_) AllReadyH.nil
  obtain ⟨h1, h2, z0, z1, z2, z3, z4, h3⟩ := hHeld
  have c0 := h3.cell (j := 0) rfl
  have c1' := h3.cell (j := 1) rfl
  have c2 := h3.cell (j := 2) rfl
  have c3 := h3.cell (j := 3) rfl
  have c4 := h3.cell (j := 4) rfl
  have o0 := h3.open_ 0
  have o1 := h3.open_ 1
  have o2 := h3.open_ 2
  have o3 := h3.open_ 3
  have o4 := h3.open_ 4
  have ol := h3.lt
  go_simp
  have hR := ((((h3.set 0 (.int .i64 op)).set 1 (.int .i64 num)).set 2 (.int .i64 pos)).set 3 (.string s)).set 4 (.slice (some ⟨g, 0, none⟩) kids.length cap)
  have hB := ((((h1.setCell (p := ⟨w.heap.size + 1, 0, none⟩) (by simp) (.int .i64 op)).setCell (p := ⟨w.heap.size + 1, 1, none⟩) (by simp) (.int .i64 num)).setCell (p := ⟨w.heap.size + 1, 2, none⟩) (by simp) (.int .i64 pos)).setCell (p := ⟨w.heap.size + 1, 3, none⟩) (by simp) (.string s)).setCell (p := ⟨w.heap.size + 1, 4, none⟩) (by simp) (.slice (some ⟨g, 0, none⟩) kids.length cap)
  have far : ∀ k, k ≠ w.heap.size + 1 → (((((w3.setCell ⟨w.heap.size + 1, 0, none⟩ (.int .i64 op)).setCell ⟨w.heap.size + 1, 1, none⟩ (.int .i64 num)).setCell ⟨w.heap.size + 1, 2, none⟩ (.int .i64 pos)).setCell ⟨w.heap.size + 1, 3, none⟩ (.string s)).setCell ⟨w.heap.size + 1, 4, none⟩ (.slice (some ⟨g, 0, none⟩) kids.length cap)).heap[k]? = w3.heap[k]? := fun k hk =>
    (heap_setCell_other _ _ k _ hk).trans ((heap_setCell_other _ _ k _ hk).trans ((heap_setCell_other _ _ k _ hk).trans ((heap_setCell_other _ _ k _ hk).trans (heap_setCell_other _ _ k _ hk))))
  have HR := hid' hR
  have HB := hid' hB
  have HF := hid' far
  refine hK.out _ _ ⟨hB, h2.far (far _ (by omega)), _, _, _, _, _, hR⟩ (fun _ => ?_)
  refine wpAnyH_done (by kernel_rfl) ?_ _
  clear hR hB far h3 h2 h1
  go_wp2
  refine bodyPost_ret (v := .agg #[.int .i64 op, .int .i64 num, .int .i64 pos, .string s, .slice (some ⟨g, 0, none⟩) kids.length cap]) ?_ rfl ⟨.slice (some ⟨g, 0, none⟩) kids.length cap, rfl, ?_, HB.out⟩
  · exact results_cell_row (fn := Tryz.f24) (p := 2) (ty := 32) (by kernel_rfl) _ _ (w.heap.size + 1) _ #[.int .i64 op, .int .i64 num, .int .i64 pos, .string s, .slice (some ⟨g, 0, none⟩) kids.length cap] (0, 0) _ rfl HR.out Tryz.underlying32 rfl (by kernel_rfl)
  · refine HO.out.keep fun k hk _ => HF.out k ?_
    simp only [Value.ownBlock, Option.some.injEq] at hk
    have := HG.out
    omega
set_option maxRecDepth 100000 in
set_option maxHeartbeats 1600000 in
theorem sameNodes_eq (a1 a2 : Option Addr) (c1 c2 m : Nat) (l : List Nd) (hm : m = l.length) (w : World) (hl : l.length ≤ 1000000) (h1 : NodesAt w.heap.size w a1 l) (h2 : NodesAt w.heap.size w a2 l) :
    Calls Tryz.prog 12 #[.slice a1 m c1, .slice a2 m c2] w fun e w' => e = .returned (.bool true) ∧ Below w.heap.size w w' := by
  subst hm
  have H1 := hid' h1
  have H2 := hid' h2
  clear h1 h2
  go_enter Tryz.func12, Tryz.ntmps12
  go_wp2
  go_loopw [5] (fun i wr => ∃ k : Nat, k ≤ l.length ∧ i = .int .i64 k ∧ Hid (Below w.heap.size w wr)) (fun i _ => l.length - (intOf i).toNat)
  case atStart => exact ⟨0, Nat.zero_le _, rfl, hid' (Below.refl _ _)⟩
  case round =>
    obtain ⟨k, hk, rfl, hb⟩ := hrel
    by_cases hlt : k < l.length
    · obtain ⟨g1, v1, rfl, hg1, N1⟩ := (H1.out.keep hb.out hb.out.size).node k hlt
      obtain ⟨g2, v2, rfl, hg2, N2⟩ := (H2.out.keep hb.out hb.out.size).node k hlt
      generalize l[k] = x at N1 N2
      have HSN := fun W' (hb' : Below wr.heap.size wr W') => hid' (sameNode_eq x v1 v2 W' (N1.list.keep hb' hb'.size) (N2.list.keep hb' hb'.size))
      unfold ndV at HSN
      obtain ⟨n10, n11, n12, n13, n14, _⟩ := N1
      obtain ⟨n20, n21, n22, n23, n24, _⟩ := N2
      have i1 : (0 : Int) ≤ (k : Int) ∧ (k : Int) < (l.length : Int) := by omega
      go_wp2_with fail
      go_region_with (go_at_call 13; refine Calls.mono (HSN _ ?_).out ?_; (· exact (Below.refl _ _).drew); rintro e w4 ⟨rfl, q4⟩; have HQ4 := hid' (hb.out.trans (((Below.refl wr.heap.size wr).drew.trans q4).mono hb.out.size)); clear q4)
      all_goals (
        go_wp2
        go_roundw
        case rel => exact ⟨k + 1, by omega, by go_num, HQ4⟩
        case measure => simp [intOf]; omega)
    · obtain rfl : k = l.length := by omega
      go_wp2
      go_ret
      exact ⟨rfl, hb.out⟩
set_option maxRecDepth 10000 in
set_option maxHeartbeats 1600000 in
theorem cp_nodes (ao : Option Addr) (cap : Nat) (l : List Nd) (w : World) (hN : NodesAt w.heap.size w ao l) (hl : l.length ≤ 900000) (hk : ∀ x ∈ l, x.kids.length ≤ 900000) :
    Calls Tryz.prog 11 #[.slice ao l.length cap] w fun e w' => ∃ g c vs, e = .returned (.slice (some ⟨g, 0, none⟩) l.length c) ∧ Tr w' w.heap.size (.slice (some ⟨g, 0, none⟩) l.length c) l vs ∧ Below w.heap.size w w' := by
  obtain ⟨i0, hi, hz0, hz1, hz2⟩ := info_parts info_node
  have HN := hid' hN
  have HK := hid' hk
  clear hN hk
  go_enter Tryz.func11, Tryz.ntmps11
  go_wp2_with ((with_reducible refine wpList_make_own w rfl _ _ 23 rfl w.heap.size 32 i0 _ 5 Tryz.underlying23 hi hz0 hz1 .i64 .i64 _ l.length rfl rfl rfl (by rw [hz2]; omega) (by unfold maxLen; omega) (Nat.le_refl _) ?_); intro w1 hown hg; have HO1 := hid' hown; have HG1 := hid' hg; clear hown hg)
  go_loopw [3, 4] (fun u i wr => ∃ (k g c : Nat), k ≤ l.length ∧ i = .int .i64 k ∧ u = .slice (some ⟨g, 0, none⟩) k c ∧ Hid (∃ vs, Tr wr w.heap.size (.slice (some ⟨g, 0, none⟩) k c) (l.take k) vs) ∧ Hid (Below w.heap.size w wr)) (fun _ i _ => l.length - (intOf i).toNat)
  case atStart => exact ⟨0, w.heap.size, l.length, Nat.zero_le _, rfl, rfl, hid' ⟨[], HO1.out, rfl, fun j x v h => by simp at h, fun x h => by simp at h, fun i j vi vj _ h => by simp at h⟩, hid' ((Below.refl _ _).grown HG1.out (Nat.le_refl _) (fun k hk => by cases hk))⟩
  case round =>
    obtain ⟨k, g, c, hk, rfl, rfl, ho, hb⟩ := hrel
    have hsz := hb.out.size
    by_cases hlt : k < l.length
    · have hlt' : (k : Int) < (l.length : Int) := by omega
      obtain ⟨b, v, rfl, hbn, N⟩ := (HN.out.keep hb.out hsz).node k hlt
      have hkx := HK.out l[k] (List.getElem_mem hlt)
      have htk := List.take_succ_eq_append_getElem hlt
      generalize l[k] = x at N hkx htk
      have HC := hid' (cp_node wr.heap.size x v wr N.list (Nat.le_refl _) hkx)
      unfold ndV at HC
      obtain ⟨n0, n1, n2, n3, n4, _⟩ := N
      have HTK := hid' htk
      clear htk
      go_wp2_with fail
      refine (HC.out).mono ?_
      rintro e w4 ⟨u, rfl, hu, q4⟩
      obtain ⟨vs, hT⟩ := ho.out
      have hT4 := hT.keep fun k _ hk => q4.block k hk
      have hap : ∀ (i j : Nat) vi vj, i ≠ j → (vs ++ [u])[i]? = some vi → (vs ++ [u])[j]? = some vj → ∀ k, vi.ownBlock = some k → vj.ownBlock ≠ some k := Apart.more hT.apart (fun j y hy m hm hm2 => by
        have hj : j < (l.take k).length := by rw [← hT.len]; exact (List.getElem?_eq_some_iff.1 hy).1
        have h1 := (World.ownsRow.lt (hT.kid j _ y (List.getElem?_eq_getElem hj) hy) m hm).2
        have h2 := (World.ownsRow.lt hu m hm2).1
        omega)
      have hlen : (l.take k).length = k := by rw [List.length_take]; omega
      have HU := hid' (hu.lower hsz)
      have HT4 := hid' hT4
      have HAP := hid' hap
      have HB4 := hid' (hb.out.trans (q4.mono hsz))
      have hsz4 := HB4.out.size
      clear hu q4 hT hT4 hap ho HC
      go_wp2_with (at_builtin; refine nodes_plain HT4.out [x] [u] rfl (by simp) (fun j y y' h1 h2 => by cases j with | zero => (simp at h1 h2; subst h1 h2; exact HU.out) | succ j => simp at h1) (fun y hy => by rw [List.mem_singleton.1 hy]; omega) HAP.out (k + 1) 1 rfl (by rw [hlen]; rfl) hsz4 (by omega) _ rfl rfl (.tmp 14) (.tmp 20) (by rfl) (by rfl) (by rfl) ?_; intro g5 cap5 w5 q1 q2 q3 q4; have HO5 := hid' q1; have HB5 := hid' (HB4.out.trans q2); clear q1 q2 q3 q4)
      go_roundw
      case rel => exact ⟨k + 1, g5, cap5, by omega, by go_num, rfl, hid' ⟨_, by rw [HTK.out]; exact HO5.out⟩, HB5⟩
      case measure => simp [intOf]; omega
    · obtain rfl : k = l.length := by omega
      obtain ⟨vs, hT⟩ := ho.out
      rw [List.take_length] at hT
      have HT := hid' hT
      clear hT ho
      go_wp2
      go_ret
      exact ⟨g, c, vs, rfl, HT.out, hb.out⟩
end Go.Proofs.YtpjjofdphlgeiaaGreatDoor
