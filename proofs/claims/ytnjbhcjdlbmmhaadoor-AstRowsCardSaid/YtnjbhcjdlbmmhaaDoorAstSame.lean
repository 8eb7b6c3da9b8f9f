/- What ast.Same answers of a tree and itself. Conditions: the nodes lie below the world's end; at most 2^20. -/
import Derived.Test.YtnjbhcjdlbmmhaaDoorAstDeep
import Derived.Test.YtnjbhcjdlbmmhaaDoorAstAre
import Derived.Test.YtnjbhcjdlbmmhaaDoorTake
namespace Go.Proofs.YtnjbhcjdlbmmhaaDoor
open Go.RowKit
open Lx Ax

namespace Ax
theorem takeF_mem : ∀ {zs : List Int} {k k' : List Bool} {i : Nat}, takeF zs k = some k' → k'[i]? = some true → k[i]? = some true ∨ (i : Int) ∈ zs
  | [], k, k', i, h, hi => by
    obtain rfl := Option.some.inj h
    exact .inl hi
  | z :: r, k, k', i, h, hi => by
    rw [takeF] at h
    split at h
    · rename_i hz
      rcases takeF_mem h hi with h1 | h1
      · by_cases e : z.toNat = i
        · right
          have : z = (i : Int) := by omega
          rw [this]; simp
        · rw [List.getElem?_set_ne e] at h1
          exact .inl h1
      · exact .inr (List.mem_cons_of_mem _ h1)
    · cases h
theorem treeF_mem : ∀ {l : List Nd} {k k' : List Bool} {i : Nat}, treeF l k = some k' → k'[i]? = some true → k[i]? = some true ∨ ∃ (j : Nat) (x : Nd), l[j]? = some x ∧ (i : Int) ∈ x.kids
  | [], k, k', i, h, hi => by
    obtain rfl := Option.some.inj h
    exact .inl hi
  | x :: r, k, k', i, h, hi => by
    rw [treeF] at h
    cases h2 : takeF x.kids k with
    | none => rw [h2] at h; cases h
    | some k1 =>
      rw [h2] at h
      rcases treeF_mem h hi with h3 | ⟨j, y, h3, h4⟩
      · have hl : i < k1.length := by
          have := (List.getElem?_eq_some_iff.1 h3).1
          by_cases hi1 : i < k1.length
          · exact hi1
          · exfalso
            rw [List.getElem?_append_right (by omega)] at h3
            have h5 := (List.getElem?_eq_some_iff.1 h3).1
            simp at h5
            have : i - k1.length = 0 := by omega
            rw [this] at h3
            simp at h3
        rw [List.getElem?_append_left hl] at h3
        rcases takeF_mem h2 h3 with h4 | h4
        · exact .inl h4
        · exact .inr ⟨0, x, rfl, h4⟩
      · exact .inr ⟨j + 1, y, h3, h4⟩
/-- Each node of a tree but the last one is some node's kid. -/
theorem tree_kid {l : List Nd} (h : isTreeF l = true) (i : Nat) (hi : i + 1 < l.length) : ∃ (j : Nat) (x : Nd), l[j]? = some x ∧ (i : Int) ∈ x.kids := by
  obtain ⟨K, h1, h2⟩ := isTreeF_some h
  have hl := treeF_length h1
  rw [List.length_nil, Nat.zero_add] at hl
  unfold wholeF at h2
  simp only [Bool.and_eq_true, Bool.not_eq_true', List.all_eq_true, id] at h2
  have h3 : K[i]? = some true := by
    have hd : i < K.dropLast.length := by rw [List.length_dropLast]; omega
    have := h2.2 _ (List.getElem_mem hd)
    rw [List.getElem_dropLast] at this
    rw [List.getElem?_eq_getElem (by omega), this]
  rcases treeF_mem h1 h3 with h4 | h4
  · simp at h4
  · exact h4
end Ax
/-- Which nodes have been paired when those from m on have been looked at. -/
def Paired (l : List Nd) (m : Nat) (P : List Int) : Prop := P.length = l.length ∧ ∀ i, i < l.length → (i + 1 = l.length ∨ ∃ (j : Nat) (x : Nd), m ≤ j ∧ l[j]? = some x ∧ (i : Int) ∈ x.kids) → P[i]? = some (i : Int)
theorem Paired.start {l : List Nd} (_h : 0 < l.length) (P : List Int) (hP : P.length = l.length) (v : Int) (hv : v = ((l.length - 1 : Nat) : Int)) : Paired l l.length (P.set (l.length - 1) v) := by
  subst hv
  refine ⟨by rw [List.length_set]; exact hP, fun i hi hs => ?_⟩
  rcases hs with hs | ⟨j, x, h1, h2, _⟩
  · have e : i = l.length - 1 := by omega
    subst e
    rw [List.getElem?_set_self (by omega)]
  · have := (List.getElem?_eq_some_iff.1 h2).1
    omega
theorem Paired.here {l : List Nd} {m : Nat} {P : List Int} (h : Paired l (m + 1) P) (ht : isTreeF l = true) (hm : m < l.length) : P[m]? = some (m : Int) := by
  refine h.2 m hm ?_
  by_cases e : m + 1 = l.length
  · exact .inl e
  · obtain ⟨j, x, h1, h2⟩ := tree_kid ht m (by omega)
    refine .inr ⟨j, x, ?_, h1, h2⟩
    obtain ⟨K, hK, _⟩ := isTreeF_some ht
    have hj := (List.getElem?_eq_some_iff.1 h1).1
    have := kids_range hK j hj (m : Int) (by rw [(List.getElem?_eq_some_iff.1 h1).2]; exact h2)
    omega
/-- The kids of node m are paired, one after the other. -/
def PairIn (l : List Nd) (m : Nat) (zs : List Int) (j : Nat) (P : List Int) : Prop := P.length = l.length ∧ ∀ i, i < l.length → (i + 1 = l.length ∨ (∃ (j : Nat) (x : Nd), m + 1 ≤ j ∧ l[j]? = some x ∧ (i : Int) ∈ x.kids) ∨ (i : Int) ∈ zs.take j) → P[i]? = some (i : Int)
theorem PairIn.step {l : List Nd} {m : Nat} {zs : List Int} {j : Nat} {P : List Int} (h : PairIn l m zs j P) (hj : j < zs.length) (z : Nat) (hz : zs[j] = (z : Int)) : PairIn l m zs (j + 1) (P.set z (z : Int)) := by
  refine ⟨by rw [List.length_set]; exact h.1, fun i hi hs => ?_⟩
  by_cases e : z = i
  · subst e
    rw [List.getElem?_set_self (by rw [h.1]; exact hi)]
  · rw [List.getElem?_set_ne e]
    refine h.2 i hi ?_
    rcases hs with hs | hs | hs
    · exact .inl hs
    · exact .inr (.inl hs)
    · rw [List.take_succ_eq_append_getElem hj, List.mem_append] at hs
      rcases hs with hs | hs
      · exact .inr (.inr hs)
      · rw [hz] at hs
        have : i = z := by
          have h2 : (i : Int) = (z : Int) := by simpa using hs
          omega
        exact absurd this.symm e
theorem PairIn.done {l : List Nd} {m : Nat} {P : List Int} (hm : m < l.length) (h : PairIn l m l[m].kids l[m].kids.length P) : Paired l m P := by
  refine ⟨h.1, fun i hi hs => h.2 i hi ?_⟩
  rcases hs with hs | ⟨j, x, h1, h2, h3⟩
  · exact .inl hs
  · by_cases e : j = m
    · subst e
      rw [List.getElem?_eq_getElem hm] at h2
      obtain rfl := Option.some.inj h2
      exact .inr (.inr (by rw [List.take_length]; exact h3))
    · exact .inr (.inl ⟨j, x, by omega, h2, h3⟩)
set_option maxRecDepth 10000 in
set_option maxHeartbeats 3200000 in
theorem same_self (n : Nat) (ao : Option Addr) (cap : Nat) (l : List Nd) (w : World) (hl : l.length ≤ 100000) (hN : NodesAt n w ao l) (hn : n ≤ w.heap.size) (ht : isTreeF l = true) :
    Calls Tryd.prog 16 #[.slice ao l.length cap, .slice ao l.length cap] w fun e w' => e = .returned (.bool true) ∧ Below w.heap.size w w' := by
  have HT := hid' (fun W (h : Below w.heap.size w W) => isTree_any n ao cap l W (by omega) (hN.keep (h.mono hn) (Nat.le_refl _)) (Nat.le_trans hn h.size))
  rw [ht] at HT
  have hpos := isTreeF_pos ht
  obtain ⟨K, hK, _⟩ := isTreeF_some ht
  have HKR := hid' (kids_range hK)
  have HTR := hid' ht
  have HN := hid' hN
  clear hN ht hK
  go_enter Tryd.func16, Tryd.ntmps16
  go_wp2_with fail
  refine (HT.out w (Below.refl _ _)).mono ?_
  rintro e w1 ⟨rfl, b1⟩
  have HB1 := hid' b1
  clear b1
  go_wp2_with fail
  refine (HT.out w1 HB1.out).mono ?_
  rintro e w2 ⟨rfl, b2⟩
  have HB2 := hid' (HB1.out.trans (b2.mono HB1.out.size))
  clear b2
  have hmk := make_nums l.length (by omega)
  have hm1 : (l.length : Int) - 1 = ((l.length - 1 : Nat) : Int) := by omega
  have hm2 : ((l.length - 1 : Nat) : Int) < (l.length : Int) := by omega
  have hw2 := HB2.out.size
  have HR1 := hid' (row_new w2 3 (nums (List.replicate l.length 0)))
  have hc1 := HR1.out.cell (nums_at (S := List.replicate l.length 0) (j := l.length - 1) (b := 0) (by rw [List.getElem?_replicate, if_pos (by omega)]))
  have hf1 := HR1.out.open_ (l.length - 1)
  have HR2 : Hid (RowV (w2.alloc (.cells ((nums (List.replicate l.length 0)).set (l.length - 1) (.int .i64 ((l.length - 1 : Nat) : Int))).toArray 3)) w2.heap.size 3 (nums ((List.replicate l.length 0).set (l.length - 1) ((l.length - 1 : Nat) : Int)))) := hid' (by rw [← nums_set]; exact row_new _ _ _)
  have HP2 := hid' (Paired.start hpos (List.replicate l.length 0) (by simp) _ rfl)
  have HB3 := hid' ((Below.refl w2.heap.size w2).alloc (Nat.le_refl _) (.cells ((nums (List.replicate l.length 0)).set (l.length - 1) (.int .i64 ((l.length - 1 : Nat) : Int))).toArray 3))
  go_wp2
  clear hc1 hf1
  go_loopw [6] (fun c wr => ∃ (m : Nat) (P : List Int), m ≤ l.length ∧ c = .int .i64 ((m : Int) - 1) ∧ Hid (RowV wr w2.heap.size 3 (nums P)) ∧ Hid (Paired l m P) ∧ Hid (Below w2.heap.size w2 wr)) (fun c _ => (intOf c + 1).toNat)
  case atStart => exact ⟨l.length, _, Nat.le_refl _, by first | rfl | (rw [← hm1]), HR2, HP2, HB3⟩
  case round =>
    obtain ⟨m, P, hm, rfl, hr, hp, hb⟩ := hrel
    cases m with
    | zero =>
      have HBE := hid' (HB2.out.trans (hb.out.mono hw2))
      go_wp2
      go_ret
      exact ⟨rfl, HBE.out⟩
    | succ k =>
      have hk1 : ((k + 1 : Nat) : Int) - 1 = (k : Int) := by omega
      rw [hk1]
      have hkl : k < l.length := by omega
      have hkl' : (k : Int) < (l.length : Int) := by omega
      have hPk := hp.out.here HTR.out hkl
      have hPL := hp.out.1
      obtain ⟨b, v, hao, hbn, hnode0⟩ := HN.out.node k hkl
      have HNODE := hid' (fun W (h : Below w2.heap.size w2 W) => hnode0.keep hbn ((HB2.out.trans (h.mono hw2)).mono hn) (Nat.le_refl _))
      have hkr := HKR.out k hkl
      have HPI := hid' (show PairIn l k l[k].kids 0 P from ⟨hPL, fun i hi hs => hp.out.2 i hi (by
        rcases hs with hs | hs | hs
        · exact .inl hs
        · exact .inr hs
        · simp at hs)⟩)
      have HPD := hid' (fun P (h : PairIn l k l[k].kids l[k].kids.length P) => h.done hkl)
      have hcp := hr.out.cell (nums_at hPk)
      generalize l[k] = x at HNODE hkr HPI HPD
      obtain ⟨op, num, pos, s, zs⟩ := x
      simp only at HNODE hkr HPI HPD
      have hlist0 := (HNODE.out wr hb.out).list
      obtain ⟨ako, kcap, rfl, ⟨hkc, hzl⟩, _⟩ := hlist0
      have HKR2 := hid' hkr
      subst hao
      have hwr := hb.out.size
      have HOLD := hid' (fun (W' : World) (h : Below wr.heap.size wr W') => (show W'.cell? ⟨b, k * 5, none⟩ = some (.int .i64 op) ∧ W'.cell? ⟨b, k * 5 + 1, none⟩ = some (.int .i64 num) ∧ W'.cell? ⟨b, k * 5 + 2, none⟩ = some (.int .i64 pos) ∧ W'.cell? ⟨b, k * 5 + 3, none⟩ = some (.string s) ∧ W'.cell? ⟨b, k * 5 + 4, none⟩ = some (.slice ako zs.length kcap) ∧ W'.cell? ⟨w2.heap.size, k, none⟩ = some (.int .i64 (k : Int)) from by
        have hN2 := HNODE.out W' (hb.out.trans (h.mono hwr))
        exact ⟨hN2.op, hN2.num, hN2.pos, hN2.text, hN2.kids, (h.cell (by exact hr.out.lt)).trans hcp⟩))
      have HBA := hid' (fun c1 => (show Below wr.heap.size wr (wr.alloc c1).drew from ((Below.refl _ _).alloc (Nat.le_refl _) c1).drew))
      have HBB := hid' (fun c1 c2 => (show Below wr.heap.size wr ((wr.alloc c1).alloc c2).drew from (((Below.refl _ _).alloc (Nat.le_refl _) c1).alloc (by simp) c2).drew))
      have HX1 := hid' (show RowV ((wr.alloc (.cells #[.int .i64 op, .int .i64 num, .int .i64 pos, .string s, .slice ako zs.length kcap] 27)).alloc (.cells #[.int .i64 op, .int .i64 num, .int .i64 pos, .string s, .slice ako zs.length kcap] 27)).drew wr.heap.size 27 [.int .i64 op, .int .i64 num, .int .i64 pos, .string s, .slice ako zs.length kcap] from (row_new wr _ _).far (Below.heap_alloc _ _ _ (by simp)))
      have HX2 := hid' (show RowV ((wr.alloc (.cells #[.int .i64 op, .int .i64 num, .int .i64 pos, .string s, .slice ako zs.length kcap] 27)).alloc (.cells #[.int .i64 op, .int .i64 num, .int .i64 pos, .string s, .slice ako zs.length kcap] 27)).drew (wr.heap.size + 1) 27 [.int .i64 op, .int .i64 num, .int .i64 pos, .string s, .slice ako zs.length kcap] from by
        have h := row_new (wr.alloc (.cells #[.int .i64 op, .int .i64 num, .int .i64 pos, .string s, .slice ako zs.length kcap] 27)) 27 [.int .i64 op, .int .i64 num, .int .i64 pos, .string s, .slice ako zs.length kcap]
        have h2 : RowV ((wr.alloc (.cells #[.int .i64 op, .int .i64 num, .int .i64 pos, .string s, .slice ako zs.length kcap] 27)).alloc (.cells #[.int .i64 op, .int .i64 num, .int .i64 pos, .string s, .slice ako zs.length kcap] 27)) (wr.heap.size + 1) 27 [.int .i64 op, .int .i64 num, .int .i64 pos, .string s, .slice ako zs.length kcap] := by simpa using h
        exact h2)
      clear hnode0 hPk hkr hcp
      go_wp2_with fail
      refine wp_region_held_drew (S := fun W => Below wr.heap.size wr W) (by kernel_rfl) (Below.refl _ _).drew (fun hHeld => ?_)
      refine take_val' (i := 0) (v := (.slice (some ⟨b, 0, none⟩) l.length cap)) rfl (by kernel_rfl) (by kernel_rfl) (by kernel_rfl) (some 37) rfl (fun _ _ _ h => h) (Or.inl ⟨by rfl, fun W hW => by go_simp⟩) hHeld ?_
      try simp only [Act.put, List.setIfInBounds_toArray, List.set_cons_zero, List.set_cons_succ]
      refine take_val' (i := 1) (v := (.int .i64 (k : Int))) rfl (by kernel_rfl) (by kernel_rfl) (by kernel_rfl) (some 38) rfl (fun _ _ _ h => h) (Or.inl ⟨by rfl, fun W hW => by go_simp⟩) hHeld ?_
      try simp only [Act.put, List.setIfInBounds_toArray, List.set_cons_zero, List.set_cons_succ]
      refine take_val' (i := 2) (v := (.pointer (some ⟨b, k * 5, none⟩))) rfl (by kernel_rfl) (by kernel_rfl) (by kernel_rfl) (some 39) rfl (fun _ _ _ h => h) (Or.inl ⟨by rfl, fun W hW => by go_simp⟩) hHeld ?_
      try simp only [Act.put, List.setIfInBounds_toArray, List.set_cons_zero, List.set_cons_succ]
      refine take_val' (i := 3) (v := (.agg #[.int .i64 op, .int .i64 num, .int .i64 pos, .string s, .slice ako zs.length kcap])) rfl (by kernel_rfl) (by kernel_rfl) (by kernel_rfl) (some 40) rfl (fun _ _ _ h => h) (Or.inl ⟨by rfl, fun W hW => by obtain ⟨g0, g1, g2, g3, g4, g5⟩ := HOLD.out W hW; go_simp⟩) hHeld ?_
      try simp only [Act.put, List.setIfInBounds_toArray, List.set_cons_zero, List.set_cons_succ]
      refine take_val' (i := 4) (v := (.slice (some ⟨b, 0, none⟩) l.length cap)) rfl (by kernel_rfl) (by kernel_rfl) (by kernel_rfl) (some 41) rfl (fun _ _ _ h => h) (Or.inl ⟨by rfl, fun W hW => by go_simp⟩) hHeld ?_
      try simp only [Act.put, List.setIfInBounds_toArray, List.set_cons_zero, List.set_cons_succ]
      refine take_val' (i := 5) (v := (.slice (some ⟨w2.heap.size, 0, none⟩) l.length l.length)) rfl (by kernel_rfl) (by kernel_rfl) (by kernel_rfl) (some 42) rfl (fun _ _ _ h => h) (Or.inl ⟨by rfl, fun W hW => by go_simp⟩) hHeld ?_
      try simp only [Act.put, List.setIfInBounds_toArray, List.set_cons_zero, List.set_cons_succ]
      refine take_val' (i := 6) (v := (.int .i64 (k : Int))) rfl (by kernel_rfl) (by kernel_rfl) (by kernel_rfl) (some 43) rfl (fun _ _ _ h => h) (Or.inl ⟨by rfl, fun W hW => by go_simp⟩) hHeld ?_
      try simp only [Act.put, List.setIfInBounds_toArray, List.set_cons_zero, List.set_cons_succ]
      refine take_val' (i := 7) (v := (.pointer (some ⟨w2.heap.size, k, none⟩))) rfl (by kernel_rfl) (by kernel_rfl) (by kernel_rfl) (some 44) rfl (fun _ _ _ h => h) (Or.inl ⟨by rfl, fun W hW => by go_simp⟩) hHeld ?_
      try simp only [Act.put, List.setIfInBounds_toArray, List.set_cons_zero, List.set_cons_succ]
      refine take_val' (i := 8) (v := (.int .i64 (k : Int))) rfl (by kernel_rfl) (by kernel_rfl) (by kernel_rfl) (some 45) rfl (fun _ _ _ h => h) (Or.inl ⟨by rfl, fun W hW => by obtain ⟨g0, g1, g2, g3, g4, g5⟩ := HOLD.out W hW; go_simp⟩) hHeld ?_
      try simp only [Act.put, List.setIfInBounds_toArray, List.set_cons_zero, List.set_cons_succ]
      refine take_val' (i := 9) (v := (.pointer (some ⟨b, k * 5, none⟩))) rfl (by kernel_rfl) (by kernel_rfl) (by kernel_rfl) (some 46) rfl (fun _ _ _ h => h) (Or.inl ⟨by rfl, fun W hW => by go_simp⟩) hHeld ?_
      try simp only [Act.put, List.setIfInBounds_toArray, List.set_cons_zero, List.set_cons_succ]
      refine take_val' (i := 10) (v := (.agg #[.int .i64 op, .int .i64 num, .int .i64 pos, .string s, .slice ako zs.length kcap])) rfl (by kernel_rfl) (by kernel_rfl) (by kernel_rfl) (some 47) rfl (fun _ _ _ h => h) (Or.inl ⟨by rfl, fun W hW => by obtain ⟨g0, g1, g2, g3, g4, g5⟩ := HOLD.out W hW; go_simp⟩) hHeld ?_
      try simp only [Act.put, List.setIfInBounds_toArray, List.set_cons_zero, List.set_cons_succ]
      refine wpAnyH_ready (rs := [11, 12]) (by kernel_rfl) (by simp) ?_
      refine AllReadyH.cons rfl (fun K hK => ?_) (AllReadyH.cons rfl (fun K hK => ?_) AllReadyH.nil)
      · go_simp
        refine hK.out _ _ (HBA.out _) (fun hH2 => ?_)
        clear hK K
        try simp only [Act.put, List.setIfInBounds_toArray, List.set_cons_zero, List.set_cons_succ]
        refine wpAnyH_ready (rs := [12]) (by kernel_rfl) (by simp) ?_
        refine AllReadyH.cons rfl (fun K hK => ?_) AllReadyH.nil
        go_simp
        refine hK.out _ _ (HBB.out _ _) (fun hH3 => ?_)
        clear hK K hH2
        try simp only [Act.put, List.setIfInBounds_toArray, List.set_cons_zero, List.set_cons_succ]
        refine wpAnyH_ready (rs := [13]) (by kernel_rfl) (by simp) ?_
        refine AllReadyH.cons rfl (fun K hK => ?_) AllReadyH.nil
        go_simp
        refine hK.out _ _ (HBB.out _ _) (fun hH4 => ?_)
        clear hK K hH3
        try simp only [Act.put, List.setIfInBounds_toArray, List.set_cons_zero, List.set_cons_succ]
        refine wpAnyH_ready (rs := [14]) (by kernel_rfl) (by simp) ?_
        refine AllReadyH.cons rfl (fun K hK => ?_) AllReadyH.nil
        go_simp
        refine hK.out _ _ (HBB.out _ _) (fun hH5 => ?_)
        clear hK K hH4
        try simp only [Act.put, List.setIfInBounds_toArray, List.set_cons_zero, List.set_cons_succ]
        refine wpAnyH_done (by kernel_rfl) ?_ _
        have HB6 := hid' hH5
        have HY7 := hid' HX1.out
        have HY8 := hid' HX2.out
        clear hH5 HX1 HX2 HBA HBB
        generalize ((wr.alloc (.cells #[.int .i64 op, .int .i64 num, .int .i64 pos, .string s, .slice ako zs.length kcap] 27)).alloc (.cells #[.int .i64 op, .int .i64 num, .int .i64 pos, .string s, .slice ako zs.length kcap] 27)).drew = w6 at HB6 HY7 HY8 ⊢
        have y0 := HY7.out.cell (j := 0) rfl
        have y1 := HY7.out.cell (j := 1) rfl
        have y3 := HY7.out.cell (j := 3) rfl
        have y4 := HY7.out.cell (j := 4) rfl
        have z0 := HY8.out.cell (j := 0) rfl
        have z1 := HY8.out.cell (j := 1) rfl
        have z3 := HY8.out.cell (j := 3) rfl
        have z4 := HY8.out.cell (j := 4) rfl
        have hlow7 : w2.heap.size < wr.heap.size := hr.out.lt
        generalize hgs : wr.heap.size = gsz at HY7 HY8 y0 y1 y3 y4 z0 z1 z3 z4 hlow7 ⊢
        have HR6 := hid' (hr.out.far (HB6.out.block _ hr.out.lt))
        have HB7 := hid' (hb.out.trans (HB6.out.mono hwr))
        clear hr hb
        go_wp2
        go_loopw [79] (fun c wq => ∃ (j : Nat) (P2 : List Int), j ≤ zs.length ∧ c = .int .i64 j ∧ Hid (RowV wq w2.heap.size 3 (nums P2)) ∧ Hid (PairIn l k zs j P2) ∧ Hid (wq.cell? ⟨gsz + 1, 4, none⟩ = some (.slice ako zs.length kcap)) ∧ Hid (Below w2.heap.size w2 wq)) (fun c _ => zs.length - (intOf c).toNat)
        case atStart => exact ⟨0, P, Nat.zero_le _, rfl, HR6, HPI, hid' z4, HB7⟩
        case round =>
          obtain ⟨j, P2, hj, rfl, hr8, hp8, hz8, hb8⟩ := hrel
          by_cases hlj : j < zs.length
          · have hlj' : (j : Int) < (zs.length : Int) := by omega
            obtain ⟨zi, hzi⟩ : ∃ zi, zs[j] = zi := ⟨_, rfl⟩
            have hzr := HKR2.out zi (by rw [← hzi]; exact List.getElem_mem hlj)
            obtain ⟨z, rfl⟩ : ∃ z : Nat, zi = (z : Int) := ⟨zi.toNat, by omega⟩
            obtain ⟨bk, o, hako, hcz⟩ : ∃ b o, ako = some ⟨b, o, none⟩ ∧ wr.cell? ⟨b, o + j, none⟩ = some (.int .i64 (z : Int)) := by
              obtain ⟨b', o', cap', e, _, h2⟩ := kid_at (HNODE.out wr hb8.out).list hlj
              injection e with e1 e2 e3
              exact ⟨b', o', e1, by rw [h2, hzi]⟩
            subst hako
            have hz8' := hz8.out
            have hzl : z < l.length := by omega
            have hzl' : (z : Int) < (l.length : Int) := by omega
            obtain ⟨y, hy⟩ : ∃ y, P2[z]? = some y := ⟨_, List.getElem?_eq_getElem (by rw [hp8.out.1]; exact hzl)⟩
            have hcy := hr8.out.cell (nums_at hy)
            have hoy := hr8.out.open_ z
            have HR9 := hid' (hr8.out.set z (.int .i64 (z : Int)))
            rw [nums_set] at HR9
            have HP9 := hid' (hp8.out.step hlj z hzi)
            have HZ9 : Hid ((wr.setCell ⟨w2.heap.size, z, none⟩ (.int .i64 (z : Int))).cell? ⟨gsz + 1, 4, none⟩ = some (.slice (some ⟨bk, o, none⟩) zs.length kcap)) := hid' ((World.cell?_setCell_other _ _ _ _ (fun e => by injection e with e _ _; omega)).trans hz8')
            clear hy hr8 hp8 hz8 hzi
            go_wp2
            go_roundw
            case rel => exact ⟨j + 1, _, by omega, by go_num, HR9, HP9, HZ9, hid' (hb8.out.setCell (Nat.le_refl _) _)⟩
            case measure => simp [intOf]; omega
          · obtain rfl : j = zs.length := by omega
            have HP9 := hid' (HPD.out P2 hp8.out)
            clear hlj hp8
            go_wp2
            go_roundw
            case rel => exact ⟨k, P2, by omega, by first | rfl | go_num, hr8, HP9, hb8⟩
            case measure => simp [intOf] <;> omega
      · go_simp
        refine hK.out _ _ (HBA.out _) (fun hH2 => ?_)
        clear hK K
        try simp only [Act.put, List.setIfInBounds_toArray, List.set_cons_zero, List.set_cons_succ]
        refine wpAnyH_ready (rs := [11]) (by kernel_rfl) (by simp) ?_
        refine AllReadyH.cons rfl (fun K hK => ?_) AllReadyH.nil
        go_simp
        refine hK.out _ _ (HBB.out _ _) (fun hH3 => ?_)
        clear hK K hH2
        try simp only [Act.put, List.setIfInBounds_toArray, List.set_cons_zero, List.set_cons_succ]
        refine wpAnyH_ready (rs := [13]) (by kernel_rfl) (by simp) ?_
        refine AllReadyH.cons rfl (fun K hK => ?_) AllReadyH.nil
        go_simp
        refine hK.out _ _ (HBB.out _ _) (fun hH4 => ?_)
        clear hK K hH3
        try simp only [Act.put, List.setIfInBounds_toArray, List.set_cons_zero, List.set_cons_succ]
        refine wpAnyH_ready (rs := [14]) (by kernel_rfl) (by simp) ?_
        refine AllReadyH.cons rfl (fun K hK => ?_) AllReadyH.nil
        go_simp
        refine hK.out _ _ (HBB.out _ _) (fun hH5 => ?_)
        clear hK K hH4
        try simp only [Act.put, List.setIfInBounds_toArray, List.set_cons_zero, List.set_cons_succ]
        refine wpAnyH_done (by kernel_rfl) ?_ _
        have HB6 := hid' hH5
        have HY7 := hid' HX2.out
        have HY8 := hid' HX1.out
        clear hH5 HX1 HX2 HBA HBB
        generalize ((wr.alloc (.cells #[.int .i64 op, .int .i64 num, .int .i64 pos, .string s, .slice ako zs.length kcap] 27)).alloc (.cells #[.int .i64 op, .int .i64 num, .int .i64 pos, .string s, .slice ako zs.length kcap] 27)).drew = w6 at HB6 HY7 HY8 ⊢
        have y0 := HY7.out.cell (j := 0) rfl
        have y1 := HY7.out.cell (j := 1) rfl
        have y3 := HY7.out.cell (j := 3) rfl
        have y4 := HY7.out.cell (j := 4) rfl
        have z0 := HY8.out.cell (j := 0) rfl
        have z1 := HY8.out.cell (j := 1) rfl
        have z3 := HY8.out.cell (j := 3) rfl
        have z4 := HY8.out.cell (j := 4) rfl
        have hlow7 : w2.heap.size < wr.heap.size := hr.out.lt
        generalize hgs : wr.heap.size = gsz at HY7 HY8 y0 y1 y3 y4 z0 z1 z3 z4 hlow7 ⊢
        have HR6 := hid' (hr.out.far (HB6.out.block _ hr.out.lt))
        have HB7 := hid' (hb.out.trans (HB6.out.mono hwr))
        clear hr hb
        go_wp2
        go_loopw [79] (fun c wq => ∃ (j : Nat) (P2 : List Int), j ≤ zs.length ∧ c = .int .i64 j ∧ Hid (RowV wq w2.heap.size 3 (nums P2)) ∧ Hid (PairIn l k zs j P2) ∧ Hid (wq.cell? ⟨gsz, 4, none⟩ = some (.slice ako zs.length kcap)) ∧ Hid (Below w2.heap.size w2 wq)) (fun c _ => zs.length - (intOf c).toNat)
        case atStart => exact ⟨0, P, Nat.zero_le _, rfl, HR6, HPI, hid' z4, HB7⟩
        case round =>
          obtain ⟨j, P2, hj, rfl, hr8, hp8, hz8, hb8⟩ := hrel
          by_cases hlj : j < zs.length
          · have hlj' : (j : Int) < (zs.length : Int) := by omega
            obtain ⟨zi, hzi⟩ : ∃ zi, zs[j] = zi := ⟨_, rfl⟩
            have hzr := HKR2.out zi (by rw [← hzi]; exact List.getElem_mem hlj)
            obtain ⟨z, rfl⟩ : ∃ z : Nat, zi = (z : Int) := ⟨zi.toNat, by omega⟩
            obtain ⟨bk, o, hako, hcz⟩ : ∃ b o, ako = some ⟨b, o, none⟩ ∧ wr.cell? ⟨b, o + j, none⟩ = some (.int .i64 (z : Int)) := by
              obtain ⟨b', o', cap', e, _, h2⟩ := kid_at (HNODE.out wr hb8.out).list hlj
              injection e with e1 e2 e3
              exact ⟨b', o', e1, by rw [h2, hzi]⟩
            subst hako
            have hz8' := hz8.out
            have hzl : z < l.length := by omega
            have hzl' : (z : Int) < (l.length : Int) := by omega
            obtain ⟨y, hy⟩ : ∃ y, P2[z]? = some y := ⟨_, List.getElem?_eq_getElem (by rw [hp8.out.1]; exact hzl)⟩
            have hcy := hr8.out.cell (nums_at hy)
            have hoy := hr8.out.open_ z
            have HR9 := hid' (hr8.out.set z (.int .i64 (z : Int)))
            rw [nums_set] at HR9
            have HP9 := hid' (hp8.out.step hlj z hzi)
            have HZ9 : Hid ((wr.setCell ⟨w2.heap.size, z, none⟩ (.int .i64 (z : Int))).cell? ⟨gsz, 4, none⟩ = some (.slice (some ⟨bk, o, none⟩) zs.length kcap)) := hid' ((World.cell?_setCell_other _ _ _ _ (fun e => by injection e with e _ _; omega)).trans hz8')
            clear hy hr8 hp8 hz8 hzi
            go_wp2
            go_roundw
            case rel => exact ⟨j + 1, _, by omega, by go_num, HR9, HP9, HZ9, hid' (hb8.out.setCell (Nat.le_refl _) _)⟩
            case measure => simp [intOf]; omega
          · obtain rfl : j = zs.length := by omega
            have HP9 := hid' (HPD.out P2 hp8.out)
            clear hlj hp8
            go_wp2
            go_roundw
            case rel => exact ⟨k, P2, by omega, by first | rfl | go_num, hr8, HP9, hb8⟩
            case measure => simp [intOf] <;> omega
end Go.Proofs.YtnjbhcjdlbmmhaaDoor
