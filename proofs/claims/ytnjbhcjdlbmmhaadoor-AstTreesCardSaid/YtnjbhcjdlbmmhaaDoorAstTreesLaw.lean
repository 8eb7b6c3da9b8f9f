/- smithylaw5.AstTrees returns true. Conditions: the words and the errors of api lie in their variables. -/
import Derived.Test.YtnjbhcjdlbmmhaaDoorAstCalls
import Derived.Test.YtnjbhcjdlbmmhaaDoorErrPl
namespace Go.Proofs.YtnjbhcjdlbmmhaaDoor
open Go.RowKit
open Lx Ax

theorem treeL_cons (m : Nat) : treeL (m + 1) = nmN xT :: exN 0 :: (pairs 1 m ++ [blN (odds 0 (m + 1))]) := rfl
theorem tree_ok (m : Nat) : (∀ x ∈ treeL m, OpOK x.op) ∧ (∀ x ∈ treeL m, x.s.size ≤ 1000000) := by
  have h : ∀ j m, ∀ x ∈ pairs j m, OpOK x.op ∧ x.s.size ≤ 1000000 := by
    intro j m
    induction m generalizing j with
    | zero => intro x hx; cases hx
    | succ m ih =>
      intro x hx
      rcases List.mem_cons.1 hx with rfl | hx
      · exact ⟨.inl rfl, by show (1 : Nat) ≤ _; omega⟩
      · rcases List.mem_cons.1 hx with rfl | hx
        · exact ⟨.inr (.inr (.inl rfl)), by show (0 : Nat) ≤ _; omega⟩
        · exact ih _ x hx
  refine ⟨fun x hx => ?_, fun x hx => ?_⟩
  · rcases List.mem_append.1 hx with hx | hx
    · exact (h 0 m x hx).1
    · obtain rfl : x = _ := by simpa using hx
      exact .inr (.inr (.inr rfl))
  · rcases List.mem_append.1 hx with hx | hx
    · exact (h 0 m x hx).2
    · obtain rfl : x = _ := by simpa using hx
      show (0 : Nat) ≤ _; omega
theorem set_ok {l : List Nd} (h : (∀ x ∈ l, OpOK x.op) ∧ (∀ x ∈ l, x.s.size ≤ 1000000)) (j : Nat) (x : Nd) (h1 : OpOK x.op) (h2 : x.s.size ≤ 1000000) : (∀ y ∈ l.set j x, OpOK y.op) ∧ (∀ y ∈ l.set j x, y.s.size ≤ 1000000) :=
  ⟨fun y hy => by
    rcases List.mem_or_eq_of_mem_set hy with hy' | e
    · exact h.1 y hy'
    · exact e ▸ h1, fun y hy => by
    rcases List.mem_or_eq_of_mem_set hy with hy' | e
    · exact h.2 y hy'
    · exact e ▸ h2⟩
/-- What the first loop has made of k rounds. -/
structure Mk (W : World) (B : Nat) (k : Nat) (vl vk : Value) (vs : List Value) : Prop where
  tr : Tr W B vl (pairs 0 k) vs
  kids : OwnZ W B vk (odds 0 k)
  apart : ∀ (j : Nat) v, vs[j]? = some v → ∀ q, v.ownBlock = some q → vk.ownBlock ≠ some q
theorem Mk.nil (W : World) (B : Nat) : Mk W B 0 (.slice none 0 0) (.slice none 0 0) [] := ⟨Tr.nil _ _, OwnZ.nil _ _, fun j v h => by simp at h⟩
theorem pair_kids (W : World) (B : Nat) (hB : B ≤ W.heap.size) (z : Int) : ∀ (j : Nat) x v, [nmN xT, exN z][j]? = some x → [Value.slice none 0 0, .slice (some ⟨W.heap.size, 0, none⟩) 1 1][j]? = some v → OwnZ (W.alloc (.cells #[.int .i64 z] 3)) B v x.kids := fun j x v hx hv => by
  match j, hx, hv with
  | 0, hx, hv => simp at hx hv; subst hx hv; exact OwnZ.nil _ _
  | 1, hx, hv => simp at hx hv; subst hx hv; exact OwnZ.lit W B hB [z] (by simp) _ rfl
  | j + 2, hx, hv => simp at hx
theorem Mk.apart2 {W : World} {B k : Nat} {vl vk : Value} {vs : List Value} (h : Mk W B k vl vk vs) : Apart (vs ++ [Value.slice none 0 0, .slice (some ⟨W.heap.size, 0, none⟩) 1 1]) := by
  rw [show vs ++ [Value.slice none 0 0, .slice (some ⟨W.heap.size, 0, none⟩) 1 1] = (vs ++ [Value.slice none 0 0]) ++ [.slice (some ⟨W.heap.size, 0, none⟩) 1 1] by simp]
  have h1 : Apart (vs ++ [Value.slice none 0 0]) := Apart.more h.tr.apart fun j u _ q _ e => by simp [Value.ownBlock] at e
  refine h1.more fun j u hu q hq e => ?_
  simp only [Value.ownBlock, Option.some.injEq] at e
  subst e
  by_cases hj : j < vs.length
  · rw [List.getElem?_append_left hj] at hu
    have := ((h.tr.kid j _ u (List.getElem?_eq_getElem (by rw [← h.tr.len]; exact hj)) hu).lt _ hq).2
    omega
  · rw [List.getElem?_append_right (by omega)] at hu
    have h2 := (List.getElem?_eq_some_iff.1 hu).1
    simp at h2
    have : j - vs.length = 0 := by omega
    rw [this] at hu
    simp at hu
    subst hu
    simp [Value.ownBlock] at hq
theorem Mk.next {W w5 w6 : World} {B k : Nat} {vl vk : Value} {vs : List Value} (h : Mk W B k vl vk vs) {vl' : Value} {g cap m : Nat}
    (h5 : Tr w5 B vl' (pairs 0 (k + 1)) (vs ++ [.slice none 0 0, .slice (some ⟨W.heap.size, 0, none⟩) 1 1])) (h6 : OwnZ w6 B (.slice (some ⟨g, 0, none⟩) m cap) (odds 0 (k + 1)))
    (hk6 : ∀ q, q < w5.heap.size → vk.ownBlock ≠ some q → w6.heap[q]? = w5.heap[q]?) (hg : some g = vk.ownBlock ∨ g = w5.heap.size + 1) (hsz : W.heap.size < w5.heap.size) (hk5 : OwnZ w5 B vk (odds 0 k)) :
    Mk w6 B (k + 1) vl' (.slice (some ⟨g, 0, none⟩) m cap) (vs ++ [.slice none 0 0, .slice (some ⟨W.heap.size, 0, none⟩) 1 1]) := by
  have hvs : ∀ (j : Nat) v, (vs ++ [Value.slice none 0 0, .slice (some ⟨W.heap.size, 0, none⟩) 1 1])[j]? = some v → ∀ q, v.ownBlock = some q → vk.ownBlock ≠ some q ∧ q ≤ W.heap.size := by
    intro j v hv q hq
    by_cases hj : j < vs.length
    · rw [List.getElem?_append_left hj] at hv
      exact ⟨h.apart j v hv q hq, Nat.le_of_lt ((h.tr.kid j _ v (List.getElem?_eq_getElem (by rw [← h.tr.len]; exact hj)) hv).lt _ hq).2⟩
    · rw [List.getElem?_append_right (by omega)] at hv
      match j - vs.length, hv with
      | 0, hv => simp at hv; subst hv; simp [Value.ownBlock] at hq
      | 1, hv =>
        simp at hv; subst hv
        simp only [Value.ownBlock, Option.some.injEq] at hq
        subst hq
        exact ⟨fun e => by have := (h.kids.lt _ e).2; omega, Nat.le_refl _⟩
      | i + 2, hv => simp at hv
  refine ⟨h5.keep' (fun q e hq => hk6 q hq (own_apart h5.own hk5 (by decide) q e)) (fun j v hv q e hq => hk6 q hq (hvs j v hv q e).1), h6, fun j v hv q hq e => ?_⟩
  obtain ⟨e1, e2⟩ := hvs j v hv q hq
  simp only [Value.ownBlock, Option.some.injEq] at e
  subst e
  rcases hg with hg | hg
  · exact e1 hg.symm
  · omega
set_option maxRecDepth 10000 in
set_option maxHeartbeats 8000000 in
theorem astTrees_any (A : Nat → Addr) (n how : Int) (w : World) (hV : TV A w) (hS : Sent A w) : Calls Tryd.prog 3 #[.int .i64 n, .int .i64 how] w fun e w' => e = .returned (.bool true) ∧ Below w.heap.size w w' := by
  have HF := hid' (first_any w)
  have HN := hid' (number20 n)
  have HM := hid' (number5 how)
  have hn20 := (fold_is n 20 (by omega)).2
  have hn5 := (fold_is how 5 (by omega)).2
  generalize foldN n 20 = a at HN hn20
  generalize foldN how 5 = m at HM hn5
  have HV := hid' hV
  have HS := hid' hS
  clear hV hS
  go_enter Tryd.func3, Tryd.ntmps3
  go_wp2_with fail
  refine (HF.out).mono ?_
  rintro e w1 ⟨rfl, b1⟩
  have HB1 := hid' b1
  have hsz1 := b1.size
  clear b1
  go_wp2_with fail
  refine (HN.out _).mono ?_
  rintro e w1b ⟨rfl, rfl⟩
  go_wp2
  go_loopw [6, 7, 8] (fun vl vk i wr => ∃ (k : Nat) (vs : List Value), k ≤ a + 1 ∧ i = .int .i64 k ∧ Hid (Mk wr w.heap.size k vl vk vs) ∧ Hid (Below w.heap.size w wr)) (fun _ _ i _ => (a + 1) - (intOf i).toNat)
  case atStart => exact ⟨0, [], by omega, rfl, hid' (Mk.nil _ _), HB1⟩
  case round =>
    obtain ⟨k, vs, hk, rfl, hmk, hb⟩ := hrel
    have hwr := hb.out.size
    by_cases hlt : k < a + 1
    · have hlt' : (k : Int) < (a : Int) + 1 := by omega
      obtain ⟨lao, lcap, rfl, _⟩ := own_form hmk.out.tr.own
      obtain ⟨kao, kcap, rfl, _⟩ := own_form hmk.out.kids
      have HT1 := hid' (hmk.out.tr.keep (W' := wr.alloc (.cells #[.int .i64 (2 * (k : Int))] 3)) fun q _ hq => Below.heap_alloc _ _ _ hq)
      have HLEN := hid' (pairs_length 0 k)
      have HODD := hid' (odds_length 0 k)
      have hlen2 : (pairs 0 k).length ≤ 42 := by rw [pairs_length]; omega
      have hodd2 : (odds 0 k).length ≤ 21 := by rw [odds_length]; omega
      have HPS := hid' (pairs_snoc 0 k)
      have HOS := hid' (odds_snoc 0 k)
      rw [Nat.zero_add] at HPS HOS
      have HB1' : Hid (Below w.heap.size w (wr.alloc (.cells #[.int .i64 (2 * (k : Int))] 3))) := hid' (hb.out.alloc hwr _)
      have HSA : Hid ((wr.alloc (.cells #[.int .i64 (2 * (k : Int))] 3)).heap.size = wr.heap.size + 1) := hid' (by simp)
      have HPK := hid' (pair_kids wr w.heap.size hwr (2 * (k : Int)))
      go_wp2_with (first
        | (at_builtin; refine nodes_plain (W := wr.alloc (.cells #[.int .i64 (2 * (k : Int))] 3)) HT1.out [nmN xT, exN (2 * (k : Int))] [.slice none 0 0, .slice (some ⟨wr.heap.size, 0, none⟩) 1 1] rfl (by simp) HPK.out (by intro x hx; simp at hx; rcases hx with rfl | rfl <;> simp [nmN, exN]) hmk.out.apart2 ((pairs 0 k).length + 2) 2 rfl (by simp) (by rw [HSA.out]; omega) (by omega) _ rfl rfl (.tmp 22) (.tmp 28) (by rfl) (by rfl) (by simp [Act.eval]) ?_; intro g5 cap5 w5 q1 q2 q3 q4; have HT5 := hid' q1; have HB5 := hid' (HB1'.out.trans q2); have HZ5 : Hid (OwnZ w5 w.heap.size (.slice kao (odds 0 k).length kcap) (odds 0 k)) := hid' (hmk.out.kids.keep fun q e hq => (q3 q (by rw [HSA.out]; omega) (fun e2 => own_apart hmk.out.kids hmk.out.tr.own (by decide) q e e2)).trans (Below.heap_alloc _ _ _ hq)); have hs5 : wr.heap.size < w5.heap.size := (by rw [HSA.out] at q4; omega); clear q1 q2 q3 q4)
        | (at_builtin; refine num_plain (W := w5) HZ5.out (2 * (k : Int) + 1) ((odds 0 k).length + 1) rfl (by omega) (by omega) rfl (.tmp 30) (.tmp 34) (by rfl) (by rfl) (by first | rfl | simp [Act.eval]) ?_; intro g6 cap6 w6 p1 p2 p3 p4 p5; have HMK6 := hid' (hmk.out.next (by rw [HPS.out]; exact HT5.out) (by rw [HOS.out]; exact p1) p3 p4 hs5 HZ5.out); have HB6 := hid' (HB5.out.trans p2); clear p1 p2 p3 p4 p5))
      go_roundw
      case rel => exact ⟨k + 1, _, by omega, by go_num, HMK6, HB6⟩
      case measure => simp [intOf]; omega
    · obtain rfl : k = a + 1 := by omega
      obtain ⟨lao, lcap, rfl, _⟩ := own_form hmk.out.tr.own
      obtain ⟨kao, kcap, rfl, hkc⟩ := own_form hmk.out.kids
      have HAP := hid' (Apart.more hmk.out.tr.apart hmk.out.apart)
      have hlen : (pairs 0 (a + 1)).length = 2 * (a + 1) := pairs_length 0 (a + 1)
      have HM7 : Hid (2 * (a + 1) + 1 = (pairs 0 (a + 1)).length + 1) := hid' (by rw [hlen])
      have hsm : (pairs 0 (a + 1)).length ≤ 42 := by omega
      have hod : (odds 0 (a + 1)).length ≤ 21 := by rw [odds_length]; omega
      have HOD := hid' (odds_length 0 (a + 1))
      clear hlen hlt
      go_wp2_with (at_builtin; refine nodes_plain (W := wr) hmk.out.tr [blN (odds 0 (a + 1))] [.slice kao (odds 0 (a + 1)).length kcap] rfl (by simp) (by
        intro j x v hx hv
        match j, hx, hv with
        | 0, hx, hv => simp at hx hv; subst hx hv; exact hmk.out.kids
        | j + 1, hx, hv => simp at hx) (by intro x hx; simp at hx; subst hx; show (odds 0 (a + 1)).length ≤ _; omega) HAP.out (2 * (a + 1) + 1) 1 rfl HM7.out hwr (by omega) _ rfl rfl (.tmp 36) (.tmp 39) (by rfl) (by rfl) (by first | rfl | simp [Act.eval]) ?_; intro g7 cap7 w7 q1 q2 q3 q4; have HT7 : Hid (Tr w7 w.heap.size (.slice (some ⟨g7, 0, none⟩) (2 * (a + 1) + 1) cap7) (treeL (a + 1)) (vs ++ [.slice kao (odds 0 (a + 1)).length kcap])) := hid' q1; have HB7 := hid' (hb.out.trans q2); have HZ7 := hid' (hmk.out.kids.keep fun q e hq => q3 q hq (fun e2 => own_apart hmk.out.kids hmk.out.tr.own (by decide) q e e2)); clear q1 q2 q3 q4)
      have hnodes : ∀ W, Tr W w.heap.size (.slice (some ⟨g7, 0, none⟩) (2 * (a + 1) + 1) cap7) (treeL (a + 1)) (vs ++ [.slice kao (odds 0 (a + 1)).length kcap]) → NodesAt W.heap.size W (some ⟨g7, 0, none⟩) (treeL (a + 1)) := fun W h => by
        obtain ⟨ao7, c7, e7, _, h7⟩ := h.nodes
        injection e7 with e7 _ _
        rw [e7]; exact h7
      have hlenT : 2 * (a + 1) + 1 = (treeL (a + 1)).length := (treeL_length (a + 1)).symm
      have HVAL := hid' (valid_at (HV.out.below HB7.out) (some ⟨g7, 0, none⟩) cap7 (2 * (a + 1) + 1) (treeL (a + 1)) hlenT (hnodes w7 HT7.out) (by omega) (by omega) (tree_ok _).1 (tree_ok _).2 none (valid_tree _ (by omega)))
      have HND := hid' hnodes
      have HLT := hid' hlenT
      clear hnodes hlenT
      refine (HVAL.out).mono ?_
      rintro e w8 ⟨b8, he⟩
      obtain rfl := he
      have HT8 := hid' (HT7.out.keep fun q _ hq => b8.block q hq)
      have HZ8 := hid' (HZ7.out.keep fun q _ hq => b8.block q hq)
      have HB8 := hid' (HB7.out.trans (b8.mono HB7.out.size))
      clear b8
      have HDP := hid' (deep_any w8.heap.size (some ⟨g7, 0, none⟩) cap7 (treeL (a + 1)) w8 (by rw [← HLT.out]; omega) (HND.out w8 HT8.out) (Nat.le_refl _) (isTree_tree (a + 1) (by omega)))
      rw [deep_tree (a + 1) (by omega), ← HLT.out] at HDP
      go_wp2_with fail
      refine (HDP.out).mono ?_
      rintro e w9 ⟨rfl, b9⟩
      have HT9 := hid' (HT8.out.keep fun q _ hq => b9.block q hq)
      have HZ9 := hid' (HZ8.out.keep fun q _ hq => b9.block q hq)
      have HB9 := hid' (HB8.out.trans (b9.mono HB8.out.size))
      clear b9 HT7 HT8 HZ7 HZ8 HDP HVAL HAP
      go_wp2_with fail
      refine (HM.out _).mono ?_
      rintro e w10 ⟨rfl, rfl⟩
      have hm5 : m = 0 ∨ m = 1 ∨ m = 2 ∨ m = 3 ∨ m = 4 := by omega
      rcases hm5 with rfl | rfl | rfl | rfl | rfl
      · obtain ⟨v1, hv1, N1, O1⟩ := HT9.out.cells 1 (exN 0) (by rw [treeL_cons]; rfl)
        obtain ⟨kb, cp, hv1e, hcp, hkb1, hkb2, hkc2⟩ := own_some O1 (by show 0 < 1; omega)
        have hv1e' : v1 = .slice (some ⟨kb, 0, none⟩) 1 cp := hv1e
        subst hv1e'
        have c9 : w10.cell? ⟨g7, 9, none⟩ = some (.slice (some ⟨kb, 0, none⟩) 1 cp) := N1.kids
        have c0 : w10.cell? ⟨kb, 0, none⟩ = some (.int .i64 0) := hkc2 0 _ rfl
        have f0 : w10.frozen? ⟨kb, 0, none⟩ = false := OwnZ.open_ O1 0
        have HTS : Hid (Tr (w10.setCell ⟨kb, 0, none⟩ (.int .i64 (1))) w.heap.size (.slice (some ⟨g7, 0, none⟩) (2 * (a + 1) + 1) cap7) ((treeL (a + 1)).set 1 (exN (1))) (vs ++ [.slice kao (odds 0 (a + 1)).length kcap])) := hid' (HT9.out.setKid 1 (exN 0) kb 1 cp (by rw [treeL_cons]; rfl) hv1 rfl 0 (1))
        have HNX := hid' HTS.out.nodesAt
        have HBX := hid' (HB9.out.setCell (p := ⟨kb, 0, none⟩) hkb1 (.int .i64 (1)))
        have hlx : 2 * (a + 1) + 1 = ((treeL (a + 1)).set 1 (exN (1))).length := by rw [List.length_set]; exact HLT.out
        have hox := set_ok (tree_ok (a + 1)) 1 (exN (1)) (.inr (.inr (.inl rfl))) (by show (0 : Nat) ≤ _; omega)
        have hvx : validF ((treeL (a + 1)).set 1 (exN (1))) = some 1 := by rw [treeL_cons]; exact valid_second xT (1) _ name_x (by decide)
        clear hv1 hv1e N1 O1 hkc2 hcp
        have HVX := hid' (valid_at (HV.out.below HBX.out) (some ⟨g7, 0, none⟩) cap7 (2 * (a + 1) + 1) _ hlx HNX.out (by rw [← hlx]; omega) (by rw [← hlx]; omega) hox.1 hox.2 (some (1)) hvx)
        have HWI : Hid (((1 : Nat) : Int) = 1) := hid' (by omega)
        clear hlx hox hvx HNX
        go_wp2_with fail
        refine (HVX.out).mono ?_
        rintro e wv ⟨bv, gv, he, hatv, _⟩
        obtain rfl := he
        have HBV := hid' (HBX.out.trans (bv.mono HBX.out.size))
        rw [HWI.out] at hatv
        have HAT : Hid (PlAt wv gv (1) (E A 12)) := hid' hatv
        clear bv hatv
        go_wp2_with fail
        refine (Placed_any 113 (1) rfl wv).mono ?_
        rintro e wp ⟨rfl, bp⟩
        have HBP := hid' (HBV.out.trans (bp.mono HBV.out.size))
        have HSM := hid' (Same_pl A 12 gv (1) wp (by omega) (HS.out.below HBP.out) (HAT.out.below bp))
        clear bp
        go_wp2_with fail
        refine (HSM.out).mono ?_
        rintro e wq ⟨rfl, bq⟩
        have HBQ := hid' (HBP.out.trans (bq.mono HBP.out.size))
        clear bq
        go_wp2
        go_ret
        exact ⟨rfl, HBQ.out⟩
      · have HKD := hid' (HZ9.out.kids (by have := HOD.out; omega))
        have HIN := hid' (ints_any w10.heap.size _ (odds 0 (a + 1)) w10 HKD.out (Nat.le_refl _) (by have := HOD.out; omega))
        go_wp2_with fail
        refine (HIN.out).mono ?_
        rintro e w11 ⟨g9, cap9, rfl, ho9, b11⟩
        have HO9 := hid' ho9
        have HB11 := hid' b11
        have hs11 := b11.size
        clear ho9 b11
        obtain ⟨vL, hvL, NL, OL⟩ := HT9.out.cells (2 * (a + 1)) (blN (odds 0 (a + 1))) (by unfold treeL; rw [List.getElem?_append_right (by rw [pairs_length]; omega), pairs_length, Nat.sub_self]; rfl)
        have hglow := HT9.out.own.lt g7 rfl
        have hat : (2 * ((a : Int) + 1)).toNat = 2 * (a + 1) := by omega
        have HC4 := hid' NL.kids
        have HC5 := hid' (HT9.out.open_ (2 * (a + 1) * 5 + 4))
        go_wp2_with (at_builtin; refine num_plain (W := w11) HO9.out 1 ((odds 0 (a + 1)).length + 1) rfl hs11 (by omega) rfl (.tmp 71) (.tmp 72) (by rfl) (by rfl) (by first | rfl | simp [Act.eval]) ?_; intro g12 cap12 w12 p1 p2 p3 p4 p5; have HO12 := hid' p1; have HB12 := hid' (HB11.out.trans p2); clear p1 p2 p3 p4 p5; have d4 : w12.cell? ⟨g7, 2 * (a + 1) * 5 + 4, none⟩ = some vL := (HB12.out.cell (p := ⟨g7, 2 * (a + 1) * 5 + 4, none⟩) hglow.2).trans HC4.out; have d5 : w12.frozen? ⟨g7, 2 * (a + 1) * 5 + 4, none⟩ = false := (HB12.out.frozen (p := ⟨g7, 2 * (a + 1) * 5 + 4, none⟩) hglow.2).trans HC5.out)
        have HT12 := hid' (HT9.out.keep fun q _ hq => HB12.out.block q hq)
        have hg12 := (HO12.out.lt g12 rfl).1
        have HNX : Hid (NodesAt (w12.setCell ⟨g7, 2 * (a + 1) * 5 + 4, none⟩ (.slice (some ⟨g12, 0, none⟩) ((odds 0 (a + 1)).length + 1) cap12)).heap.size (w12.setCell ⟨g7, 2 * (a + 1) * 5 + 4, none⟩ (.slice (some ⟨g12, 0, none⟩) ((odds 0 (a + 1)).length + 1) cap12)) (some ⟨g7, 0, none⟩) ((treeL (a + 1)).set (2 * (a + 1)) (blN (odds 0 (a + 1) ++ [1])))) := hid' (HT12.out.set_kids (2 * (a + 1)) (blN (odds 0 (a + 1))) (by unfold treeL; rw [List.getElem?_append_right (by rw [pairs_length]; omega), pairs_length, Nat.sub_self]; rfl) _ _ (fun k hk => heap_setCell_other _ ⟨g7, 2 * (a + 1) * 5 + 4, none⟩ _ _ hk) (by simp [World.setCell]) (fun o ho => World.cell?_setCell_other _ _ _ _ (fun e => ho (by injection e with _ e _; exact e.symm))) (World.cell?_setCell_same _ _ _ d4) (by
          have h := HO12.out.keep (W' := w12.setCell ⟨g7, 2 * (a + 1) * 5 + 4, none⟩ (.slice (some ⟨g12, 0, none⟩) ((odds 0 (a + 1)).length + 1) cap12)) (fun q e hq => heap_setCell_other _ ⟨g7, 2 * (a + 1) * 5 + 4, none⟩ _ _ (fun e2 => by
            simp only [Value.ownBlock, Option.some.injEq] at e
            have e3 : q = g7 := e2
            omega))
          have h2 := h.kids (by rw [List.length_append]; have := HOD.out; simp; omega)
          exact h2))
        have HBX : Hid (Below w.heap.size w (w12.setCell ⟨g7, 2 * (a + 1) * 5 + 4, none⟩ (.slice (some ⟨g12, 0, none⟩) ((odds 0 (a + 1)).length + 1) cap12))) := hid' ((HB9.out.trans (HB12.out.mono HB9.out.size)).setCell (p := ⟨g7, 2 * (a + 1) * 5 + 4, none⟩) hglow.1 _)
        have hlx : 2 * (a + 1) + 1 = ((treeL (a + 1)).set (2 * (a + 1)) (blN (odds 0 (a + 1) ++ [1]))).length := by rw [List.length_set]; exact HLT.out
        have hox := set_ok (tree_ok (a + 1)) (2 * (a + 1)) (blN (odds 0 (a + 1) ++ [1])) (.inr (.inr (.inr rfl))) (by show (0 : Nat) ≤ _; omega)
        have hvx : validF ((treeL (a + 1)).set (2 * (a + 1)) (blN (odds 0 (a + 1) ++ [1]))) = some (2 * (a + 1)) := by rw [treeL_set]; exact valid_twice (a + 1)
        clear hat d4 d5 hvL NL OL HC4 HC5 HT12 HO12 HO9 HIN HKD
        have HVX := hid' (valid_at (HV.out.below HBX.out) (some ⟨g7, 0, none⟩) cap7 (2 * (a + 1) + 1) _ hlx HNX.out (by rw [← hlx]; omega) (by rw [← hlx]; omega) hox.1 hox.2 (some (2 * (a + 1))) hvx)
        have HWI : Hid (((2 * (a + 1) : Nat) : Int) = 2 * ((a : Int) + 1)) := hid' (by omega)
        clear hlx hox hvx HNX
        go_wp2_with fail
        refine (HVX.out).mono ?_
        rintro e wv ⟨bv, gv, he, hatv, _⟩
        obtain rfl := he
        have HBV := hid' (HBX.out.trans (bv.mono HBX.out.size))
        rw [HWI.out] at hatv
        have HAT : Hid (PlAt wv gv (2 * ((a : Int) + 1)) (E A 12)) := hid' hatv
        clear bv hatv
        go_wp2_with fail
        refine (Placed_any 113 (2 * ((a : Int) + 1)) rfl wv).mono ?_
        rintro e wp ⟨rfl, bp⟩
        have HBP := hid' (HBV.out.trans (bp.mono HBV.out.size))
        have HSM := hid' (Same_pl A 12 gv (2 * ((a : Int) + 1)) wp (by omega) (HS.out.below HBP.out) (HAT.out.below bp))
        clear bp
        go_wp2_with fail
        refine (HSM.out).mono ?_
        rintro e wq ⟨rfl, bq⟩
        have HBQ := hid' (HBP.out.trans (bq.mono HBP.out.size))
        clear bq
        go_wp2
        go_ret
        exact ⟨rfl, HBQ.out⟩
      · obtain ⟨gk, kcp, hke, hkl, hkg1, hkg2, hkc⟩ := own_some HZ9.out (by rw [HOD.out]; omega)
        injection hke with hk1 _ hk3
        subst hk1 hk3
        have hgg : gk ≠ g7 := fun e => own_apart HZ9.out HT9.out.own (by decide) gk rfl (by rw [e]; rfl)
        obtain ⟨vL, hvL, NL, OL⟩ := HT9.out.cells (2 * (a + 1)) (blN (odds 0 (a + 1))) (by unfold treeL; rw [List.getElem?_append_right (by rw [pairs_length]; omega), pairs_length, Nat.sub_self]; rfl)
        have hglow := HT9.out.own.lt g7 rfl
        have hat : (2 * ((a : Int) + 1)).toNat = 2 * (a + 1) := by omega
        have d4 := NL.kids
        have d5 := HT9.out.open_ (2 * (a + 1) * 5 + 4)
        have l1 : 1 ≤ (odds 0 (a + 1)).length := by rw [HOD.out]; omega
        have l2 : 1 ≤ kcap := by omega
        have l3 : ¬ kcap < 1 := by omega
        have l4 : ¬ (odds 0 (a + 1)).length < 1 := by omega
        have HSK := hid' (fun (W' : World) (v' : Value) (zs : List Int) (hfar : ∀ k, k ≠ g7 → W'.heap[k]? = w10.heap[k]?) (hsz : W'.heap.size = w10.heap.size) (hoth : ∀ o, o ≠ 2 * (a + 1) * 5 + 4 → W'.cell? ⟨g7, o, none⟩ = w10.cell? ⟨g7, o, none⟩) (hat : W'.cell? ⟨g7, 2 * (a + 1) * 5 + 4, none⟩ = some v') (hk : KidsAt W'.heap.size W' v' zs) =>
          (show NodesAt W'.heap.size W' (some ⟨g7, 0, none⟩) ((treeL (a + 1)).set (2 * (a + 1)) (blN zs)) from HT9.out.set_kids (2 * (a + 1)) (blN (odds 0 (a + 1))) (by unfold treeL; rw [List.getElem?_append_right (by rw [pairs_length]; omega), pairs_length, Nat.sub_self]; rfl) v' zs hfar hsz hoth hat hk))
        have HLX := hid' (fun zs => (show 2 * (a + 1) + 1 = ((treeL (a + 1)).set (2 * (a + 1)) (blN zs)).length by rw [List.length_set]; exact HLT.out))
        have HOX := hid' (fun zs => set_ok (tree_ok (a + 1)) (2 * (a + 1)) (blN zs) (.inr (.inr (.inr rfl))) (by show (0 : Nat) ≤ _; omega))
        clear hvL NL OL
        by_cases ha0 : a = 0
        · have ha1 : ((a : Int) + 1 == 1) = true := by rw [beq_iff_eq]; omega
          have HD4 := hid' d4
          have HNX := hid' (fun u => HSK.out ((w10.setCell ⟨g7, 2 * (a + 1) * 5 + 4, none⟩ u).setCell ⟨g7, 2 * (a + 1) * 5 + 4, none⟩ (.slice none 0 0)) (.slice none 0 0) [] (fun k hk => (heap_setCell_other _ ⟨g7, 2 * (a + 1) * 5 + 4, none⟩ _ _ hk).trans (heap_setCell_other _ ⟨g7, 2 * (a + 1) * 5 + 4, none⟩ _ _ hk)) (by simp [World.setCell]) (fun o ho => (World.cell?_setCell_other _ _ _ _ (fun e => ho (by injection e with _ e _; exact e.symm))).trans (World.cell?_setCell_other _ _ _ _ (fun e => ho (by injection e with _ e _; exact e.symm)))) (World.cell?_setCell_same _ _ _ (World.cell?_setCell_same _ _ _ HD4.out)) ⟨none, 0, rfl, ⟨Nat.le_refl _, Nat.zero_le _⟩, .inl rfl⟩)
          have HBX := hid' (fun u => (HB9.out.setCell (p := ⟨g7, 2 * (a + 1) * 5 + 4, none⟩) hglow.1 u).setCell (p := ⟨g7, 2 * (a + 1) * 5 + 4, none⟩) hglow.1 (.slice none 0 0))
          have hvx : validF ((treeL (a + 1)).set (2 * (a + 1)) (blN [])) = some (2 * (a + 1)) := by rw [treeL_set, ha0]; exact valid_empty
          have hlx := HLX.out []
          have HVX := hid' (fun u => valid_at (HV.out.below (HBX.out u)) (some ⟨g7, 0, none⟩) cap7 (2 * (a + 1) + 1) _ hlx (HNX.out u) (by rw [← hlx]; omega) (by rw [← hlx]; omega) (HOX.out []).1 (HOX.out []).2 (some (2 * (a + 1))) hvx)
          have HWI : Hid (((2 * (a + 1) : Nat) : Int) = 2 * ((a : Int) + 1)) := hid' (by omega)
          clear hlx hvx HNX ha0 hkc
          by_cases hkb : kcap = 1
          · subst hkb
            go_wp2_with fail
            refine (HVX.out _).mono ?_
            rintro e wv ⟨bv, gv, he, hatv, _⟩
            obtain rfl := he
            have HBV := hid' ((HBX.out _).trans (bv.mono (HBX.out _).size))
            rw [HWI.out] at hatv
            have HAT : Hid (PlAt wv gv (2 * ((a : Int) + 1)) (E A 12)) := hid' hatv
            clear bv hatv
            go_wp2_with fail
            refine (Placed_any 113 (2 * ((a : Int) + 1)) rfl wv).mono ?_
            rintro e wp ⟨rfl, bp⟩
            have HBP := hid' (HBV.out.trans (bp.mono HBV.out.size))
            have HSM := hid' (Same_pl A 12 gv (2 * ((a : Int) + 1)) wp (by omega) (HS.out.below HBP.out) (HAT.out.below bp))
            clear bp
            go_wp2_with fail
            refine (HSM.out).mono ?_
            rintro e wq ⟨rfl, bq⟩
            have HBQ := hid' (HBP.out.trans (bq.mono HBP.out.size))
            clear bq
            go_wp2
            go_ret
            exact ⟨rfl, HBQ.out⟩
          · have hka : ¬ 1 = kcap := fun e => hkb e.symm
            go_wp2_with fail
            refine (HVX.out _).mono ?_
            rintro e wv ⟨bv, gv, he, hatv, _⟩
            obtain rfl := he
            have HBV := hid' ((HBX.out _).trans (bv.mono (HBX.out _).size))
            rw [HWI.out] at hatv
            have HAT : Hid (PlAt wv gv (2 * ((a : Int) + 1)) (E A 12)) := hid' hatv
            clear bv hatv
            go_wp2_with fail
            refine (Placed_any 113 (2 * ((a : Int) + 1)) rfl wv).mono ?_
            rintro e wp ⟨rfl, bp⟩
            have HBP := hid' (HBV.out.trans (bp.mono HBV.out.size))
            have HSM := hid' (Same_pl A 12 gv (2 * ((a : Int) + 1)) wp (by omega) (HS.out.below HBP.out) (HAT.out.below bp))
            clear bp
            go_wp2_with fail
            refine (HSM.out).mono ?_
            rintro e wq ⟨rfl, bq⟩
            have HBQ := hid' (HBP.out.trans (bq.mono HBP.out.size))
            clear bq
            go_wp2
            go_ret
            exact ⟨rfl, HBQ.out⟩
        · have hka : ¬ 1 = kcap := by rw [HOD.out] at hkl; omega
          have hkb : ¬ kcap = 1 := fun e => hka e.symm
          have ha1 : ((a : Int) + 1 == 1) = false := by rw [beq_eq_false_iff_ne]; omega
          have HLN : Hid ((odds 0 (a + 1)).length - 1 = (odds 1 a).length) := hid' (by rw [HOD.out, odds_length]; rfl)
          have HD4 := hid' d4
          have HKC := hid' (fun (j : Nat) z (hz : (odds 1 a)[j]? = some z) => hkc (j + 1) _ (nums_at (S := odds 0 (a + 1)) (by exact hz)))
          clear ha0 hkc
          have HNX : Hid (NodesAt (w10.setCell ⟨g7, 2 * (a + 1) * 5 + 4, none⟩ (.slice (some ⟨gk, 1, none⟩) ((odds 0 (a + 1)).length - 1) (kcap - 1))).heap.size (w10.setCell ⟨g7, 2 * (a + 1) * 5 + 4, none⟩ (.slice (some ⟨gk, 1, none⟩) ((odds 0 (a + 1)).length - 1) (kcap - 1))) (some ⟨g7, 0, none⟩) ((treeL (a + 1)).set (2 * (a + 1)) (blN (odds 1 a)))) := hid' (HSK.out _ _ _ (fun k hk => heap_setCell_other _ ⟨g7, 2 * (a + 1) * 5 + 4, none⟩ _ _ hk) (by simp [World.setCell]) (fun o ho => World.cell?_setCell_other _ _ _ _ (fun e => ho (by injection e with _ e _; exact e.symm))) (World.cell?_setCell_same _ _ _ d4) (by
            rw [HLN.out]
            refine ⟨some ⟨gk, 1, none⟩, kcap - 1, rfl, ⟨by rw [← HLN.out]; omega, by rw [← HLN.out]; omega⟩, .inr ⟨gk, 1, rfl, by simp [World.setCell]; exact hkg2, fun j z hz => ?_⟩⟩
            rw [World.cell?_setCell_other _ _ _ _ (fun e => hgg (by injection e with e _ _; exact e.symm)), Nat.add_comm]
            exact HKC.out j z hz))
          have HBX : Hid (Below w.heap.size w (w10.setCell ⟨g7, 2 * (a + 1) * 5 + 4, none⟩ (.slice (some ⟨gk, 1, none⟩) ((odds 0 (a + 1)).length - 1) (kcap - 1)))) := hid' (HB9.out.setCell (p := ⟨g7, 2 * (a + 1) * 5 + 4, none⟩) hglow.1 _)
          have hlx := HLX.out (odds 1 a)
          have hox := HOX.out (odds 1 a)
          have hvx : validF ((treeL (a + 1)).set (2 * (a + 1)) (blN (odds 1 a))) = some (2 * (a + 1)) := by rw [treeL_set]; exact valid_less a
          have HVX := hid' (valid_at (HV.out.below HBX.out) (some ⟨g7, 0, none⟩) cap7 (2 * (a + 1) + 1) _ hlx HNX.out (by rw [← hlx]; omega) (by rw [← hlx]; omega) hox.1 hox.2 (some (2 * (a + 1))) hvx)
          have HWI : Hid (((2 * (a + 1) : Nat) : Int) = 2 * ((a : Int) + 1)) := hid' (by omega)
          clear hlx hox hvx HNX
          go_wp2_with fail
          refine (HVX.out).mono ?_
          rintro e wv ⟨bv, gv, he, hatv, _⟩
          obtain rfl := he
          have HBV := hid' (HBX.out.trans (bv.mono HBX.out.size))
          rw [HWI.out] at hatv
          have HAT : Hid (PlAt wv gv (2 * ((a : Int) + 1)) (E A 12)) := hid' hatv
          clear bv hatv
          go_wp2_with fail
          refine (Placed_any 113 (2 * ((a : Int) + 1)) rfl wv).mono ?_
          rintro e wp ⟨rfl, bp⟩
          have HBP := hid' (HBV.out.trans (bp.mono HBV.out.size))
          have HSM := hid' (Same_pl A 12 gv (2 * ((a : Int) + 1)) wp (by omega) (HS.out.below HBP.out) (HAT.out.below bp))
          clear bp
          go_wp2_with fail
          refine (HSM.out).mono ?_
          rintro e wq ⟨rfl, bq⟩
          have HBQ := hid' (HBP.out.trans (bq.mono HBP.out.size))
          clear bq
          go_wp2
          go_ret
          exact ⟨rfl, HBQ.out⟩
      · obtain ⟨v0, hv0, N0, O0⟩ := HT9.out.cells 0 (nmN xT) (by rw [treeL_cons]; rfl)
        have c3 : w10.cell? ⟨g7, 3, none⟩ = some (.string xT) := N0.text
        have f3 : w10.frozen? ⟨g7, 3, none⟩ = false := HT9.out.open_ 3
        have hgw : w.heap.size ≤ g7 := (HT9.out.own.lt g7 rfl).1
        have hne : ∀ i c : Nat, i ≠ 0 → c < 5 → (⟨g7, 3, none⟩ : Addr) ≠ ⟨g7, i * 5 + c, none⟩ := fun i c hi hc e => by injection e with _ e _; omega
        have HNX : Hid (NodesAt (w10.setCell ⟨g7, 3, none⟩ (.string ⟨#[102, 111, 114]⟩)).heap.size (w10.setCell ⟨g7, 3, none⟩ (.string ⟨#[102, 111, 114]⟩)) (some ⟨g7, 0, none⟩) ((treeL (a + 1)).set 0 (nmN ⟨#[102, 111, 114]⟩))) := hid' (HT9.out.nodes_to (fun k hk => heap_setCell_other _ ⟨g7, 3, none⟩ _ _ hk) (by simp [World.setCell]) 0 (nmN ⟨#[102, 111, 114]⟩) v0 (fun i hi c hc => World.cell?_setCell_other _ _ _ _ (hne i c hi hc)) ⟨(World.cell?_setCell_other _ _ _ _ (by simp)).trans N0.op, (World.cell?_setCell_other _ _ _ _ (by simp)).trans N0.num, (World.cell?_setCell_other _ _ _ _ (by simp)).trans N0.pos, World.cell?_setCell_same _ _ _ c3, (World.cell?_setCell_other _ _ _ _ (by simp)).trans N0.kids, by
          obtain ⟨ao, cap, e, h1, _⟩ := N0.list
          exact ⟨ao, cap, e, h1, .inl rfl⟩⟩)
        have HBX := hid' (HB9.out.setCell (p := ⟨g7, 3, none⟩) hgw (.string ⟨#[102, 111, 114]⟩))
        have hlx : 2 * (a + 1) + 1 = ((treeL (a + 1)).set 0 (nmN ⟨#[102, 111, 114]⟩)).length := by rw [List.length_set]; exact HLT.out
        have hox := set_ok (tree_ok (a + 1)) 0 (nmN ⟨#[102, 111, 114]⟩) (.inl rfl) (by show (3 : Nat) ≤ _; omega)
        have hvx : validF ((treeL (a + 1)).set 0 (nmN ⟨#[102, 111, 114]⟩)) = some 0 := by rw [treeL_cons]; exact valid_first _ _ name_for
        clear hv0 N0 O0 hne hgw
        have HVX := hid' (valid_at (HV.out.below HBX.out) (some ⟨g7, 0, none⟩) cap7 (2 * (a + 1) + 1) _ hlx HNX.out (by rw [← hlx]; omega) (by rw [← hlx]; omega) hox.1 hox.2 (some (0)) hvx)
        have HWI : Hid (((0 : Nat) : Int) = 0) := hid' (by omega)
        clear hlx hox hvx HNX
        go_wp2_with fail
        refine (HVX.out).mono ?_
        rintro e wv ⟨bv, gv, he, hatv, _⟩
        obtain rfl := he
        have HBV := hid' (HBX.out.trans (bv.mono HBX.out.size))
        rw [HWI.out] at hatv
        have HAT : Hid (PlAt wv gv (0) (E A 12)) := hid' hatv
        clear bv hatv
        go_wp2_with fail
        refine (Placed_any 113 (0) rfl wv).mono ?_
        rintro e wp ⟨rfl, bp⟩
        have HBP := hid' (HBV.out.trans (bp.mono HBV.out.size))
        have HSM := hid' (Same_pl A 12 gv (0) wp (by omega) (HS.out.below HBP.out) (HAT.out.below bp))
        clear bp
        go_wp2_with fail
        refine (HSM.out).mono ?_
        rintro e wq ⟨rfl, bq⟩
        have HBQ := hid' (HBP.out.trans (bq.mono HBP.out.size))
        clear bq
        go_wp2
        go_ret
        exact ⟨rfl, HBQ.out⟩
      · obtain ⟨v1, hv1, N1, O1⟩ := HT9.out.cells 1 (exN 0) (by rw [treeL_cons]; rfl)
        obtain ⟨kb, cp, hv1e, hcp, hkb1, hkb2, hkc2⟩ := own_some O1 (by show 0 < 1; omega)
        have hv1e' : v1 = .slice (some ⟨kb, 0, none⟩) 1 cp := hv1e
        subst hv1e'
        have c9 : w10.cell? ⟨g7, 9, none⟩ = some (.slice (some ⟨kb, 0, none⟩) 1 cp) := N1.kids
        have c0 : w10.cell? ⟨kb, 0, none⟩ = some (.int .i64 0) := hkc2 0 _ rfl
        have f0 : w10.frozen? ⟨kb, 0, none⟩ = false := OwnZ.open_ O1 0
        have HTS : Hid (Tr (w10.setCell ⟨kb, 0, none⟩ (.int .i64 (-1))) w.heap.size (.slice (some ⟨g7, 0, none⟩) (2 * (a + 1) + 1) cap7) ((treeL (a + 1)).set 1 (exN (-1))) (vs ++ [.slice kao (odds 0 (a + 1)).length kcap])) := hid' (HT9.out.setKid 1 (exN 0) kb 1 cp (by rw [treeL_cons]; rfl) hv1 rfl 0 (-1))
        have HNX := hid' HTS.out.nodesAt
        have HBX := hid' (HB9.out.setCell (p := ⟨kb, 0, none⟩) hkb1 (.int .i64 (-1)))
        have hlx : 2 * (a + 1) + 1 = ((treeL (a + 1)).set 1 (exN (-1))).length := by rw [List.length_set]; exact HLT.out
        have hox := set_ok (tree_ok (a + 1)) 1 (exN (-1)) (.inr (.inr (.inl rfl))) (by show (0 : Nat) ≤ _; omega)
        have hvx : validF ((treeL (a + 1)).set 1 (exN (-1))) = some 1 := by rw [treeL_cons]; exact valid_second xT (-1) _ name_x (by decide)
        clear hv1 hv1e N1 O1 hkc2 hcp
        have HVX := hid' (valid_at (HV.out.below HBX.out) (some ⟨g7, 0, none⟩) cap7 (2 * (a + 1) + 1) _ hlx HNX.out (by rw [← hlx]; omega) (by rw [← hlx]; omega) hox.1 hox.2 (some (1)) hvx)
        have HWI : Hid (((1 : Nat) : Int) = 1) := hid' (by omega)
        clear hlx hox hvx HNX
        go_wp2_with fail
        refine (HVX.out).mono ?_
        rintro e wv ⟨bv, gv, he, hatv, _⟩
        obtain rfl := he
        have HBV := hid' (HBX.out.trans (bv.mono HBX.out.size))
        rw [HWI.out] at hatv
        have HAT : Hid (PlAt wv gv (1) (E A 12)) := hid' hatv
        clear bv hatv
        go_wp2_with fail
        refine (Placed_any 113 (1) rfl wv).mono ?_
        rintro e wp ⟨rfl, bp⟩
        have HBP := hid' (HBV.out.trans (bp.mono HBV.out.size))
        have HSM := hid' (Same_pl A 12 gv (1) wp (by omega) (HS.out.below HBP.out) (HAT.out.below bp))
        clear bp
        go_wp2_with fail
        refine (HSM.out).mono ?_
        rintro e wq ⟨rfl, bq⟩
        have HBQ := hid' (HBP.out.trans (bq.mono HBP.out.size))
        clear bq
        go_wp2
        go_ret
        exact ⟨rfl, HBQ.out⟩
end Go.Proofs.YtnjbhcjdlbmmhaaDoor
