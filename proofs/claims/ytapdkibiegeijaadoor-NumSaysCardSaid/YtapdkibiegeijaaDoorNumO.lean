/- Num's Mul and Add. Conditions: as each states. -/
import Derived.Test.YtapdkibiegeijaaDoorNumN
import Derived.Test.YtapdkibiegeijaaDoorTake
namespace Go.Proofs.YtapdkibiegeijaaDoor
open Go.RowKit
namespace Nm

/-- Two Nums in boxes and a place for the result. -/
structure Boxes (w W : World) (c0 c1 d0 d1 : Value) : Prop where
  a : Blk W w.heap.size c0 c1
  b : Blk W (w.heap.size + 1) d0 d1
  r : Blk W (w.heap.size + 2) (.bool false) (.slice none 0 0)
  size : w.heap.size + 3 ≤ W.heap.size
  below : Below w.heap.size w W
theorem boxes_new (w : World) (c0 c1 d0 d1 : Value) : Boxes w (((w.alloc (.cells #[c0, c1] 25)).alloc (.cells #[d0, d1] 25)).alloc (.cells #[.bool false, .slice none 0 0] 25)) c0 c1 d0 d1 where
  a := ((blk_new w c0 c1).below ((Below.refl _ _).alloc (Nat.le_refl _) _) (by simp)).below ((Below.refl _ _).alloc (Nat.le_refl _) _) (by simp; omega)
  b := by
    have := (blk_new (w.alloc (.cells #[c0, c1] 25)) d0 d1).below ((Below.refl _ _).alloc (Nat.le_refl _) (.cells #[.bool false, .slice none 0 0] 25)) (by simp)
    rwa [World.size_alloc] at this
  r := by
    have := blk_new ((w.alloc (.cells #[c0, c1] 25)).alloc (.cells #[d0, d1] 25)) (.bool false) (.slice none 0 0)
    rwa [World.size_alloc, World.size_alloc] at this
  size := by simp
  below := (((Below.refl _ _).alloc (Nat.le_refl _) _).alloc (by simp) _).alloc (by simp; omega) _
theorem Boxes.more {w W W' : World} {c0 c1 d0 d1 : Value} (h : Boxes w W c0 c1 d0 d1) (hb : Below W.heap.size W W') : Boxes w W' c0 c1 d0 d1 where
  a := h.a.below hb (by have := h.size; omega)
  b := h.b.below hb (by have := h.size; omega)
  r := h.r.below hb (by have := h.size; omega)
  size := Nat.le_trans h.size hb.size
  below := h.below.trans (hb.mono (by have := h.size; omega))
/-- The cells of the two, as long as they stay. -/
theorem Boxes.cells {w W : World} {c0 c1 d0 d1 : Value} (h : Boxes w W c0 c1 d0 d1) (W' : World) (hb : Below (w.heap.size + 2) W W') : W'.cell? ⟨w.heap.size, 0, none⟩ = some c0 ∧ W'.cell? ⟨w.heap.size, 1, none⟩ = some c1 ∧
    W'.cell? ⟨w.heap.size + 1, 0, none⟩ = some d0 ∧ W'.cell? ⟨w.heap.size + 1, 1, none⟩ = some d1 ∧ True ∧ True :=
  ⟨(h.a.below hb (by omega)).facts.1, (h.a.below hb (by omega)).facts.2.1, (h.b.below hb (by omega)).facts.1, (h.b.below hb (by omega)).facts.2.1, trivial, trivial⟩
/-- The two exchanged. -/
theorem Boxes.swap {w W : World} {c0 c1 d0 d1 : Value} (h : Boxes w W c0 c1 d0 d1) :
    Boxes w ((((W.setCell ⟨w.heap.size, 0, none⟩ d0).setCell ⟨w.heap.size, 1, none⟩ d1).setCell ⟨w.heap.size + 1, 0, none⟩ c0).setCell ⟨w.heap.size + 1, 1, none⟩ c1) d0 d1 c0 c1 where
  a := (heap_setCell_other _ _ _ _ (by simp)).trans ((heap_setCell_other _ _ _ _ (by simp)).trans (h.a.set d0 d1))
  b := by
    have e : Blk ((W.setCell ⟨w.heap.size, 0, none⟩ d0).setCell ⟨w.heap.size, 1, none⟩ d1) (w.heap.size + 1) d0 d1 := (heap_setCell_other _ _ _ _ (by simp)).trans ((heap_setCell_other _ _ _ _ (by simp)).trans h.b)
    exact e.set c0 c1
  r := (heap_setCell_other _ _ _ _ (by simp)).trans ((heap_setCell_other _ _ _ _ (by simp)).trans ((heap_setCell_other _ _ _ _ (by simp)).trans ((heap_setCell_other _ _ _ _ (by simp)).trans h.r)))
  size := by simp only [World.size_setCell]; exact h.size
  below := (((h.below.setCell (Nat.le_refl _) _).setCell (Nat.le_refl _) _).setCell (by simp) _).setCell (by simp) _
theorem sgnv_mul (a b : Bool) (m n : Nat) : sgnv (!(a == b)) (m * n) = sgnv a m * sgnv b n := by
  cases a <;> cases b <;> simp [sgnv, Int.neg_mul, Int.mul_neg]
theorem sgnv_add (a : Bool) (m n : Nat) : sgnv a (m + n) = sgnv a m + sgnv a n := by
  cases a <;> simp [sgnv] <;> omega
theorem sgnv_sub (a b : Bool) (hab : a ≠ b) (m n : Nat) (h : n ≤ m) : sgnv a (m - n) = sgnv a m + sgnv b n := by
  cases a <;> cases b <;> simp_all [sgnv] <;> omega
set_option maxHeartbeats 3200000 in
theorem mul_any (a b : Value) (x y : Int) (k m : Nat) (w : World) (ha : NumAt w a x k) (hb : NumAt w b y m) (hk : k < 100000000) (hm : m < 100000000) :
    Calls Tryd.prog 23 #[a, b] w fun e w' => IsNum w w' e (x * y) (k + m) := by
  obtain ⟨na, ao, ac, la, rfl, hac, hsa, hda, hta, hla, hpa, rfl⟩ := ha
  obtain ⟨nb, bo, bc, lb, rfl, hbc, hsb, hdb, htb, hlb, hpb, rfl⟩ := hb
  have hbx := boxes_new w (.bool na) (.slice ao la.length ac) (.bool nb) (.slice bo lb.length bc)
  have HSA := hidden hsa
  have HSB := hidden hsb
  have hp := fun W (h1 : SrcN W ao la) (h2 : SrcN W bo lb) => product_any ao bo ac bc la lb W (by omega) (by omega) h1 h2 hda hdb
  obtain ⟨n, hn⟩ : ∃ n, la.length = n := ⟨_, rfl⟩
  obtain ⟨n2, hn2⟩ : ∃ n, lb.length = n := ⟨_, rfl⟩
  rw [hn] at hbx hp hla hac ⊢
  rw [hn2] at hbx hp hlb hbc ⊢
  have HP := hidden hp
  clear hsa hsb hda hdb hta htb hpa hpb hn hn2 hp
  go_enter Tryd.func23, Tryd.ntmps23
  go_wp2_with fail
  have HBX := hidden hbx
  clear hbx
  generalize ((w.alloc (.cells #[.bool na, .slice ao n ac] 25)).alloc (.cells #[.bool nb, .slice bo n2 bc] 25)).alloc (.cells #[.bool false, .slice none 0 0] 25) = W0 at HBX ⊢
  have HSA0 := hidden (HSA.out.below HBX.out.below)
  have HSB0 := hidden (HSB.out.below HBX.out.below)
  refine wp_region_held_drew (S := fun W => Below (w.heap.size + 2) W0 W) (by kernel_rfl) (Below.refl _ _).drew (fun hH0 => ?_)
  refine take_val' (i := 0) (v := (.pointer (some ⟨w.heap.size, 0, none⟩))) rfl (by kernel_rfl) (by kernel_rfl) (by kernel_rfl) (some 5) rfl (fun _ _ _ h => h) (Or.inl ⟨by rfl, fun W hW => by go_simp⟩) hH0 ?_
  try simp only [Act.put, List.setIfInBounds_toArray, List.set_cons_zero, List.set_cons_succ]
  refine take_val' (i := 1) (v := (.bool na)) rfl (by kernel_rfl) (by kernel_rfl) (by kernel_rfl) (some 6) rfl (fun _ _ _ h => h) (Or.inl ⟨by rfl, fun W hW => by obtain ⟨k0, k1, k2, k3, k4, k5⟩ := HBX.out.cells W hW; go_simp⟩) hH0 ?_
  try simp only [Act.put, List.setIfInBounds_toArray, List.set_cons_zero, List.set_cons_succ]
  refine take_val' (i := 2) (v := (.pointer (some ⟨w.heap.size + 1, 0, none⟩))) rfl (by kernel_rfl) (by kernel_rfl) (by kernel_rfl) (some 7) rfl (fun _ _ _ h => h) (Or.inl ⟨by rfl, fun W hW => by go_simp⟩) hH0 ?_
  try simp only [Act.put, List.setIfInBounds_toArray, List.set_cons_zero, List.set_cons_succ]
  refine take_val' (i := 3) (v := (.bool nb)) rfl (by kernel_rfl) (by kernel_rfl) (by kernel_rfl) (some 8) rfl (fun _ _ _ h => h) (Or.inl ⟨by rfl, fun W hW => by obtain ⟨k0, k1, k2, k3, k4, k5⟩ := HBX.out.cells W hW; go_simp⟩) hH0 ?_
  try simp only [Act.put, List.setIfInBounds_toArray, List.set_cons_zero, List.set_cons_succ]
  refine take_val' (i := 4) (v := (.bool (!(na == nb)))) rfl (by kernel_rfl) (by kernel_rfl) (by kernel_rfl) (some 9) rfl (fun _ _ _ h => h) (Or.inl ⟨by rfl, fun W hW => by go_simp⟩) hH0 ?_
  try simp only [Act.put, List.setIfInBounds_toArray, List.set_cons_zero, List.set_cons_succ]
  refine take_val' (i := 5) (v := (.pointer (some ⟨w.heap.size, 1, none⟩))) rfl (by kernel_rfl) (by kernel_rfl) (by kernel_rfl) (some 10) rfl (fun _ _ _ h => h) (Or.inl ⟨by rfl, fun W hW => by go_simp⟩) hH0 ?_
  try simp only [Act.put, List.setIfInBounds_toArray, List.set_cons_zero, List.set_cons_succ]
  refine take_val' (i := 6) (v := (.slice ao n ac)) rfl (by kernel_rfl) (by kernel_rfl) (by kernel_rfl) (some 11) rfl (fun _ _ _ h => h) (Or.inl ⟨by rfl, fun W hW => by obtain ⟨k0, k1, k2, k3, k4, k5⟩ := HBX.out.cells W hW; go_simp⟩) hH0 ?_
  try simp only [Act.put, List.setIfInBounds_toArray, List.set_cons_zero, List.set_cons_succ]
  refine take_val' (i := 7) (v := (.pointer (some ⟨w.heap.size + 1, 1, none⟩))) rfl (by kernel_rfl) (by kernel_rfl) (by kernel_rfl) (some 12) rfl (fun _ _ _ h => h) (Or.inl ⟨by rfl, fun W hW => by go_simp⟩) hH0 ?_
  try simp only [Act.put, List.setIfInBounds_toArray, List.set_cons_zero, List.set_cons_succ]
  refine take_val' (i := 8) (v := (.slice bo n2 bc)) rfl (by kernel_rfl) (by kernel_rfl) (by kernel_rfl) (some 13) rfl (fun _ _ _ h => h) (Or.inl ⟨by rfl, fun W hW => by obtain ⟨k0, k1, k2, k3, k4, k5⟩ := HBX.out.cells W hW; go_simp⟩) hH0 ?_
  try simp only [Act.put, List.setIfInBounds_toArray, List.set_cons_zero, List.set_cons_succ]
  refine wpAnyH_ready (rs := [9]) (by kernel_rfl) (by simp) ?_
  refine AllReadyH.cons rfl (fun K hK => ?_) AllReadyH.nil
  go_simp
  refine (HP.out _ (HSA0.out.below (Below.refl _ _).drew) (HSB0.out.below (Below.refl _ _).drew)).mono ?_
  rintro e w1 ⟨g1, T, hl1, rfl, hg1, hrow1, hd1, hv1, hb1⟩
  have hb0 : Below (w.heap.size + 3) W0.drew w1 := hb1.mono HBX.out.size
  have hB1 := hidden (show Below (w.heap.size + 2) W0 w1 from ((Below.refl _ _).drew).trans (hb0.mono (by omega)))
  have hr1 := hidden ((show Blk W0.drew (w.heap.size + 2) _ _ from HBX.out.r).below hb0 (show w.heap.size + 2 < w.heap.size + 3 by omega))
  have hz1 : w.heap.size + 3 ≤ w1.heap.size := Nat.le_trans HBX.out.size hb1.size
  have HR1 := hidden hrow1
  have HL1 := hidden hl1
  have HD1 := hidden hd1
  have HV1 := hidden hv1
  clear hrow1 hl1 hd1 hv1 hb1 hg1 hb0
  refine hK.out _ _ (hB1.out) (fun hH1 => ?_)
  clear hK K
  try simp only [Act.put, List.setIfInBounds_toArray, List.set_cons_zero, List.set_cons_succ]
  refine wpAnyH_ready (rs := [10]) (by kernel_rfl) (by simp) ?_
  refine AllReadyH.cons rfl (fun K hK => ?_) AllReadyH.nil
  go_simp
  refine (made_any (!(na == nb)) (some ⟨g1, 0, none⟩) (n + n2) (n + n2) T w1 HL1.out (by omega) (Nat.le_refl _) HR1.out.src HD1.out).mono ?_
  rintro e w2 ⟨v, rfl, ⟨n3, a3, c3, l3, rfl, q1, q2, q3, q4, q5, q6, q7⟩, hb2⟩
  have hB2 := hidden (show Below (w.heap.size + 2) W0 w2 from hB1.out.trans (hb2.mono (by omega)))
  have hN := hidden (show NumAt w2 (.agg #[.bool n3, .slice a3 l3.length c3]) (sgnv (!(na == nb)) (val T)) (n + n2) from ⟨n3, a3, c3, l3, rfl, q1, q2, q3, q4, q5, q6, q7⟩)
  have hr2 := (show Blk w2 (w.heap.size + 1 + 1) _ _ from hr1.out.below hb2 (show w.heap.size + 2 < w1.heap.size by omega))
  obtain ⟨f0, f1, f2, f3⟩ := hr2.facts
  clear q1 q2 q3 q4 q5 q6 q7 hb2
  refine hK.out _ _ (hB2.out) (fun hH2 => ?_)
  clear hK K
  try simp only [Act.put, List.setIfInBounds_toArray, List.set_cons_zero, List.set_cons_succ]
  refine wpAnyH_ready (rs := [11]) (by kernel_rfl) (by simp) ?_
  refine AllReadyH.cons rfl (fun K hK => ?_) AllReadyH.nil
  go_simp
  refine hK.out _ _ ((hB2.out.setCell (show w.heap.size + 2 ≤ w.heap.size + 1 + 1 by omega) _).setCell (show w.heap.size + 2 ≤ w.heap.size + 1 + 1 by omega) _) (fun hH3 => ?_)
  clear hK K
  try simp only [Act.put, List.setIfInBounds_toArray, List.set_cons_zero, List.set_cons_succ]
  refine wpAnyH_done (by kernel_rfl) ?_ _
  have hst := (Blk.set hr2 (.bool n3) (.slice a3 l3.length c3)).facts
  obtain ⟨g1, g2⟩ := numAt_stored (w := w) (HBX.out.below.trans (hB2.out.mono (by omega))) (by omega) hr2 hN.out
  have HG1 := hidden g1
  have HG2 := hidden g2
  have HST := hidden hst
  clear hst g1 g2 hr2 hN
  go_wp2
  refine bodyPost_ret (v := .agg #[.bool n3, .slice a3 l3.length c3]) (by simp [results, Tryd.results23, go_sem, HST.out.1, HST.out.2.1]) rfl ⟨_, rfl, ?_, HG2.out⟩
  rw [← sgnv_mul, ← HV1.out]
  exact HG1.out.mono (by omega)
set_option maxHeartbeats 3200000 in
theorem add_any (a b : Value) (x y : Int) (k m : Nat) (w : World) (ha : NumAt w a x k) (hb : NumAt w b y m) (hk : k < 100000000) (hm : m < 100000000) :
    Calls Tryd.prog 19 #[a, b] w fun e w' => IsNum w w' e (x + y) (max k m + 1) := by
  obtain ⟨na, ao, ac, la, rfl, hac, hsa, hda, hta, hla, hpa, rfl⟩ := ha
  obtain ⟨nb, bo, bc, lb, rfl, hbc, hsb, hdb, htb, hlb, hpb, rfl⟩ := hb
  have hbx := boxes_new w (.bool na) (.slice ao la.length ac) (.bool nb) (.slice bo lb.length bc)
  have HSA := hidden hsa
  have HSB := hidden hsb
  by_cases hs : na = nb
  · subst hs
    have hp := fun W (h1 : SrcN W ao la) (h2 : SrcN W bo lb) => sum_any ao bo ac bc la lb W (by omega) (by omega) h1 h2 hda hdb
    obtain ⟨n, hn⟩ : ∃ n, la.length = n := ⟨_, rfl⟩
    obtain ⟨n2, hn2⟩ : ∃ n, lb.length = n := ⟨_, rfl⟩
    rw [hn] at hbx hp hla hac ⊢
    rw [hn2] at hbx hp hlb hbc ⊢
    have HP := hidden hp
    clear hsa hsb hda hdb hta htb hpa hpb hn hn2 hp
    have hmx : max n n2 ≤ max k m := by omega
    obtain ⟨mx, hmx2⟩ : ∃ mx, max n n2 = mx := ⟨_, rfl⟩
    obtain ⟨mk, hmk2⟩ : ∃ mx, max k m = mx := ⟨_, rfl⟩
    have hmkl : mk < 100000000 := by omega
    rw [hmx2] at HP hmx
    rw [hmk2] at hmx ⊢
    clear hmx2 hmk2
    go_enter Tryd.func19, Tryd.ntmps19
    go_wp2_with fail
    have HBX := hidden hbx
    clear hbx
    generalize ((w.alloc (.cells #[.bool na, .slice ao n ac] 25)).alloc (.cells #[.bool na, .slice bo n2 bc] 25)).alloc (.cells #[.bool false, .slice none 0 0] 25) = W0 at HBX ⊢
    have HSA0 := hidden (HSA.out.below HBX.out.below)
    have HSB0 := hidden (HSB.out.below HBX.out.below)
    refine wp_region_held_drew (S := fun W => Below (w.heap.size + 2) W0 W) (by kernel_rfl) (Below.refl _ _).drew (fun hH0 => ?_)
    refine take_val' (i := 0) (v := (.pointer (some ⟨w.heap.size, 0, none⟩))) rfl (by kernel_rfl) (by kernel_rfl) (by kernel_rfl) (some 10) rfl (fun _ _ _ h => h) (Or.inl ⟨by rfl, fun W hW => by go_simp⟩) hH0 ?_
    try simp only [Act.put, List.setIfInBounds_toArray, List.set_cons_zero, List.set_cons_succ]
    refine take_val' (i := 1) (v := (.bool na)) rfl (by kernel_rfl) (by kernel_rfl) (by kernel_rfl) (some 11) rfl (fun _ _ _ h => h) (Or.inl ⟨by rfl, fun W hW => by obtain ⟨k0, k1, k2, k3, k4, k5⟩ := HBX.out.cells W hW; go_simp⟩) hH0 ?_
    try simp only [Act.put, List.setIfInBounds_toArray, List.set_cons_zero, List.set_cons_succ]
    refine take_val' (i := 2) (v := (.pointer (some ⟨w.heap.size, 1, none⟩))) rfl (by kernel_rfl) (by kernel_rfl) (by kernel_rfl) (some 12) rfl (fun _ _ _ h => h) (Or.inl ⟨by rfl, fun W hW => by go_simp⟩) hH0 ?_
    try simp only [Act.put, List.setIfInBounds_toArray, List.set_cons_zero, List.set_cons_succ]
    refine take_val' (i := 3) (v := (.slice ao n ac)) rfl (by kernel_rfl) (by kernel_rfl) (by kernel_rfl) (some 13) rfl (fun _ _ _ h => h) (Or.inl ⟨by rfl, fun W hW => by obtain ⟨k0, k1, k2, k3, k4, k5⟩ := HBX.out.cells W hW; go_simp⟩) hH0 ?_
    try simp only [Act.put, List.setIfInBounds_toArray, List.set_cons_zero, List.set_cons_succ]
    refine take_val' (i := 4) (v := (.pointer (some ⟨w.heap.size + 1, 1, none⟩))) rfl (by kernel_rfl) (by kernel_rfl) (by kernel_rfl) (some 14) rfl (fun _ _ _ h => h) (Or.inl ⟨by rfl, fun W hW => by go_simp⟩) hH0 ?_
    try simp only [Act.put, List.setIfInBounds_toArray, List.set_cons_zero, List.set_cons_succ]
    refine take_val' (i := 5) (v := (.slice bo n2 bc)) rfl (by kernel_rfl) (by kernel_rfl) (by kernel_rfl) (some 15) rfl (fun _ _ _ h => h) (Or.inl ⟨by rfl, fun W hW => by obtain ⟨k0, k1, k2, k3, k4, k5⟩ := HBX.out.cells W hW; go_simp⟩) hH0 ?_
    try simp only [Act.put, List.setIfInBounds_toArray, List.set_cons_zero, List.set_cons_succ]
    refine wpAnyH_ready (rs := [6]) (by kernel_rfl) (by simp) ?_
    refine AllReadyH.cons rfl (fun K hK => ?_) AllReadyH.nil
    go_simp
    refine (HP.out _ (HSA0.out.below (Below.refl _ _).drew) (HSB0.out.below (Below.refl _ _).drew)).mono ?_
    rintro e w1 ⟨g1, T, hl1, rfl, hg1, hrow1, hd1, hv1, hb1⟩
    have hb0 : Below (w.heap.size + 3) W0.drew w1 := hb1.mono HBX.out.size
    have hB1 := hidden (show Below (w.heap.size + 2) W0 w1 from ((Below.refl _ _).drew).trans (hb0.mono (by omega)))
    have hr1 := hidden ((show Blk W0.drew (w.heap.size + 2) _ _ from HBX.out.r).below hb0 (show w.heap.size + 2 < w.heap.size + 3 by omega))
    have hz1 : w.heap.size + 3 ≤ w1.heap.size := Nat.le_trans HBX.out.size hb1.size
    have HR1 := hidden hrow1
    have HL1 := hidden hl1
    have HD1 := hidden hd1
    have HV1 := hidden hv1
    clear hrow1 hl1 hd1 hv1 hb1 hg1 hb0
    refine hK.out _ _ (hB1.out) (fun hH1 => ?_)
    clear hK K
    try simp only [Act.put, List.setIfInBounds_toArray, List.set_cons_zero, List.set_cons_succ]
    refine wpAnyH_ready (rs := [7]) (by kernel_rfl) (by simp) ?_
    refine AllReadyH.cons rfl (fun K hK => ?_) AllReadyH.nil
    go_simp
    refine (made_any na (some ⟨g1, 0, none⟩) (mx + 1) (mx + 1) T w1 HL1.out (by omega) (Nat.le_refl _) HR1.out.src HD1.out).mono ?_
    rintro e w2 ⟨v, rfl, ⟨n3, a3, c3, l3, rfl, q1, q2, q3, q4, q5, q6, q7⟩, hb2⟩
    have hB2 := hidden (show Below (w.heap.size + 2) W0 w2 from hB1.out.trans (hb2.mono (by omega)))
    have hN := hidden (show NumAt w2 (.agg #[.bool n3, .slice a3 l3.length c3]) (sgnv na (val T)) (mx + 1) from ⟨n3, a3, c3, l3, rfl, q1, q2, q3, q4, q5, q6, q7⟩)
    have hr2 := (show Blk w2 (w.heap.size + 1 + 1) _ _ from hr1.out.below hb2 (show w.heap.size + 2 < w1.heap.size by omega))
    obtain ⟨f0, f1, f2, f3⟩ := hr2.facts
    clear q1 q2 q3 q4 q5 q6 q7 hb2
    refine hK.out _ _ (hB2.out) (fun hH2 => ?_)
    clear hK K
    try simp only [Act.put, List.setIfInBounds_toArray, List.set_cons_zero, List.set_cons_succ]
    refine wpAnyH_ready (rs := [8]) (by kernel_rfl) (by simp) ?_
    refine AllReadyH.cons rfl (fun K hK => ?_) AllReadyH.nil
    go_simp
    refine hK.out _ _ ((hB2.out.setCell (show w.heap.size + 2 ≤ w.heap.size + 1 + 1 by omega) _).setCell (show w.heap.size + 2 ≤ w.heap.size + 1 + 1 by omega) _) (fun hH3 => ?_)
    clear hK K
    try simp only [Act.put, List.setIfInBounds_toArray, List.set_cons_zero, List.set_cons_succ]
    refine wpAnyH_done (by kernel_rfl) ?_ _
    have hst := (Blk.set hr2 (.bool n3) (.slice a3 l3.length c3)).facts
    obtain ⟨g1, g2⟩ := numAt_stored (w := w) (HBX.out.below.trans (hB2.out.mono (by omega))) (by omega) hr2 hN.out
    have HG1 := hidden g1
    have HG2 := hidden g2
    have HST := hidden hst
    clear hst g1 g2 hr2 hN
    go_wp2
    refine bodyPost_ret (v := .agg #[.bool n3, .slice a3 l3.length c3]) (by simp [results, Tryd.results19, go_sem, HST.out.1, HST.out.2.1]) rfl ⟨_, rfl, ?_, HG2.out⟩
    rw [← sgnv_add, ← HV1.out]
    exact HG1.out.mono (by omega)
  · have hsb2 : (na == nb) = false := beq_eq_false_iff_ne.2 hs
    have HNE := hidden hs
    have hc := fun W (h1 : SrcN W ao la) (h2 : SrcN W bo lb) => compare_any ao bo ac bc la lb W (by omega) h1 h2 hda hdb hta htb
    by_cases hlt : val la < val lb
    · have hp := fun W (h1 : SrcN W ao la) (h2 : SrcN W bo lb) => difference_any bo ao bc ac lb la W (by omega) h2 h1 hdb hda (by
        by_cases h : la.length ≤ lb.length
        · exact h
        · have := cmp_len hdb hta (by omega); omega) (by omega)
      rw [sg_lt hlt] at hc
      obtain ⟨n, hn⟩ : ∃ n, la.length = n := ⟨_, rfl⟩
      obtain ⟨n2, hn2⟩ : ∃ n, lb.length = n := ⟨_, rfl⟩
      rw [hn] at hbx hp hc hla hac ⊢
      rw [hn2] at hbx hp hc hlb hbc ⊢
      have HP := hidden hp
      have HC := hidden hc
      have HLT := hidden hlt
      clear hsa hsb hda hdb hta htb hpa hpb hn hn2 hp hc hlt hs
      obtain ⟨mk, hmk2⟩ : ∃ mx, max k m = mx := ⟨_, rfl⟩
      have hmkl : mk < 100000000 := by omega
      have hmx : n2 ≤ mk := by omega
      rw [hmk2]
      clear hmk2
      go_enter Tryd.func19, Tryd.ntmps19
      go_wp2_with fail
      have HBX0 := hidden hbx
      clear hbx
      generalize ((w.alloc (.cells #[.bool na, .slice ao n ac] 25)).alloc (.cells #[.bool nb, .slice bo n2 bc] 25)).alloc (.cells #[.bool false, .slice none 0 0] 25) = W1 at HBX0 ⊢
      refine (HC.out _ (HSA.out.below HBX0.out.below) (HSB.out.below HBX0.out.below)).mono ?_
      rintro e W2 ⟨rfl, hb2⟩
      have HBX2 := hidden (HBX0.out.more hb2)
      have hsw := HBX2.out.swap
      obtain ⟨k0, k1, k2, k3, _, _⟩ := HBX2.out.cells W2 (Below.refl _ _)
      obtain ⟨_, _, fa0, fa1⟩ := HBX2.out.a.facts
      obtain ⟨_, _, fb0, fb1⟩ := HBX2.out.b.facts
      have HSW := hidden hsw
      have HSA2 := hidden (HSA.out.below HBX2.out.below)
      have HSB2 := hidden (HSB.out.below HBX2.out.below)
      clear hsw hb2
      go_wp2_with fail
      have HBX := HSW
      have HSA0 := hidden (HSA.out.below HSW.out.below)
      have HSB0 := hidden (HSB.out.below HSW.out.below)
      clear HSW HBX2 HSA2 HSB2 k0 k1 k2 k3 fa0 fa1 fb0 fb1
      generalize ((((W2.setCell ⟨w.heap.size, 0, none⟩ (.bool nb)).setCell ⟨w.heap.size, 1, none⟩ (.slice bo n2 bc)).setCell ⟨w.heap.size + 1, 0, none⟩ (.bool na)).setCell ⟨w.heap.size + 1, 1, none⟩ (.slice ao n ac)) = W0 at HBX HSA0 HSB0 ⊢
      refine wp_region_held_drew (S := fun W => Below (w.heap.size + 2) W0 W) (by kernel_rfl) (Below.refl _ _).drew (fun hH0 => ?_)
      refine take_val' (i := 0) (v := (.pointer (some ⟨w.heap.size, 0, none⟩))) rfl (by kernel_rfl) (by kernel_rfl) (by kernel_rfl) (some 26) rfl (fun _ _ _ h => h) (Or.inl ⟨by rfl, fun W hW => by go_simp⟩) hH0 ?_
      try simp only [Act.put, List.setIfInBounds_toArray, List.set_cons_zero, List.set_cons_succ]
      refine take_val' (i := 1) (v := (.bool nb)) rfl (by kernel_rfl) (by kernel_rfl) (by kernel_rfl) (some 27) rfl (fun _ _ _ h => h) (Or.inl ⟨by rfl, fun W hW => by obtain ⟨k0, k1, k2, k3, k4, k5⟩ := HBX.out.cells W hW; go_simp⟩) hH0 ?_
      try simp only [Act.put, List.setIfInBounds_toArray, List.set_cons_zero, List.set_cons_succ]
      refine take_val' (i := 2) (v := (.pointer (some ⟨w.heap.size, 1, none⟩))) rfl (by kernel_rfl) (by kernel_rfl) (by kernel_rfl) (some 28) rfl (fun _ _ _ h => h) (Or.inl ⟨by rfl, fun W hW => by go_simp⟩) hH0 ?_
      try simp only [Act.put, List.setIfInBounds_toArray, List.set_cons_zero, List.set_cons_succ]
      refine take_val' (i := 3) (v := (.slice bo n2 bc)) rfl (by kernel_rfl) (by kernel_rfl) (by kernel_rfl) (some 29) rfl (fun _ _ _ h => h) (Or.inl ⟨by rfl, fun W hW => by obtain ⟨k0, k1, k2, k3, k4, k5⟩ := HBX.out.cells W hW; go_simp⟩) hH0 ?_
      try simp only [Act.put, List.setIfInBounds_toArray, List.set_cons_zero, List.set_cons_succ]
      refine take_val' (i := 4) (v := (.pointer (some ⟨w.heap.size + 1, 1, none⟩))) rfl (by kernel_rfl) (by kernel_rfl) (by kernel_rfl) (some 30) rfl (fun _ _ _ h => h) (Or.inl ⟨by rfl, fun W hW => by go_simp⟩) hH0 ?_
      try simp only [Act.put, List.setIfInBounds_toArray, List.set_cons_zero, List.set_cons_succ]
      refine take_val' (i := 5) (v := (.slice ao n ac)) rfl (by kernel_rfl) (by kernel_rfl) (by kernel_rfl) (some 31) rfl (fun _ _ _ h => h) (Or.inl ⟨by rfl, fun W hW => by obtain ⟨k0, k1, k2, k3, k4, k5⟩ := HBX.out.cells W hW; go_simp⟩) hH0 ?_
      try simp only [Act.put, List.setIfInBounds_toArray, List.set_cons_zero, List.set_cons_succ]
      refine wpAnyH_ready (rs := [6]) (by kernel_rfl) (by simp) ?_
      refine AllReadyH.cons rfl (fun K hK => ?_) AllReadyH.nil
      go_simp
      refine (HP.out _ (HSA0.out.below (Below.refl _ _).drew) (HSB0.out.below (Below.refl _ _).drew)).mono ?_
      rintro e w1 ⟨g1, T, hl1, rfl, hg1, hrow1, hd1, hv1, hb1⟩
      have hb0 : Below (w.heap.size + 3) W0.drew w1 := hb1.mono HBX.out.size
      have hB1 := hidden (show Below (w.heap.size + 2) W0 w1 from ((Below.refl _ _).drew).trans (hb0.mono (by omega)))
      have hr1 := hidden ((show Blk W0.drew (w.heap.size + 2) _ _ from HBX.out.r).below hb0 (show w.heap.size + 2 < w.heap.size + 3 by omega))
      have hz1 : w.heap.size + 3 ≤ w1.heap.size := Nat.le_trans HBX.out.size hb1.size
      have HR1 := hidden hrow1
      have HL1 := hidden hl1
      have HD1 := hidden hd1
      have HV1 := hidden hv1
      clear hrow1 hl1 hd1 hv1 hb1 hg1 hb0
      refine hK.out _ _ (hB1.out) (fun hH1 => ?_)
      clear hK K
      try simp only [Act.put, List.setIfInBounds_toArray, List.set_cons_zero, List.set_cons_succ]
      refine wpAnyH_ready (rs := [7]) (by kernel_rfl) (by simp) ?_
      refine AllReadyH.cons rfl (fun K hK => ?_) AllReadyH.nil
      go_simp
      refine (made_any nb (some ⟨g1, 0, none⟩) (n2) (n2) T w1 HL1.out (by omega) (Nat.le_refl _) HR1.out.src HD1.out).mono ?_
      rintro e w2 ⟨v, rfl, ⟨n3, a3, c3, l3, rfl, q1, q2, q3, q4, q5, q6, q7⟩, hb2⟩
      have hB2 := hidden (show Below (w.heap.size + 2) W0 w2 from hB1.out.trans (hb2.mono (by omega)))
      have hN := hidden (show NumAt w2 (.agg #[.bool n3, .slice a3 l3.length c3]) (sgnv nb (val T)) (n2) from ⟨n3, a3, c3, l3, rfl, q1, q2, q3, q4, q5, q6, q7⟩)
      have hr2 := (show Blk w2 (w.heap.size + 1 + 1) _ _ from hr1.out.below hb2 (show w.heap.size + 2 < w1.heap.size by omega))
      obtain ⟨f0, f1, f2, f3⟩ := hr2.facts
      clear q1 q2 q3 q4 q5 q6 q7 hb2
      refine hK.out _ _ (hB2.out) (fun hH2 => ?_)
      clear hK K
      try simp only [Act.put, List.setIfInBounds_toArray, List.set_cons_zero, List.set_cons_succ]
      refine wpAnyH_ready (rs := [8]) (by kernel_rfl) (by simp) ?_
      refine AllReadyH.cons rfl (fun K hK => ?_) AllReadyH.nil
      go_simp
      refine hK.out _ _ ((hB2.out.setCell (show w.heap.size + 2 ≤ w.heap.size + 1 + 1 by omega) _).setCell (show w.heap.size + 2 ≤ w.heap.size + 1 + 1 by omega) _) (fun hH3 => ?_)
      clear hK K
      try simp only [Act.put, List.setIfInBounds_toArray, List.set_cons_zero, List.set_cons_succ]
      refine wpAnyH_done (by kernel_rfl) ?_ _
      have hst := (Blk.set hr2 (.bool n3) (.slice a3 l3.length c3)).facts
      obtain ⟨g1, g2⟩ := numAt_stored (w := w) (HBX.out.below.trans (hB2.out.mono (by omega))) (by omega) hr2 hN.out
      have HG1 := hidden g1
      have HG2 := hidden g2
      have HST := hidden hst
      clear hst g1 g2 hr2 hN
      go_wp2
      refine bodyPost_ret (v := .agg #[.bool n3, .slice a3 l3.length c3]) (by simp [results, Tryd.results19, go_sem, HST.out.1, HST.out.2.1]) rfl ⟨_, rfl, ?_, HG2.out⟩
      rw [Int.add_comm, ← sgnv_sub nb na (fun h => HNE.out h.symm) _ _ (Nat.le_of_lt HLT.out), ← HV1.out]
      exact HG1.out.mono (by omega)
    · have hp := fun W (h1 : SrcN W ao la) (h2 : SrcN W bo lb) => difference_any ao bo ac bc la lb W (by omega) h1 h2 hda hdb (by
        by_cases h : lb.length ≤ la.length
        · exact h
        · have := cmp_len hda htb (by omega); omega) (by omega)
      have hcz : Hid (sg (val la) (val lb) = 0 ∨ sg (val la) (val lb) = 1) := hidden (by
        by_cases h : val lb < val la
        · exact .inr (sg_gt h)
        · exact .inl (sg_eq (by omega)))
      obtain ⟨z, hz⟩ : ∃ z, sg (val la) (val lb) = z := ⟨_, rfl⟩
      rw [hz] at hcz hc
      have hz0 : 0 ≤ z := by rcases hcz.out with h | h <;> omega
      obtain ⟨n, hn⟩ : ∃ n, la.length = n := ⟨_, rfl⟩
      obtain ⟨n2, hn2⟩ : ∃ n, lb.length = n := ⟨_, rfl⟩
      rw [hn] at hbx hp hc hla hac ⊢
      rw [hn2] at hbx hp hc hlb hbc ⊢
      have HP := hidden hp
      have HC := hidden hc
      have HLT := hidden hlt
      clear hsa hsb hda hdb hta htb hpa hpb hn hn2 hp hc hlt hs hz
      obtain ⟨mk, hmk2⟩ : ∃ mx, max k m = mx := ⟨_, rfl⟩
      have hmkl : mk < 100000000 := by omega
      have hmx : n ≤ mk := by omega
      rw [hmk2]
      clear hmk2
      go_enter Tryd.func19, Tryd.ntmps19
      go_wp2_with fail
      have HBX0 := hidden hbx
      clear hbx
      generalize ((w.alloc (.cells #[.bool na, .slice ao n ac] 25)).alloc (.cells #[.bool nb, .slice bo n2 bc] 25)).alloc (.cells #[.bool false, .slice none 0 0] 25) = W1 at HBX0 ⊢
      refine (HC.out _ (HSA.out.below HBX0.out.below) (HSB.out.below HBX0.out.below)).mono ?_
      rintro e W0 ⟨rfl, hb2⟩
      have HBX := hidden (HBX0.out.more hb2)
      have HSA0 := hidden (HSA.out.below HBX.out.below)
      have HSB0 := hidden (HSB.out.below HBX.out.below)
      clear hb2
      go_wp2_with fail
      refine wp_region_held_drew (S := fun W => Below (w.heap.size + 2) W0 W) (by kernel_rfl) (Below.refl _ _).drew (fun hH0 => ?_)
      refine take_val' (i := 0) (v := (.pointer (some ⟨w.heap.size, 0, none⟩))) rfl (by kernel_rfl) (by kernel_rfl) (by kernel_rfl) (some 26) rfl (fun _ _ _ h => h) (Or.inl ⟨by rfl, fun W hW => by go_simp⟩) hH0 ?_
      try simp only [Act.put, List.setIfInBounds_toArray, List.set_cons_zero, List.set_cons_succ]
      refine take_val' (i := 1) (v := (.bool na)) rfl (by kernel_rfl) (by kernel_rfl) (by kernel_rfl) (some 27) rfl (fun _ _ _ h => h) (Or.inl ⟨by rfl, fun W hW => by obtain ⟨k0, k1, k2, k3, k4, k5⟩ := HBX.out.cells W hW; go_simp⟩) hH0 ?_
      try simp only [Act.put, List.setIfInBounds_toArray, List.set_cons_zero, List.set_cons_succ]
      refine take_val' (i := 2) (v := (.pointer (some ⟨w.heap.size, 1, none⟩))) rfl (by kernel_rfl) (by kernel_rfl) (by kernel_rfl) (some 28) rfl (fun _ _ _ h => h) (Or.inl ⟨by rfl, fun W hW => by go_simp⟩) hH0 ?_
      try simp only [Act.put, List.setIfInBounds_toArray, List.set_cons_zero, List.set_cons_succ]
      refine take_val' (i := 3) (v := (.slice ao n ac)) rfl (by kernel_rfl) (by kernel_rfl) (by kernel_rfl) (some 29) rfl (fun _ _ _ h => h) (Or.inl ⟨by rfl, fun W hW => by obtain ⟨k0, k1, k2, k3, k4, k5⟩ := HBX.out.cells W hW; go_simp⟩) hH0 ?_
      try simp only [Act.put, List.setIfInBounds_toArray, List.set_cons_zero, List.set_cons_succ]
      refine take_val' (i := 4) (v := (.pointer (some ⟨w.heap.size + 1, 1, none⟩))) rfl (by kernel_rfl) (by kernel_rfl) (by kernel_rfl) (some 30) rfl (fun _ _ _ h => h) (Or.inl ⟨by rfl, fun W hW => by go_simp⟩) hH0 ?_
      try simp only [Act.put, List.setIfInBounds_toArray, List.set_cons_zero, List.set_cons_succ]
      refine take_val' (i := 5) (v := (.slice bo n2 bc)) rfl (by kernel_rfl) (by kernel_rfl) (by kernel_rfl) (some 31) rfl (fun _ _ _ h => h) (Or.inl ⟨by rfl, fun W hW => by obtain ⟨k0, k1, k2, k3, k4, k5⟩ := HBX.out.cells W hW; go_simp⟩) hH0 ?_
      try simp only [Act.put, List.setIfInBounds_toArray, List.set_cons_zero, List.set_cons_succ]
      refine wpAnyH_ready (rs := [6]) (by kernel_rfl) (by simp) ?_
      refine AllReadyH.cons rfl (fun K hK => ?_) AllReadyH.nil
      go_simp
      refine (HP.out _ (HSA0.out.below (Below.refl _ _).drew) (HSB0.out.below (Below.refl _ _).drew)).mono ?_
      rintro e w1 ⟨g1, T, hl1, rfl, hg1, hrow1, hd1, hv1, hb1⟩
      have hb0 : Below (w.heap.size + 3) W0.drew w1 := hb1.mono HBX.out.size
      have hB1 := hidden (show Below (w.heap.size + 2) W0 w1 from ((Below.refl _ _).drew).trans (hb0.mono (by omega)))
      have hr1 := hidden ((show Blk W0.drew (w.heap.size + 2) _ _ from HBX.out.r).below hb0 (show w.heap.size + 2 < w.heap.size + 3 by omega))
      have hz1 : w.heap.size + 3 ≤ w1.heap.size := Nat.le_trans HBX.out.size hb1.size
      have HR1 := hidden hrow1
      have HL1 := hidden hl1
      have HD1 := hidden hd1
      have HV1 := hidden hv1
      clear hrow1 hl1 hd1 hv1 hb1 hg1 hb0
      refine hK.out _ _ (hB1.out) (fun hH1 => ?_)
      clear hK K
      try simp only [Act.put, List.setIfInBounds_toArray, List.set_cons_zero, List.set_cons_succ]
      refine wpAnyH_ready (rs := [7]) (by kernel_rfl) (by simp) ?_
      refine AllReadyH.cons rfl (fun K hK => ?_) AllReadyH.nil
      go_simp
      refine (made_any na (some ⟨g1, 0, none⟩) (n) (n) T w1 HL1.out (by omega) (Nat.le_refl _) HR1.out.src HD1.out).mono ?_
      rintro e w2 ⟨v, rfl, ⟨n3, a3, c3, l3, rfl, q1, q2, q3, q4, q5, q6, q7⟩, hb2⟩
      have hB2 := hidden (show Below (w.heap.size + 2) W0 w2 from hB1.out.trans (hb2.mono (by omega)))
      have hN := hidden (show NumAt w2 (.agg #[.bool n3, .slice a3 l3.length c3]) (sgnv na (val T)) (n) from ⟨n3, a3, c3, l3, rfl, q1, q2, q3, q4, q5, q6, q7⟩)
      have hr2 := (show Blk w2 (w.heap.size + 1 + 1) _ _ from hr1.out.below hb2 (show w.heap.size + 2 < w1.heap.size by omega))
      obtain ⟨f0, f1, f2, f3⟩ := hr2.facts
      clear q1 q2 q3 q4 q5 q6 q7 hb2
      refine hK.out _ _ (hB2.out) (fun hH2 => ?_)
      clear hK K
      try simp only [Act.put, List.setIfInBounds_toArray, List.set_cons_zero, List.set_cons_succ]
      refine wpAnyH_ready (rs := [8]) (by kernel_rfl) (by simp) ?_
      refine AllReadyH.cons rfl (fun K hK => ?_) AllReadyH.nil
      go_simp
      refine hK.out _ _ ((hB2.out.setCell (show w.heap.size + 2 ≤ w.heap.size + 1 + 1 by omega) _).setCell (show w.heap.size + 2 ≤ w.heap.size + 1 + 1 by omega) _) (fun hH3 => ?_)
      clear hK K
      try simp only [Act.put, List.setIfInBounds_toArray, List.set_cons_zero, List.set_cons_succ]
      refine wpAnyH_done (by kernel_rfl) ?_ _
      have hst := (Blk.set hr2 (.bool n3) (.slice a3 l3.length c3)).facts
      obtain ⟨g1, g2⟩ := numAt_stored (w := w) (HBX.out.below.trans (hB2.out.mono (by omega))) (by omega) hr2 hN.out
      have HG1 := hidden g1
      have HG2 := hidden g2
      have HST := hidden hst
      clear hst g1 g2 hr2 hN
      go_wp2
      refine bodyPost_ret (v := .agg #[.bool n3, .slice a3 l3.length c3]) (by simp [results, Tryd.results19, go_sem, HST.out.1, HST.out.2.1]) rfl ⟨_, rfl, ?_, HG2.out⟩
      rw [← sgnv_sub na nb HNE.out _ _ (by have := HLT.out; omega), ← HV1.out]
      exact HG1.out.mono (by omega)
end Nm
end Go.Proofs.YtapdkibiegeijaaDoor
