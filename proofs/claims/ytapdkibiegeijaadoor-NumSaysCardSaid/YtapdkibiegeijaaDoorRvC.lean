/- The document's Negate, Add, Sub, Cmp. Conditions: as each states. -/
import Derived.Test.YtapdkibiegeijaaDoorRvB
import Derived.Test.YtapdkibiegeijaaDoorTake
namespace Go.Proofs.YtapdkibiegeijaaDoor
open Go.RowKit
namespace Rv

/-- Two Nums in boxes and a place for the result. -/
structure Boxes (w W : World) (c0 c1 d0 d1 : Value) : Prop where
  a : Blk W w.heap.size c0 c1
  b : Blk W (w.heap.size + 1) d0 d1
  r : Blk W (w.heap.size + 2) (.bool false) (.slice none 0 0)
  size : w.heap.size + 3 ≤ W.heap.size
  below : Below w.heap.size w W
theorem boxes_new (w : World) (c0 c1 d0 d1 : Value) : Boxes w (((w.alloc (.cells #[c0, c1] 28)).alloc (.cells #[d0, d1] 28)).alloc (.cells #[.bool false, .slice none 0 0] 28)) c0 c1 d0 d1 where
  a := ((blk_new w c0 c1).below ((Below.refl _ _).alloc (Nat.le_refl _) _) (by simp)).below ((Below.refl _ _).alloc (Nat.le_refl _) _) (by simp; omega)
  b := by
    have := (blk_new (w.alloc (.cells #[c0, c1] 28)) d0 d1).below ((Below.refl _ _).alloc (Nat.le_refl _) (.cells #[.bool false, .slice none 0 0] 28)) (by simp)
    rwa [World.size_alloc] at this
  r := by
    have := blk_new ((w.alloc (.cells #[c0, c1] 28)).alloc (.cells #[d0, d1] 28)) (.bool false) (.slice none 0 0)
    rwa [World.size_alloc, World.size_alloc] at this
  size := by simp
  below := (((Below.refl _ _).alloc (Nat.le_refl _) _).alloc (by simp) _).alloc (by simp; omega) _
theorem Boxes.more {w W W' : World} {c0 c1 d0 d1 : Value} (h : Boxes w W c0 c1 d0 d1) (hb : Below W.heap.size W W') : Boxes w W' c0 c1 d0 d1 where
  a := h.a.below hb (by have := h.size; omega)
  b := h.b.below hb (by have := h.size; omega)
  r := h.r.below hb (by have := h.size; omega)
  size := Nat.le_trans h.size hb.size
  below := h.below.trans (hb.mono (by have := h.size; omega))
/-- The cells of the two, as long as they stay. -/
theorem Boxes.cells {w W : World} {c0 c1 d0 d1 : Value} (h : Boxes w W c0 c1 d0 d1) (W' : World) (hb : Below (w.heap.size + 2) W W') : W'.cell? ⟨w.heap.size, 0, none⟩ = some c0 ∧ W'.cell? ⟨w.heap.size, 1, none⟩ = some c1 ∧
    W'.cell? ⟨w.heap.size + 1, 0, none⟩ = some d0 ∧ W'.cell? ⟨w.heap.size + 1, 1, none⟩ = some d1 ∧ True ∧ True :=
  ⟨(h.a.below hb (by omega)).facts.1, (h.a.below hb (by omega)).facts.2.1, (h.b.below hb (by omega)).facts.1, (h.b.below hb (by omega)).facts.2.1, trivial, trivial⟩
/-- The two exchanged. -/
theorem Boxes.swap {w W : World} {c0 c1 d0 d1 : Value} (h : Boxes w W c0 c1 d0 d1) :
    Boxes w ((((W.setCell ⟨w.heap.size, 0, none⟩ d0).setCell ⟨w.heap.size, 1, none⟩ d1).setCell ⟨w.heap.size + 1, 0, none⟩ c0).setCell ⟨w.heap.size + 1, 1, none⟩ c1) d0 d1 c0 c1 where
  a := (heap_setCell_other _ _ _ _ (by simp)).trans ((heap_setCell_other _ _ _ _ (by simp)).trans (h.a.set d0 d1))
  b := by
    have e : Blk ((W.setCell ⟨w.heap.size, 0, none⟩ d0).setCell ⟨w.heap.size, 1, none⟩ d1) (w.heap.size + 1) d0 d1 := (heap_setCell_other _ _ _ _ (by simp)).trans ((heap_setCell_other _ _ _ _ (by simp)).trans h.b)
    exact e.set c0 c1
  r := (heap_setCell_other _ _ _ _ (by simp)).trans ((heap_setCell_other _ _ _ _ (by simp)).trans ((heap_setCell_other _ _ _ _ (by simp)).trans ((heap_setCell_other _ _ _ _ (by simp)).trans h.r)))
  size := by simp only [World.size_setCell]; exact h.size
  below := (((h.below.setCell (Nat.le_refl _) _).setCell (Nat.le_refl _) _).setCell (by simp) _).setCell (by simp) _
theorem sgnv_mul (a b : Bool) (m n : Nat) : sgnv (!(a == b)) (m * n) = sgnv a m * sgnv b n := by
  cases a <;> cases b <;> simp [sgnv, Int.neg_mul, Int.mul_neg]
theorem sgnv_add (a : Bool) (m n : Nat) : sgnv a (m + n) = sgnv a m + sgnv a n := by
  cases a <;> simp [sgnv] <;> omega
theorem sgnv_sub (a b : Bool) (hab : a ≠ b) (m n : Nat) (h : n ≤ m) : sgnv a (m - n) = sgnv a m + sgnv b n := by
  cases a <;> cases b <;> simp_all [sgnv] <;> omega
set_option maxHeartbeats 1600000 in
theorem neg_any (v : Value) (x : Int) (k : Nat) (w : World) (h : NumAt w v x k) (hk : k < 100000000) :
    Calls Tryd.prog 26 #[v] w fun e w' => IsNum w w' e (-x) k := by
  obtain ⟨neg, ao, cap, l, rfl, hc, hs, hd, ht, hl, hp, rfl⟩ := h
  obtain ⟨n, hn⟩ : ∃ n, l.length = n := ⟨_, rfl⟩
  have hm := fun W (h : SrcN W ao l) => trim_any (!neg) ao n cap l W hn (by omega) (by omega) h hd
  rw [hn] at hc hl ⊢
  have HM := hidden hm
  have HS := hidden hs
  have hba := fun (cs ds : Array Value) (t : TypeId) => ((Below.refl w.heap.size w).alloc (Nat.le_refl _) (.cells cs t)).alloc (by simp) (.cells ds t)
  have HB := hidden hba
  clear hn hm hs hd ht hp hba
  go_enter Tryd.func26, Tryd.ntmps26
  go_wp2_with fail
  refine (HM.out _ (HS.out.below (HB.out _ _ _))).mono ?_
  rintro e w1 ⟨v, rfl, ⟨n1, a1, c1, l1, rfl, q1, q2, q3, q4, q5, q6, q7⟩, h2⟩
  have hres := (blk_new (w.alloc (.cells #[.bool neg, .slice ao n cap] 28)) (.bool false) (.slice none 0 0)).below h2 (by simp)
  rw [World.size_alloc] at hres
  obtain ⟨f0, f1, f2, f3⟩ := hres.facts
  have hst := (Blk.set hres (.bool n1) (.slice a1 l1.length c1)).facts
  obtain ⟨g1, g2⟩ := numAt_stored (z := -sgnv neg (val l)) (k := k) ((HB.out _ _ _).trans (h2.mono (by simp; omega))) (by omega) hres ⟨n1, a1, c1, l1, rfl, q1, q2, q3, q4, by omega, q6, by rw [← q7, sgnv_not]⟩
  have HG1 := hidden g1
  have HG2 := hidden g2
  have HST := hidden hst
  clear hst g1 g2 hres h2 q7
  go_wp2
  refine bodyPost_ret (v := .agg #[.bool n1, .slice a1 l1.length c1]) (by simp [results, Tryd.results26, go_sem, HST.out.1, HST.out.2.1]) rfl ⟨_, rfl, HG1.out, HG2.out⟩
set_option maxHeartbeats 3200000 in
theorem add_any (a b : Value) (x y : Int) (k m : Nat) (w : World) (ha : NumAt w a x k) (hb : NumAt w b y m) (hk : k < 5000000) (hm : m < 5000000) :
    Calls Tryd.prog 20 #[a, b] w fun e w' => IsNum w w' e (x + y) (max k m + 1) := by
  obtain ⟨na, ao, ac, la, rfl, hac, hsa, hda, hta, hla, hpa, rfl⟩ := ha
  obtain ⟨nb, bo, bc, lb, rfl, hbc, hsb, hdb, htb, hlb, hpb, rfl⟩ := hb
  have hbx := boxes_new w (.bool na) (.slice ao la.length ac) (.bool nb) (.slice bo lb.length bc)
  have HSA := hidden hsa
  have HSB := hidden hsb
  by_cases hs : na = nb
  · subst hs
    have hp := fun W (h1 : SrcN W ao la) (h2 : SrcN W bo lb) => sum_any ao bo ac bc la lb W (by omega) (by omega) h1 h2 hda hdb
    obtain ⟨n, hn⟩ : ∃ n, la.length = n := ⟨_, rfl⟩
    obtain ⟨n2, hn2⟩ : ∃ n, lb.length = n := ⟨_, rfl⟩
    rw [hn] at hbx hp hla hac ⊢
    rw [hn2] at hbx hp hlb hbc ⊢
    have HP := hidden hp
    clear hsa hsb hda hdb hta htb hpa hpb hn hn2 hp
    have hmx : max n n2 ≤ max k m := by omega
    obtain ⟨mx, hmx2⟩ : ∃ mx, max n n2 = mx := ⟨_, rfl⟩
    obtain ⟨mk, hmk2⟩ : ∃ mx, max k m = mx := ⟨_, rfl⟩
    have hmkl : mk < 5000000 := by omega
    rw [hmx2] at HP hmx
    rw [hmk2] at hmx ⊢
    clear hmx2 hmk2
    go_enter Tryd.func20, Tryd.ntmps20
    go_wp2_with fail
    have HBX := hidden hbx
    clear hbx
    generalize ((w.alloc (.cells #[.bool na, .slice ao n ac] 28)).alloc (.cells #[.bool na, .slice bo n2 bc] 28)).alloc (.cells #[.bool false, .slice none 0 0] 28) = W0 at HBX ⊢
    have HSA0 := hidden (HSA.out.below HBX.out.below)
    have HSB0 := hidden (HSB.out.below HBX.out.below)
    refine wp_region_held_drew (S := fun W => Below (w.heap.size + 2) W0 W) (by kernel_rfl) (Below.refl _ _).drew (fun hH0 => ?_)
    refine take_val' (i := 0) (v := (.pointer (some ⟨w.heap.size, 0, none⟩))) rfl (by kernel_rfl) (by kernel_rfl) (by kernel_rfl) (some 10) rfl (fun _ _ _ h => h) (Or.inl ⟨by rfl, fun W hW => by go_simp⟩) hH0 ?_
    try simp only [Act.put, List.setIfInBounds_toArray, List.set_cons_zero, List.set_cons_succ]
    refine take_val' (i := 1) (v := (.bool na)) rfl (by kernel_rfl) (by kernel_rfl) (by kernel_rfl) (some 11) rfl (fun _ _ _ h => h) (Or.inl ⟨by rfl, fun W hW => by obtain ⟨k0, k1, k2, k3, k4, k5⟩ := HBX.out.cells W hW; go_simp⟩) hH0 ?_
    try simp only [Act.put, List.setIfInBounds_toArray, List.set_cons_zero, List.set_cons_succ]
    refine take_val' (i := 2) (v := (.pointer (some ⟨w.heap.size, 1, none⟩))) rfl (by kernel_rfl) (by kernel_rfl) (by kernel_rfl) (some 12) rfl (fun _ _ _ h => h) (Or.inl ⟨by rfl, fun W hW => by go_simp⟩) hH0 ?_
    try simp only [Act.put, List.setIfInBounds_toArray, List.set_cons_zero, List.set_cons_succ]
    refine take_val' (i := 3) (v := (.slice ao n ac)) rfl (by kernel_rfl) (by kernel_rfl) (by kernel_rfl) (some 13) rfl (fun _ _ _ h => h) (Or.inl ⟨by rfl, fun W hW => by obtain ⟨k0, k1, k2, k3, k4, k5⟩ := HBX.out.cells W hW; go_simp⟩) hH0 ?_
    try simp only [Act.put, List.setIfInBounds_toArray, List.set_cons_zero, List.set_cons_succ]
    refine take_val' (i := 4) (v := (.pointer (some ⟨w.heap.size + 1, 1, none⟩))) rfl (by kernel_rfl) (by kernel_rfl) (by kernel_rfl) (some 14) rfl (fun _ _ _ h => h) (Or.inl ⟨by rfl, fun W hW => by go_simp⟩) hH0 ?_
    try simp only [Act.put, List.setIfInBounds_toArray, List.set_cons_zero, List.set_cons_succ]
    refine take_val' (i := 5) (v := (.slice bo n2 bc)) rfl (by kernel_rfl) (by kernel_rfl) (by kernel_rfl) (some 15) rfl (fun _ _ _ h => h) (Or.inl ⟨by rfl, fun W hW => by obtain ⟨k0, k1, k2, k3, k4, k5⟩ := HBX.out.cells W hW; go_simp⟩) hH0 ?_
    try simp only [Act.put, List.setIfInBounds_toArray, List.set_cons_zero, List.set_cons_succ]
    refine wpAnyH_ready (rs := [6]) (by kernel_rfl) (by simp) ?_
    refine AllReadyH.cons rfl (fun K hK => ?_) AllReadyH.nil
    go_simp
    refine (HP.out _ (HSA0.out.below (Below.refl _ _).drew) (HSB0.out.below (Below.refl _ _).drew)).mono ?_
    rintro e w1 ⟨g1, cp1, T, rfl, hcp1, hsr1, hd1, hl1, hv1, hb1⟩
    obtain ⟨t1, ht1⟩ : ∃ n, T.length = n := ⟨_, rfl⟩
    rw [ht1] at hcp1 hl1 ⊢
    have hb0 : Below (w.heap.size + 3) W0.drew w1 := hb1.mono HBX.out.size
    have hB1 := hidden (show Below (w.heap.size + 2) W0 w1 from ((Below.refl _ _).drew).trans (hb0.mono (by omega)))
    have hr1 := hidden ((show Blk W0.drew (w.heap.size + 2) _ _ from HBX.out.r).below hb0 (show w.heap.size + 2 < w.heap.size + 3 by omega))
    have hz1 : w.heap.size + 3 ≤ w1.heap.size := Nat.le_trans HBX.out.size hb1.size
    have HR1 := hidden hsr1
    have HL1 := hidden ht1
    have HD1 := hidden hd1
    have HV1 := hidden hv1
    clear hsr1 ht1 hd1 hv1 hb1 hb0
    refine hK.out _ _ (hB1.out) (fun hH1 => ?_)
    clear hK K
    try simp only [Act.put, List.setIfInBounds_toArray, List.set_cons_zero, List.set_cons_succ]
    refine wpAnyH_ready (rs := [7]) (by kernel_rfl) (by simp) ?_
    refine AllReadyH.cons rfl (fun K hK => ?_) AllReadyH.nil
    go_simp
    refine (trim_any na g1 t1 cp1 T w1 HL1.out (by omega) hcp1 HR1.out HD1.out).mono ?_
    rintro e w2 ⟨v, rfl, ⟨n3, a3, c3, l3, rfl, q1, q2, q3, q4, q5, q6, q7⟩, hb2⟩
    have hB2 := hidden (show Below (w.heap.size + 2) W0 w2 from hB1.out.trans (hb2.mono (by omega)))
    have hN := hidden (show NumAt w2 (.agg #[.bool n3, .slice a3 l3.length c3]) (sgnv na (val T)) t1 from ⟨n3, a3, c3, l3, rfl, q1, q2, q3, q4, q5, q6, q7⟩)
    have hr2 := (show Blk w2 (w.heap.size + 1 + 1) _ _ from hr1.out.below hb2 (show w.heap.size + 2 < w1.heap.size by omega))
    obtain ⟨f0, f1, f2, f3⟩ := hr2.facts
    clear q1 q2 q3 q4 q5 q6 q7 hb2
    refine hK.out _ _ (hB2.out) (fun hH2 => ?_)
    clear hK K
    try simp only [Act.put, List.setIfInBounds_toArray, List.set_cons_zero, List.set_cons_succ]
    refine wpAnyH_ready (rs := [8]) (by kernel_rfl) (by simp) ?_
    refine AllReadyH.cons rfl (fun K hK => ?_) AllReadyH.nil
    go_simp
    refine hK.out _ _ ((hB2.out.setCell (show w.heap.size + 2 ≤ w.heap.size + 1 + 1 by omega) _).setCell (show w.heap.size + 2 ≤ w.heap.size + 1 + 1 by omega) _) (fun hH3 => ?_)
    clear hK K
    try simp only [Act.put, List.setIfInBounds_toArray, List.set_cons_zero, List.set_cons_succ]
    refine wpAnyH_done (by kernel_rfl) ?_ _
    have hst := (Blk.set hr2 (.bool n3) (.slice a3 l3.length c3)).facts
    obtain ⟨g1, g2⟩ := numAt_stored (w := w) (HBX.out.below.trans (hB2.out.mono (by omega))) (by omega) hr2 hN.out
    have HG1 := hidden g1
    have HG2 := hidden g2
    have HST := hidden hst
    clear hst g1 g2 hr2 hN
    go_wp2
    refine bodyPost_ret (v := .agg #[.bool n3, .slice a3 l3.length c3]) (by simp [results, Tryd.results20, go_sem, HST.out.1, HST.out.2.1]) rfl ⟨_, rfl, ?_, HG2.out⟩
    rw [← sgnv_add, ← HV1.out]
    exact HG1.out.mono (by omega)
  · have hsb2 : (na == nb) = false := beq_eq_false_iff_ne.2 hs
    have HNE := hidden hs
    have hc := fun W (h1 : SrcN W ao la) (h2 : SrcN W bo lb) => size_any ao bo ac bc la lb W (by omega) h1 h2 hda hdb hta htb
    by_cases hlt : val la < val lb
    · have hp := fun W (h1 : SrcN W ao la) (h2 : SrcN W bo lb) => less_any bo ao bc ac lb la W (by omega) (by
        by_cases h : la.length ≤ lb.length
        · exact h
        · have := cmp_len hdb hta (by omega); omega) h2 h1 hdb hda (by omega)
      rw [sg_lt hlt] at hc
      obtain ⟨n, hn⟩ : ∃ n, la.length = n := ⟨_, rfl⟩
      obtain ⟨n2, hn2⟩ : ∃ n, lb.length = n := ⟨_, rfl⟩
      rw [hn] at hbx hp hc hla hac ⊢
      rw [hn2] at hbx hp hc hlb hbc ⊢
      have HP := hidden hp
      have HC := hidden hc
      have HLT := hidden hlt
      clear hsa hsb hda hdb hta htb hpa hpb hn hn2 hp hc hlt hs
      obtain ⟨mk, hmk2⟩ : ∃ mx, max k m = mx := ⟨_, rfl⟩
      have hmkl : mk < 5000000 := by omega
      have hmx : n2 ≤ mk := by omega
      rw [hmk2]
      clear hmk2
      go_enter Tryd.func20, Tryd.ntmps20
      go_wp2_with fail
      have HBX0 := hidden hbx
      clear hbx
      generalize ((w.alloc (.cells #[.bool na, .slice ao n ac] 28)).alloc (.cells #[.bool nb, .slice bo n2 bc] 28)).alloc (.cells #[.bool false, .slice none 0 0] 28) = W1 at HBX0 ⊢
      refine (HC.out _ (HSA.out.below HBX0.out.below) (HSB.out.below HBX0.out.below)).mono ?_
      rintro e W0 ⟨rfl, hb2⟩
      have HBX := hidden (HBX0.out.more hb2)
      have HSA0 := hidden (HSA.out.below HBX.out.below)
      have HSB0 := hidden (HSB.out.below HBX.out.below)
      clear hb2
      go_wp2_with fail
      refine wp_region_held_drew (S := fun W => Below (w.heap.size + 2) W0 W) (by kernel_rfl) (Below.refl _ _).drew (fun hH0 => ?_)
      refine take_val' (i := 0) (v := (.pointer (some ⟨w.heap.size + 1, 0, none⟩))) rfl (by kernel_rfl) (by kernel_rfl) (by kernel_rfl) (some 32) rfl (fun _ _ _ h => h) (Or.inl ⟨by rfl, fun W hW => by go_simp⟩) hH0 ?_
      try simp only [Act.put, List.setIfInBounds_toArray, List.set_cons_zero, List.set_cons_succ]
      refine take_val' (i := 1) (v := (.bool nb)) rfl (by kernel_rfl) (by kernel_rfl) (by kernel_rfl) (some 33) rfl (fun _ _ _ h => h) (Or.inl ⟨by rfl, fun W hW => by obtain ⟨k0, k1, k2, k3, k4, k5⟩ := HBX.out.cells W hW; go_simp⟩) hH0 ?_
      try simp only [Act.put, List.setIfInBounds_toArray, List.set_cons_zero, List.set_cons_succ]
      refine take_val' (i := 2) (v := (.pointer (some ⟨w.heap.size + 1, 1, none⟩))) rfl (by kernel_rfl) (by kernel_rfl) (by kernel_rfl) (some 34) rfl (fun _ _ _ h => h) (Or.inl ⟨by rfl, fun W hW => by go_simp⟩) hH0 ?_
      try simp only [Act.put, List.setIfInBounds_toArray, List.set_cons_zero, List.set_cons_succ]
      refine take_val' (i := 3) (v := (.slice bo n2 bc)) rfl (by kernel_rfl) (by kernel_rfl) (by kernel_rfl) (some 35) rfl (fun _ _ _ h => h) (Or.inl ⟨by rfl, fun W hW => by obtain ⟨k0, k1, k2, k3, k4, k5⟩ := HBX.out.cells W hW; go_simp⟩) hH0 ?_
      try simp only [Act.put, List.setIfInBounds_toArray, List.set_cons_zero, List.set_cons_succ]
      refine take_val' (i := 4) (v := (.pointer (some ⟨w.heap.size, 1, none⟩))) rfl (by kernel_rfl) (by kernel_rfl) (by kernel_rfl) (some 36) rfl (fun _ _ _ h => h) (Or.inl ⟨by rfl, fun W hW => by go_simp⟩) hH0 ?_
      try simp only [Act.put, List.setIfInBounds_toArray, List.set_cons_zero, List.set_cons_succ]
      refine take_val' (i := 5) (v := (.slice ao n ac)) rfl (by kernel_rfl) (by kernel_rfl) (by kernel_rfl) (some 37) rfl (fun _ _ _ h => h) (Or.inl ⟨by rfl, fun W hW => by obtain ⟨k0, k1, k2, k3, k4, k5⟩ := HBX.out.cells W hW; go_simp⟩) hH0 ?_
      try simp only [Act.put, List.setIfInBounds_toArray, List.set_cons_zero, List.set_cons_succ]
      refine wpAnyH_ready (rs := [6]) (by kernel_rfl) (by simp) ?_
      refine AllReadyH.cons rfl (fun K hK => ?_) AllReadyH.nil
      go_simp
      refine (HP.out _ (HSA0.out.below (Below.refl _ _).drew) (HSB0.out.below (Below.refl _ _).drew)).mono ?_
      rintro e w1 ⟨g1, cp1, T, rfl, hcp1, hsr1, hd1, hl1, hv1, hb1⟩
      obtain ⟨t1, ht1⟩ : ∃ n, T.length = n := ⟨_, rfl⟩
      rw [ht1] at hcp1 hl1 ⊢
      have hb0 : Below (w.heap.size + 3) W0.drew w1 := hb1.mono HBX.out.size
      have hB1 := hidden (show Below (w.heap.size + 2) W0 w1 from ((Below.refl _ _).drew).trans (hb0.mono (by omega)))
      have hr1 := hidden ((show Blk W0.drew (w.heap.size + 2) _ _ from HBX.out.r).below hb0 (show w.heap.size + 2 < w.heap.size + 3 by omega))
      have hz1 : w.heap.size + 3 ≤ w1.heap.size := Nat.le_trans HBX.out.size hb1.size
      have HR1 := hidden hsr1
      have HL1 := hidden ht1
      have HD1 := hidden hd1
      have HV1 := hidden hv1
      clear hsr1 ht1 hd1 hv1 hb1 hb0
      refine hK.out _ _ (hB1.out) (fun hH1 => ?_)
      clear hK K
      try simp only [Act.put, List.setIfInBounds_toArray, List.set_cons_zero, List.set_cons_succ]
      refine wpAnyH_ready (rs := [7]) (by kernel_rfl) (by simp) ?_
      refine AllReadyH.cons rfl (fun K hK => ?_) AllReadyH.nil
      go_simp
      refine (trim_any nb g1 t1 cp1 T w1 HL1.out (by omega) hcp1 HR1.out HD1.out).mono ?_
      rintro e w2 ⟨v, rfl, ⟨n3, a3, c3, l3, rfl, q1, q2, q3, q4, q5, q6, q7⟩, hb2⟩
      have hB2 := hidden (show Below (w.heap.size + 2) W0 w2 from hB1.out.trans (hb2.mono (by omega)))
      have hN := hidden (show NumAt w2 (.agg #[.bool n3, .slice a3 l3.length c3]) (sgnv nb (val T)) t1 from ⟨n3, a3, c3, l3, rfl, q1, q2, q3, q4, q5, q6, q7⟩)
      have hr2 := (show Blk w2 (w.heap.size + 1 + 1) _ _ from hr1.out.below hb2 (show w.heap.size + 2 < w1.heap.size by omega))
      obtain ⟨f0, f1, f2, f3⟩ := hr2.facts
      clear q1 q2 q3 q4 q5 q6 q7 hb2
      refine hK.out _ _ (hB2.out) (fun hH2 => ?_)
      clear hK K
      try simp only [Act.put, List.setIfInBounds_toArray, List.set_cons_zero, List.set_cons_succ]
      refine wpAnyH_ready (rs := [8]) (by kernel_rfl) (by simp) ?_
      refine AllReadyH.cons rfl (fun K hK => ?_) AllReadyH.nil
      go_simp
      refine hK.out _ _ ((hB2.out.setCell (show w.heap.size + 2 ≤ w.heap.size + 1 + 1 by omega) _).setCell (show w.heap.size + 2 ≤ w.heap.size + 1 + 1 by omega) _) (fun hH3 => ?_)
      clear hK K
      try simp only [Act.put, List.setIfInBounds_toArray, List.set_cons_zero, List.set_cons_succ]
      refine wpAnyH_done (by kernel_rfl) ?_ _
      have hst := (Blk.set hr2 (.bool n3) (.slice a3 l3.length c3)).facts
      obtain ⟨g1, g2⟩ := numAt_stored (w := w) (HBX.out.below.trans (hB2.out.mono (by omega))) (by omega) hr2 hN.out
      have HG1 := hidden g1
      have HG2 := hidden g2
      have HST := hidden hst
      clear hst g1 g2 hr2 hN
      go_wp2
      refine bodyPost_ret (v := .agg #[.bool n3, .slice a3 l3.length c3]) (by simp [results, Tryd.results20, go_sem, HST.out.1, HST.out.2.1]) rfl ⟨_, rfl, ?_, HG2.out⟩
      rw [Int.add_comm, ← sgnv_sub nb na (fun h => HNE.out h.symm) _ _ (Nat.le_of_lt HLT.out), ← HV1.out]
      exact HG1.out.mono (by omega)
    · have hp := fun W (h1 : SrcN W ao la) (h2 : SrcN W bo lb) => less_any ao bo ac bc la lb W (by omega) (by
        by_cases h : lb.length ≤ la.length
        · exact h
        · have := cmp_len hda htb (by omega); omega) h1 h2 hda hdb (by omega)
      have hcz : Hid (sg (val la) (val lb) = 0 ∨ sg (val la) (val lb) = 1) := hidden (by
        by_cases h : val lb < val la
        · exact .inr (sg_gt h)
        · exact .inl (sg_eq (by omega)))
      obtain ⟨z, hz⟩ : ∃ z, sg (val la) (val lb) = z := ⟨_, rfl⟩
      rw [hz] at hcz hc
      have hz0 : 0 ≤ z := by rcases hcz.out with h | h <;> omega
      obtain ⟨n, hn⟩ : ∃ n, la.length = n := ⟨_, rfl⟩
      obtain ⟨n2, hn2⟩ : ∃ n, lb.length = n := ⟨_, rfl⟩
      rw [hn] at hbx hp hc hla hac ⊢
      rw [hn2] at hbx hp hc hlb hbc ⊢
      have HP := hidden hp
      have HC := hidden hc
      have HLT := hidden hlt
      clear hsa hsb hda hdb hta htb hpa hpb hn hn2 hp hc hlt hs hz
      obtain ⟨mk, hmk2⟩ : ∃ mx, max k m = mx := ⟨_, rfl⟩
      have hmkl : mk < 5000000 := by omega
      have hmx : n ≤ mk := by omega
      rw [hmk2]
      clear hmk2
      go_enter Tryd.func20, Tryd.ntmps20
      go_wp2_with fail
      have HBX0 := hidden hbx
      clear hbx
      generalize ((w.alloc (.cells #[.bool na, .slice ao n ac] 28)).alloc (.cells #[.bool nb, .slice bo n2 bc] 28)).alloc (.cells #[.bool false, .slice none 0 0] 28) = W1 at HBX0 ⊢
      refine (HC.out _ (HSA.out.below HBX0.out.below) (HSB.out.below HBX0.out.below)).mono ?_
      rintro e W0 ⟨rfl, hb2⟩
      have HBX := hidden (HBX0.out.more hb2)
      have HSA0 := hidden (HSA.out.below HBX.out.below)
      have HSB0 := hidden (HSB.out.below HBX.out.below)
      clear hb2
      go_wp2_with fail
      refine wp_region_held_drew (S := fun W => Below (w.heap.size + 2) W0 W) (by kernel_rfl) (Below.refl _ _).drew (fun hH0 => ?_)
      refine take_val' (i := 0) (v := (.pointer (some ⟨w.heap.size, 0, none⟩))) rfl (by kernel_rfl) (by kernel_rfl) (by kernel_rfl) (some 24) rfl (fun _ _ _ h => h) (Or.inl ⟨by rfl, fun W hW => by go_simp⟩) hH0 ?_
      try simp only [Act.put, List.setIfInBounds_toArray, List.set_cons_zero, List.set_cons_succ]
      refine take_val' (i := 1) (v := (.bool na)) rfl (by kernel_rfl) (by kernel_rfl) (by kernel_rfl) (some 25) rfl (fun _ _ _ h => h) (Or.inl ⟨by rfl, fun W hW => by obtain ⟨k0, k1, k2, k3, k4, k5⟩ := HBX.out.cells W hW; go_simp⟩) hH0 ?_
      try simp only [Act.put, List.setIfInBounds_toArray, List.set_cons_zero, List.set_cons_succ]
      refine take_val' (i := 2) (v := (.pointer (some ⟨w.heap.size, 1, none⟩))) rfl (by kernel_rfl) (by kernel_rfl) (by kernel_rfl) (some 26) rfl (fun _ _ _ h => h) (Or.inl ⟨by rfl, fun W hW => by go_simp⟩) hH0 ?_
      try simp only [Act.put, List.setIfInBounds_toArray, List.set_cons_zero, List.set_cons_succ]
      refine take_val' (i := 3) (v := (.slice ao n ac)) rfl (by kernel_rfl) (by kernel_rfl) (by kernel_rfl) (some 27) rfl (fun _ _ _ h => h) (Or.inl ⟨by rfl, fun W hW => by obtain ⟨k0, k1, k2, k3, k4, k5⟩ := HBX.out.cells W hW; go_simp⟩) hH0 ?_
      try simp only [Act.put, List.setIfInBounds_toArray, List.set_cons_zero, List.set_cons_succ]
      refine take_val' (i := 4) (v := (.pointer (some ⟨w.heap.size + 1, 1, none⟩))) rfl (by kernel_rfl) (by kernel_rfl) (by kernel_rfl) (some 28) rfl (fun _ _ _ h => h) (Or.inl ⟨by rfl, fun W hW => by go_simp⟩) hH0 ?_
      try simp only [Act.put, List.setIfInBounds_toArray, List.set_cons_zero, List.set_cons_succ]
      refine take_val' (i := 5) (v := (.slice bo n2 bc)) rfl (by kernel_rfl) (by kernel_rfl) (by kernel_rfl) (some 29) rfl (fun _ _ _ h => h) (Or.inl ⟨by rfl, fun W hW => by obtain ⟨k0, k1, k2, k3, k4, k5⟩ := HBX.out.cells W hW; go_simp⟩) hH0 ?_
      try simp only [Act.put, List.setIfInBounds_toArray, List.set_cons_zero, List.set_cons_succ]
      refine wpAnyH_ready (rs := [6]) (by kernel_rfl) (by simp) ?_
      refine AllReadyH.cons rfl (fun K hK => ?_) AllReadyH.nil
      go_simp
      refine (HP.out _ (HSA0.out.below (Below.refl _ _).drew) (HSB0.out.below (Below.refl _ _).drew)).mono ?_
      rintro e w1 ⟨g1, cp1, T, rfl, hcp1, hsr1, hd1, hl1, hv1, hb1⟩
      obtain ⟨t1, ht1⟩ : ∃ n, T.length = n := ⟨_, rfl⟩
      rw [ht1] at hcp1 hl1 ⊢
      have hb0 : Below (w.heap.size + 3) W0.drew w1 := hb1.mono HBX.out.size
      have hB1 := hidden (show Below (w.heap.size + 2) W0 w1 from ((Below.refl _ _).drew).trans (hb0.mono (by omega)))
      have hr1 := hidden ((show Blk W0.drew (w.heap.size + 2) _ _ from HBX.out.r).below hb0 (show w.heap.size + 2 < w.heap.size + 3 by omega))
      have hz1 : w.heap.size + 3 ≤ w1.heap.size := Nat.le_trans HBX.out.size hb1.size
      have HR1 := hidden hsr1
      have HL1 := hidden ht1
      have HD1 := hidden hd1
      have HV1 := hidden hv1
      clear hsr1 ht1 hd1 hv1 hb1 hb0
      refine hK.out _ _ (hB1.out) (fun hH1 => ?_)
      clear hK K
      try simp only [Act.put, List.setIfInBounds_toArray, List.set_cons_zero, List.set_cons_succ]
      refine wpAnyH_ready (rs := [7]) (by kernel_rfl) (by simp) ?_
      refine AllReadyH.cons rfl (fun K hK => ?_) AllReadyH.nil
      go_simp
      refine (trim_any na g1 t1 cp1 T w1 HL1.out (by omega) hcp1 HR1.out HD1.out).mono ?_
      rintro e w2 ⟨v, rfl, ⟨n3, a3, c3, l3, rfl, q1, q2, q3, q4, q5, q6, q7⟩, hb2⟩
      have hB2 := hidden (show Below (w.heap.size + 2) W0 w2 from hB1.out.trans (hb2.mono (by omega)))
      have hN := hidden (show NumAt w2 (.agg #[.bool n3, .slice a3 l3.length c3]) (sgnv na (val T)) t1 from ⟨n3, a3, c3, l3, rfl, q1, q2, q3, q4, q5, q6, q7⟩)
      have hr2 := (show Blk w2 (w.heap.size + 1 + 1) _ _ from hr1.out.below hb2 (show w.heap.size + 2 < w1.heap.size by omega))
      obtain ⟨f0, f1, f2, f3⟩ := hr2.facts
      clear q1 q2 q3 q4 q5 q6 q7 hb2
      refine hK.out _ _ (hB2.out) (fun hH2 => ?_)
      clear hK K
      try simp only [Act.put, List.setIfInBounds_toArray, List.set_cons_zero, List.set_cons_succ]
      refine wpAnyH_ready (rs := [8]) (by kernel_rfl) (by simp) ?_
      refine AllReadyH.cons rfl (fun K hK => ?_) AllReadyH.nil
      go_simp
      refine hK.out _ _ ((hB2.out.setCell (show w.heap.size + 2 ≤ w.heap.size + 1 + 1 by omega) _).setCell (show w.heap.size + 2 ≤ w.heap.size + 1 + 1 by omega) _) (fun hH3 => ?_)
      clear hK K
      try simp only [Act.put, List.setIfInBounds_toArray, List.set_cons_zero, List.set_cons_succ]
      refine wpAnyH_done (by kernel_rfl) ?_ _
      have hst := (Blk.set hr2 (.bool n3) (.slice a3 l3.length c3)).facts
      obtain ⟨g1, g2⟩ := numAt_stored (w := w) (HBX.out.below.trans (hB2.out.mono (by omega))) (by omega) hr2 hN.out
      have HG1 := hidden g1
      have HG2 := hidden g2
      have HST := hidden hst
      clear hst g1 g2 hr2 hN
      go_wp2
      refine bodyPost_ret (v := .agg #[.bool n3, .slice a3 l3.length c3]) (by simp [results, Tryd.results20, go_sem, HST.out.1, HST.out.2.1]) rfl ⟨_, rfl, ?_, HG2.out⟩
      rw [← sgnv_sub na nb HNE.out _ _ (by have := HLT.out; omega), ← HV1.out]
      exact HG1.out.mono (by omega)
set_option maxHeartbeats 3200000 in
theorem sub_any (a b : Value) (x y : Int) (k m : Nat) (w : World) (ha : NumAt w a x k) (hb : NumAt w b y m) (hk : k < 5000000) (hm : m < 5000000) :
    Calls Tryd.prog 22 #[a, b] w fun e w' => IsNum w w' e (x - y) (max k m + 1) := by
  have HNA := hidden ha
  have HNB := hidden hb
  obtain ⟨na, ao, ac, la, rfl, hac, hsa, hda, hta, hla, hpa, hxa⟩ := ha
  obtain ⟨nb, bo, bc, lb, rfl, hbc, hsb, hdb, htb, hlb, hpb, hxb⟩ := hb
  have hbx := boxes_new w (.bool na) (.slice ao la.length ac) (.bool nb) (.slice bo lb.length bc)
  obtain ⟨n, hn⟩ : ∃ n, la.length = n := ⟨_, rfl⟩
  obtain ⟨n2, hn2⟩ : ∃ n, lb.length = n := ⟨_, rfl⟩
  rw [hn] at hbx HNA ⊢
  rw [hn2] at hbx HNB ⊢
  clear hsa hsb hda hdb hta htb hpa hpb hn hn2 hxa hxb hla hlb hac hbc
  obtain ⟨mk, hmk2⟩ : ∃ mx, max k m = mx := ⟨_, rfl⟩
  rw [hmk2]
  have HMK := hidden hmk2
  clear hmk2
  go_enter Tryd.func22, Tryd.ntmps22
  go_wp2_with fail
  have HBX := hidden hbx
  clear hbx
  generalize ((w.alloc (.cells #[.bool na, .slice ao n ac] 28)).alloc (.cells #[.bool nb, .slice bo n2 bc] 28)).alloc (.cells #[.bool false, .slice none 0 0] 28) = W0 at HBX ⊢
  refine wp_region_held_drew (S := fun W => Below (w.heap.size + 2) W0 W) (by kernel_rfl) (Below.refl _ _).drew (fun hH0 => ?_)
  refine take_val' (i := 0) (v := (.agg #[.bool na, .slice ao n ac])) rfl (by kernel_rfl) (by kernel_rfl) (by kernel_rfl) (some 5) rfl (fun _ _ _ h => h) (Or.inl ⟨by rfl, fun W hW => by obtain ⟨k0, k1, k2, k3, k4, k5⟩ := HBX.out.cells W hW; go_simp⟩) hH0 ?_
  try simp only [Act.put, List.setIfInBounds_toArray, List.set_cons_zero, List.set_cons_succ]
  refine take_val' (i := 1) (v := (.agg #[.bool nb, .slice bo n2 bc])) rfl (by kernel_rfl) (by kernel_rfl) (by kernel_rfl) (some 6) rfl (fun _ _ _ h => h) (Or.inl ⟨by rfl, fun W hW => by obtain ⟨k0, k1, k2, k3, k4, k5⟩ := HBX.out.cells W hW; go_simp⟩) hH0 ?_
  try simp only [Act.put, List.setIfInBounds_toArray, List.set_cons_zero, List.set_cons_succ]
  refine wpAnyH_ready (rs := [2]) (by kernel_rfl) (by simp) ?_
  refine AllReadyH.cons rfl (fun K hK => ?_) AllReadyH.nil
  go_simp
  refine (neg_any _ y m _ (HNB.out.below HBX.out.below.drew) (by omega)).mono ?_
  rintro e w1 ⟨v1, rfl, h1, hb1⟩
  have hb0 : Below (w.heap.size + 3) W0.drew w1 := hb1.mono HBX.out.size
  have hB1 := hidden (show Below (w.heap.size + 2) W0 w1 from ((Below.refl _ _).drew).trans (hb0.mono (by omega)))
  have hr1 := hidden ((show Blk W0.drew (w.heap.size + 2) _ _ from HBX.out.r).below hb0 (show w.heap.size + 2 < w.heap.size + 3 by omega))
  have hz1 : w.heap.size + 3 ≤ w1.heap.size := Nat.le_trans HBX.out.size hb1.size
  have HA1 := hidden (HNA.out.below (HBX.out.below.trans (hB1.out.mono (by omega))))
  have H1 := hidden h1
  clear h1 hb1 hb0
  refine hK.out _ _ (hB1.out) (fun hH1 => ?_)
  clear hK K
  try simp only [Act.put, List.setIfInBounds_toArray, List.set_cons_zero, List.set_cons_succ]
  refine wpAnyH_ready (rs := [3]) (by kernel_rfl) (by simp) ?_
  refine AllReadyH.cons rfl (fun K hK => ?_) AllReadyH.nil
  go_simp
  refine (add_any _ v1 x (-y) k m _ HA1.out H1.out (by omega) (by omega)).mono ?_
  rintro e w2 ⟨v, rfl, hN, hb2⟩
  have hB2 := hidden (show Below (w.heap.size + 2) W0 w2 from hB1.out.trans (hb2.mono (by omega)))
  have hr2 := (show Blk w2 (w.heap.size + 1 + 1) _ _ from hr1.out.below hb2 (show w.heap.size + 2 < w1.heap.size by omega))
  have HN := hidden hN
  obtain ⟨n3, a3, c3, l3, rfl, _⟩ := hN
  obtain ⟨f0, f1, f2, f3⟩ := hr2.facts
  clear hb2
  refine hK.out _ _ (hB2.out) (fun hH2 => ?_)
  clear hK K
  try simp only [Act.put, List.setIfInBounds_toArray, List.set_cons_zero, List.set_cons_succ]
  refine wpAnyH_ready (rs := [4]) (by kernel_rfl) (by simp) ?_
  refine AllReadyH.cons rfl (fun K hK => ?_) AllReadyH.nil
  go_simp
  refine hK.out _ _ ((hB2.out.setCell (show w.heap.size + 2 ≤ w.heap.size + 1 + 1 by omega) _).setCell (show w.heap.size + 2 ≤ w.heap.size + 1 + 1 by omega) _) (fun hH3 => ?_)
  clear hK K
  try simp only [Act.put, List.setIfInBounds_toArray, List.set_cons_zero, List.set_cons_succ]
  refine wpAnyH_done (by kernel_rfl) ?_ _
  have hst := (Blk.set hr2 (.bool n3) (.slice a3 l3.length c3)).facts
  obtain ⟨g1, g2⟩ := numAt_stored (w := w) (HBX.out.below.trans (hB2.out.mono (by omega))) (by omega) hr2 HN.out
  have HG1 := hidden g1
  have HG2 := hidden g2
  have HST := hidden hst
  clear hst g1 g2 hr2
  go_wp2
  refine bodyPost_ret (v := .agg #[.bool n3, .slice a3 l3.length c3]) (by simp [results, Tryd.results22, go_sem, HST.out.1, HST.out.2.1]) rfl ⟨_, rfl, ?_, HG2.out⟩
  have := HG1.out
  rw [HMK.out, ← Int.sub_eq_add_neg] at this
  exact this

/-- The sign of a comparison of whole numbers. -/
def sgz (x y : Int) : Int := if x < y then -1 else if y < x then 1 else 0
theorem sgz_lt {x y : Int} (h : x < y) : sgz x y = -1 := by unfold sgz; rw [if_pos h]
theorem sgz_gt {x y : Int} (h : y < x) : sgz x y = 1 := by unfold sgz; rw [if_neg (by omega), if_pos h]
theorem sgz_eq {x y : Int} (h : x = y) : sgz x y = 0 := by unfold sgz; rw [if_neg (by omega), if_neg (by omega)]
theorem sgz_nat (a b : Nat) : sgz (a : Int) (b : Int) = sg a b := by
  by_cases h : a < b
  · rw [sg_lt h, sgz_lt (by omega)]
  · by_cases h2 : b < a
    · rw [sg_gt h2, sgz_gt (by omega)]
    · rw [sg_eq (by omega), sgz_eq (by omega)]
theorem sgz_neg (a b : Nat) : sgz (-(a : Int)) (-(b : Int)) = sg b a := by
  by_cases h : a < b
  · rw [sg_gt h, sgz_gt (by omega)]
  · by_cases h2 : b < a
    · rw [sg_lt h2, sgz_lt (by omega)]
    · rw [sg_eq (by omega), sgz_eq (by omega)]
/-- Two Nums in boxes. -/
structure Pair (w W : World) (c0 c1 d0 d1 : Value) : Prop where
  a : Blk W w.heap.size c0 c1
  b : Blk W (w.heap.size + 1) d0 d1
  below : Below w.heap.size w W
theorem pair_new (w : World) (c0 c1 d0 d1 : Value) : Pair w ((w.alloc (.cells #[c0, c1] 28)).alloc (.cells #[d0, d1] 28)) c0 c1 d0 d1 where
  a := (blk_new w c0 c1).below ((Below.refl _ _).alloc (Nat.le_refl _) _) (by simp)
  b := by
    have := blk_new (w.alloc (.cells #[c0, c1] 28)) d0 d1
    rwa [World.size_alloc] at this
  below := ((Below.refl _ _).alloc (Nat.le_refl _) _).alloc (by simp) _
set_option maxHeartbeats 3200000 in
theorem cmp_any (a b : Value) (x y : Int) (k m : Nat) (w : World) (ha : NumAt w a x k) (hb : NumAt w b y m) (hk : k < 100000000) (hm : m < 100000000) :
    Calls Tryd.prog 28 #[a, b] w fun e w' => e = .returned (.int .i64 (sgz x y)) ∧ Below w.heap.size w w' := by
  obtain ⟨na, ao, ac, la, rfl, hac, hsa, hda, hta, hla, hpa, rfl⟩ := ha
  obtain ⟨nb, bo, bc, lb, rfl, hbc, hsb, hdb, htb, hlb, hpb, rfl⟩ := hb
  have hbx := pair_new w (.bool na) (.slice ao la.length ac) (.bool nb) (.slice bo lb.length bc)
  have HSA := hidden hsa
  have HSB := hidden hsb
  have HPA := hidden (fun h : na = true => val_pos hta (hpa h))
  have HPB := hidden (fun h : nb = true => val_pos htb (hpb h))
  have hc := fun W (h1 : SrcN W ao la) (h2 : SrcN W bo lb) => size_any ao bo ac bc la lb W (by omega) h1 h2 hda hdb hta htb
  have hc2 := fun W (h1 : SrcN W ao la) (h2 : SrcN W bo lb) => size_any bo ao bc ac lb la W (by omega) h2 h1 hdb hda htb hta
  obtain ⟨n, hn⟩ : ∃ n, la.length = n := ⟨_, rfl⟩
  obtain ⟨n2, hn2⟩ : ∃ n, lb.length = n := ⟨_, rfl⟩
  rw [hn] at hbx hc hc2 hla hac ⊢
  rw [hn2] at hbx hc hc2 hlb hbc ⊢
  have HC := hidden hc
  have HC2 := hidden hc2
  clear hsa hsb hda hdb hta htb hpa hpb hn hn2 hc hc2
  obtain ⟨z, hz⟩ : ∃ z, sgz (sgnv na (val la)) (sgnv nb (val lb)) = z := ⟨_, rfl⟩
  rw [hz]
  have HZ := hidden hz
  clear hz
  cases na <;> cases nb
  · have hz2 : Hid (z = sg (val la) (val lb)) := hidden (by rw [← HZ.out]; exact sgz_nat _ _)
    go_enter Tryd.func28, Tryd.ntmps28
    go_wp2_with fail
    refine (HC.out _ (HSA.out.below hbx.below) (HSB.out.below hbx.below)).mono ?_
    rintro e W2 ⟨rfl, hb2⟩
    go_wp2
    go_ret
    exact ⟨by rw [hz2.out]; rfl, hbx.below.trans (hb2.mono hbx.below.size)⟩
  · have hz2 : Hid (z = 1) := hidden (by
      rw [← HZ.out]
      have := HPB.out rfl
      exact sgz_gt (by simp only [sgnv]; simp; omega))
    go_enter Tryd.func28, Tryd.ntmps28
    go_wp2
    go_ret
    exact ⟨by rw [hz2.out]; rfl, hbx.below⟩
  · have hz2 : Hid (z = -1) := hidden (by
      rw [← HZ.out]
      have := HPA.out rfl
      exact sgz_lt (by simp only [sgnv]; simp; omega))
    go_enter Tryd.func28, Tryd.ntmps28
    go_wp2
    go_ret
    exact ⟨by rw [hz2.out]; rfl, hbx.below⟩
  · have hz2 : Hid (z = sg (val lb) (val la)) := hidden (by rw [← HZ.out]; exact sgz_neg _ _)
    go_enter Tryd.func28, Tryd.ntmps28
    go_wp2_with fail
    refine (HC2.out _ (HSA.out.below hbx.below) (HSB.out.below hbx.below)).mono ?_
    rintro e W2 ⟨rfl, hb2⟩
    go_wp2
    go_ret
    exact ⟨by rw [hz2.out]; rfl, hbx.below.trans (hb2.mono hbx.below.size)⟩
end Rv
end Go.Proofs.YtapdkibiegeijaaDoor
