/- Num's Sub and Cmp; num.divided. Conditions: as each states. -/
import Derived.Test.YtapdkibiegeijaaDoorNumO
namespace Go.Proofs.YtapdkibiegeijaaDoor
open Go.RowKit
namespace Nm

set_option maxHeartbeats 3200000 in
theorem sub_any (a b : Value) (x y : Int) (k m : Nat) (w : World) (ha : NumAt w a x k) (hb : NumAt w b y m) (hk : k < 100000000) (hm : m < 100000000) :
    Calls Tryd.prog 21 #[a, b] w fun e w' => IsNum w w' e (x - y) (max k m + 1) := by
  have HNA := hidden ha
  have HNB := hidden hb
  obtain ⟨na, ao, ac, la, rfl, hac, hsa, hda, hta, hla, hpa, hxa⟩ := ha
  obtain ⟨nb, bo, bc, lb, rfl, hbc, hsb, hdb, htb, hlb, hpb, hxb⟩ := hb
  have hbx := boxes_new w (.bool na) (.slice ao la.length ac) (.bool nb) (.slice bo lb.length bc)
  obtain ⟨n, hn⟩ : ∃ n, la.length = n := ⟨_, rfl⟩
  obtain ⟨n2, hn2⟩ : ∃ n, lb.length = n := ⟨_, rfl⟩
  rw [hn] at hbx HNA ⊢
  rw [hn2] at hbx HNB ⊢
  clear hsa hsb hda hdb hta htb hpa hpb hn hn2 hxa hxb hla hlb hac hbc
  obtain ⟨mk, hmk2⟩ : ∃ mx, max k m = mx := ⟨_, rfl⟩
  rw [hmk2]
  have HMK := hidden hmk2
  clear hmk2
  go_enter Tryd.func21, Tryd.ntmps21
  go_wp2_with fail
  have HBX := hidden hbx
  clear hbx
  generalize ((w.alloc (.cells #[.bool na, .slice ao n ac] 25)).alloc (.cells #[.bool nb, .slice bo n2 bc] 25)).alloc (.cells #[.bool false, .slice none 0 0] 25) = W0 at HBX ⊢
  refine wp_region_held_drew (S := fun W => Below (w.heap.size + 2) W0 W) (by kernel_rfl) (Below.refl _ _).drew (fun hH0 => ?_)
  refine take_val' (i := 0) (v := (.agg #[.bool na, .slice ao n ac])) rfl (by kernel_rfl) (by kernel_rfl) (by kernel_rfl) (some 5) rfl (fun _ _ _ h => h) (Or.inl ⟨by rfl, fun W hW => by obtain ⟨k0, k1, k2, k3, k4, k5⟩ := HBX.out.cells W hW; go_simp⟩) hH0 ?_
  try simp only [Act.put, List.setIfInBounds_toArray, List.set_cons_zero, List.set_cons_succ]
  refine take_val' (i := 1) (v := (.agg #[.bool nb, .slice bo n2 bc])) rfl (by kernel_rfl) (by kernel_rfl) (by kernel_rfl) (some 6) rfl (fun _ _ _ h => h) (Or.inl ⟨by rfl, fun W hW => by obtain ⟨k0, k1, k2, k3, k4, k5⟩ := HBX.out.cells W hW; go_simp⟩) hH0 ?_
  try simp only [Act.put, List.setIfInBounds_toArray, List.set_cons_zero, List.set_cons_succ]
  refine wpAnyH_ready (rs := [2]) (by kernel_rfl) (by simp) ?_
  refine AllReadyH.cons rfl (fun K hK => ?_) AllReadyH.nil
  go_simp
  refine (neg_any _ y m _ (HNB.out.below HBX.out.below.drew) (by omega)).mono ?_
  rintro e w1 ⟨v1, rfl, h1, hb1⟩
  have hb0 : Below (w.heap.size + 3) W0.drew w1 := hb1.mono HBX.out.size
  have hB1 := hidden (show Below (w.heap.size + 2) W0 w1 from ((Below.refl _ _).drew).trans (hb0.mono (by omega)))
  have hr1 := hidden ((show Blk W0.drew (w.heap.size + 2) _ _ from HBX.out.r).below hb0 (show w.heap.size + 2 < w.heap.size + 3 by omega))
  have hz1 : w.heap.size + 3 ≤ w1.heap.size := Nat.le_trans HBX.out.size hb1.size
  have HA1 := hidden (HNA.out.below (HBX.out.below.trans (hB1.out.mono (by omega))))
  have H1 := hidden h1
  clear h1 hb1 hb0
  refine hK.out _ _ (hB1.out) (fun hH1 => ?_)
  clear hK K
  try simp only [Act.put, List.setIfInBounds_toArray, List.set_cons_zero, List.set_cons_succ]
  refine wpAnyH_ready (rs := [3]) (by kernel_rfl) (by simp) ?_
  refine AllReadyH.cons rfl (fun K hK => ?_) AllReadyH.nil
  go_simp
  refine (add_any _ v1 x (-y) k m _ HA1.out H1.out (by omega) (by omega)).mono ?_
  rintro e w2 ⟨v, rfl, hN, hb2⟩
  have hB2 := hidden (show Below (w.heap.size + 2) W0 w2 from hB1.out.trans (hb2.mono (by omega)))
  have hr2 := (show Blk w2 (w.heap.size + 1 + 1) _ _ from hr1.out.below hb2 (show w.heap.size + 2 < w1.heap.size by omega))
  have HN := hidden hN
  obtain ⟨n3, a3, c3, l3, rfl, _⟩ := hN
  obtain ⟨f0, f1, f2, f3⟩ := hr2.facts
  clear hb2
  refine hK.out _ _ (hB2.out) (fun hH2 => ?_)
  clear hK K
  try simp only [Act.put, List.setIfInBounds_toArray, List.set_cons_zero, List.set_cons_succ]
  refine wpAnyH_ready (rs := [4]) (by kernel_rfl) (by simp) ?_
  refine AllReadyH.cons rfl (fun K hK => ?_) AllReadyH.nil
  go_simp
  refine hK.out _ _ ((hB2.out.setCell (show w.heap.size + 2 ≤ w.heap.size + 1 + 1 by omega) _).setCell (show w.heap.size + 2 ≤ w.heap.size + 1 + 1 by omega) _) (fun hH3 => ?_)
  clear hK K
  try simp only [Act.put, List.setIfInBounds_toArray, List.set_cons_zero, List.set_cons_succ]
  refine wpAnyH_done (by kernel_rfl) ?_ _
  have hst := (Blk.set hr2 (.bool n3) (.slice a3 l3.length c3)).facts
  obtain ⟨g1, g2⟩ := numAt_stored (w := w) (HBX.out.below.trans (hB2.out.mono (by omega))) (by omega) hr2 HN.out
  have HG1 := hidden g1
  have HG2 := hidden g2
  have HST := hidden hst
  clear hst g1 g2 hr2
  go_wp2
  refine bodyPost_ret (v := .agg #[.bool n3, .slice a3 l3.length c3]) (by simp [results, Tryd.results21, go_sem, HST.out.1, HST.out.2.1]) rfl ⟨_, rfl, ?_, HG2.out⟩
  have := HG1.out
  rw [HMK.out, ← Int.sub_eq_add_neg] at this
  exact this

/-- The sign of a comparison of whole numbers. -/
def sgz (x y : Int) : Int := if x < y then -1 else if y < x then 1 else 0
theorem sgz_lt {x y : Int} (h : x < y) : sgz x y = -1 := by unfold sgz; rw [if_pos h]
theorem sgz_gt {x y : Int} (h : y < x) : sgz x y = 1 := by unfold sgz; rw [if_neg (by omega), if_pos h]
theorem sgz_eq {x y : Int} (h : x = y) : sgz x y = 0 := by unfold sgz; rw [if_neg (by omega), if_neg (by omega)]
theorem sgz_nat (a b : Nat) : sgz (a : Int) (b : Int) = sg a b := by
  by_cases h : a < b
  · rw [sg_lt h, sgz_lt (by omega)]
  · by_cases h2 : b < a
    · rw [sg_gt h2, sgz_gt (by omega)]
    · rw [sg_eq (by omega), sgz_eq (by omega)]
theorem sgz_neg (a b : Nat) : sgz (-(a : Int)) (-(b : Int)) = sg b a := by
  by_cases h : a < b
  · rw [sg_gt h, sgz_gt (by omega)]
  · by_cases h2 : b < a
    · rw [sg_lt h2, sgz_lt (by omega)]
    · rw [sg_eq (by omega), sgz_eq (by omega)]
/-- Two Nums in boxes. -/
structure Pair (w W : World) (c0 c1 d0 d1 : Value) : Prop where
  a : Blk W w.heap.size c0 c1
  b : Blk W (w.heap.size + 1) d0 d1
  below : Below w.heap.size w W
theorem pair_new (w : World) (c0 c1 d0 d1 : Value) : Pair w ((w.alloc (.cells #[c0, c1] 25)).alloc (.cells #[d0, d1] 25)) c0 c1 d0 d1 where
  a := (blk_new w c0 c1).below ((Below.refl _ _).alloc (Nat.le_refl _) _) (by simp)
  b := by
    have := blk_new (w.alloc (.cells #[c0, c1] 25)) d0 d1
    rwa [World.size_alloc] at this
  below := ((Below.refl _ _).alloc (Nat.le_refl _) _).alloc (by simp) _
set_option maxHeartbeats 3200000 in
theorem cmp_any (a b : Value) (x y : Int) (k m : Nat) (w : World) (ha : NumAt w a x k) (hb : NumAt w b y m) (hk : k < 100000000) (hm : m < 100000000) :
    Calls Tryd.prog 27 #[a, b] w fun e w' => e = .returned (.int .i64 (sgz x y)) ∧ Below w.heap.size w w' := by
  obtain ⟨na, ao, ac, la, rfl, hac, hsa, hda, hta, hla, hpa, rfl⟩ := ha
  obtain ⟨nb, bo, bc, lb, rfl, hbc, hsb, hdb, htb, hlb, hpb, rfl⟩ := hb
  have hbx := pair_new w (.bool na) (.slice ao la.length ac) (.bool nb) (.slice bo lb.length bc)
  have HSA := hidden hsa
  have HSB := hidden hsb
  have HPA := hidden (fun h : na = true => val_pos hta (hpa h))
  have HPB := hidden (fun h : nb = true => val_pos htb (hpb h))
  have hc := fun W (h1 : SrcN W ao la) (h2 : SrcN W bo lb) => compare_any ao bo ac bc la lb W (by omega) h1 h2 hda hdb hta htb
  have hc2 := fun W (h1 : SrcN W ao la) (h2 : SrcN W bo lb) => compare_any bo ao bc ac lb la W (by omega) h2 h1 hdb hda htb hta
  obtain ⟨n, hn⟩ : ∃ n, la.length = n := ⟨_, rfl⟩
  obtain ⟨n2, hn2⟩ : ∃ n, lb.length = n := ⟨_, rfl⟩
  rw [hn] at hbx hc hc2 hla hac ⊢
  rw [hn2] at hbx hc hc2 hlb hbc ⊢
  have HC := hidden hc
  have HC2 := hidden hc2
  clear hsa hsb hda hdb hta htb hpa hpb hn hn2 hc hc2
  obtain ⟨z, hz⟩ : ∃ z, sgz (sgnv na (val la)) (sgnv nb (val lb)) = z := ⟨_, rfl⟩
  rw [hz]
  have HZ := hidden hz
  clear hz
  cases na <;> cases nb
  · have hz2 : Hid (z = sg (val la) (val lb)) := hidden (by rw [← HZ.out]; exact sgz_nat _ _)
    go_enter Tryd.func27, Tryd.ntmps27
    go_wp2_with fail
    refine (HC.out _ (HSA.out.below hbx.below) (HSB.out.below hbx.below)).mono ?_
    rintro e W2 ⟨rfl, hb2⟩
    go_wp2
    go_ret
    exact ⟨by rw [hz2.out]; rfl, hbx.below.trans (hb2.mono hbx.below.size)⟩
  · have hz2 : Hid (z = 1) := hidden (by
      rw [← HZ.out]
      have := HPB.out rfl
      exact sgz_gt (by simp only [sgnv]; simp; omega))
    go_enter Tryd.func27, Tryd.ntmps27
    go_wp2
    go_ret
    exact ⟨by rw [hz2.out]; rfl, hbx.below⟩
  · have hz2 : Hid (z = -1) := hidden (by
      rw [← HZ.out]
      have := HPA.out rfl
      exact sgz_lt (by simp only [sgnv]; simp; omega))
    go_enter Tryd.func27, Tryd.ntmps27
    go_wp2
    go_ret
    exact ⟨by rw [hz2.out]; rfl, hbx.below⟩
  · have hz2 : Hid (z = sg (val lb) (val la)) := hidden (by rw [← HZ.out]; exact sgz_neg _ _)
    go_enter Tryd.func27, Tryd.ntmps27
    go_wp2_with fail
    refine (HC2.out _ (HSA.out.below hbx.below) (HSB.out.below hbx.below)).mono ?_
    rintro e W2 ⟨rfl, hb2⟩
    go_wp2
    go_ret
    exact ⟨by rw [hz2.out]; rfl, hbx.below.trans (hb2.mono hbx.below.size)⟩

/-- A quotient's parts and a rest's. -/
def Two (w w' : World) (e : Ending) (q r kq kr : Nat) : Prop := ∃ (qo : Option Addr) (qc : Nat) (Q : List Nat) (ro : Option Addr) (rc : Nat) (T : List Nat), e = .returned (.tuple #[.slice qo Q.length qc, .slice ro T.length rc]) ∧
  SrcN w' qo Q ∧ SrcN w' ro T ∧ Dig Q ∧ Dig T ∧ val Q = q ∧ val T = r ∧ Q.length ≤ kq ∧ T.length ≤ kr ∧ Q.length ≤ qc ∧ T.length ≤ rc ∧ Below w.heap.size w w'
set_option maxHeartbeats 3200000 in
theorem divided_any (ao bo : Option Addr) (ac bc : Nat) (a b : List Nat) (w : World) (hla : a.length < 500000000) (hlb : b.length < 500000000) (hac : a.length ≤ ac) (hb0 : 0 < b.length) (ha : SrcN w ao a) (hb : SrcN w bo b) (da : Dig a) (db : Dig b) (ta : Trm a) (tb : Trm b) :
    Calls Tryd.prog 58 #[.slice ao a.length ac, .slice bo b.length bc] w fun e w' => Two w w' e (val a / val b) (val a % val b) a.length b.length := by
  have hc := compare_any ao bo ac bc a b w (by omega) ha hb da db ta tb
  by_cases hlt : val a < val b
  · have hll : a.length ≤ b.length := by
      by_cases h : a.length ≤ b.length
      · exact h
      · have := cmp_len db ta (by omega); omega
    rw [sg_lt hlt] at hc
    have HQ : Hid (val a / val b = 0 ∧ val a % val b = val a) := hidden ⟨Nat.div_eq_of_lt hlt, Nat.mod_eq_of_lt hlt⟩
    have HA := hidden ha
    have HDA := hidden da
    obtain ⟨n, hn⟩ : ∃ n, a.length = n := ⟨_, rfl⟩
    obtain ⟨n2, hn2⟩ : ∃ n, b.length = n := ⟨_, rfl⟩
    rw [hn] at hc hll hac ⊢
    rw [hn2] at hc hll ⊢
    have HN := hidden hn
    have HC := hidden hc
    clear ha hb da db ta tb hc hn hn2 hlt hla hlb hb0
    go_enter Tryd.func58, Tryd.ntmps58
    go_wp2_with fail
    refine HC.out.mono ?_
    rintro e W2 ⟨rfl, hb2⟩
    go_wp2
    go_ret2
    exact ⟨none, 0, [], ao, ac, a, by rw [HN.out]; rfl, srcN_nil _ _, HA.out.below hb2, dig_nil, HDA.out, HQ.out.1.symm, HQ.out.2.symm, Nat.zero_le _, by rw [HN.out]; exact hll, Nat.le_refl _, by rw [HN.out]; exact hac, hb2⟩
  · have hcz : Hid (sg (val a) (val b) = 0 ∨ sg (val a) (val b) = 1) := hidden (by
      by_cases h : val b < val a
      · exact .inr (sg_gt h)
      · exact .inl (sg_eq (by omega)))
    obtain ⟨z, hz⟩ : ∃ z, sg (val a) (val b) = z := ⟨_, rfl⟩
    rw [hz] at hcz hc
    have hz0 : 0 ≤ z := by rcases hcz.out with h | h <;> omega
    have hll : b.length ≤ a.length := by
      by_cases h : b.length ≤ a.length
      · exact h
      · have := cmp_len da tb (by omega); omega
    by_cases h1 : b.length = 1
    · obtain ⟨t, rfl⟩ : ∃ t, b = [t] := List.length_eq_one_iff.1 h1
      have ht0 := tb (by simp)
      simp at ht0
      have ht1 := db t (by simp)
      have hvb : val [t] = t := by simp [val]
      have hdm := fun W h => dividedShort_any ao ac a t W (by omega) (by omega) ht1 h da
      rw [hvb]
      obtain ⟨bk, bf, rfl, hcb⟩ := hb.get 0 (by simp)
      rw [show [t].getD 0 0 = t from rfl] at hcb
      have hbk := World.block_lt_of_cell? w _ hcb
      have HA := hidden ha
      have HCB := hidden hcb
      obtain ⟨n, hn⟩ : ∃ n, a.length = n := ⟨_, rfl⟩
      rw [hn] at hc hll hac hdm ⊢
      rw [show [t].length = 1 from rfl] at hc hll ⊢
      have HC := hidden hc
      have HDM := hidden hdm
      clear ha hb da db ta tb hc hn hdm hz hvb hcb h1 hlt hla
      go_enter Tryd.func58, Tryd.ntmps58
      go_wp2_with fail
      refine HC.out.mono ?_
      rintro e W2 ⟨rfl, hb2⟩
      have hcb2 := (hb2.cell (p := ⟨bk, bf + 0, none⟩) hbk).trans HCB.out
      rw [Nat.add_zero] at hcb2
      have HB2 := hidden hb2
      clear hb2
      go_wp2_with fail
      refine (HDM.out _ (HA.out.below HB2.out)).mono ?_
      rintro e w3 ⟨g, T, left, hl3, rfl, hg, hrow, hd, hv, hlf, hb3⟩
      have HB3 := hidden hb3
      clear hb3
      go_wp2
      go_ret2
      have hna : Below w3.heap.size w3 (w3.alloc (.cells #[.int .u32 (left : Int)] 75)) := (Below.refl _ _).alloc (Nat.le_refl _) _
      have hr4 := rowN_alloc w3 [left]
      have e1 : val T = val a / t ∧ left = val a % t := by
        rw [hv]
        constructor
        · rw [Nat.mul_comm, Nat.mul_add_div (by omega), Nat.div_eq_of_lt hlf, Nat.add_zero]
        · rw [Nat.mul_comm, Nat.mul_add_mod, Nat.mod_eq_of_lt hlf]
      exact ⟨some ⟨g, 0, none⟩, n, T, some ⟨w3.heap.size, 0, none⟩, 1, [left], by rw [hl3]; rfl, hrow.src.below hna, RowN.src (show RowN (w3.alloc (.cells #[.int .u32 (left : Int)] 75)) w3.heap.size [left] from hr4), hd, fun x hx => by rw [List.mem_singleton.1 hx]; omega, e1.1, by simp only [val]; omega, by omega, Nat.le_refl _, by omega, Nat.le_refl _, HB2.out.trans ((HB3.out.mono HB2.out.size).trans (hna.mono (Nat.le_trans HB2.out.size HB3.out.size)))⟩
    · have hdl := fun W (x1 : SrcN W ao a) (x2 : SrcN W bo b) => dividedLong_any ao bo ac bc a.length b.length a b W rfl rfl (by omega) (by omega) hll x1 x2 da db (tb hb0)
      have HA := hidden ha
      have HB := hidden hb
      obtain ⟨n, hn⟩ : ∃ n, a.length = n := ⟨_, rfl⟩
      obtain ⟨n2, hn2⟩ : ∃ n, b.length = n := ⟨_, rfl⟩
      rw [hn] at hc hll hac hdl hla ⊢
      rw [hn2] at hc hll hdl h1 hlb hb0 ⊢
      have HC := hidden hc
      have HDL := hidden hdl
      have h1b : ((n2 : Int) == 1) = false := by rw [beq_eq_false_iff_ne]; omega
      clear ha hb da db ta tb hc hn hn2 hdl hz hlt h1
      go_enter Tryd.func58, Tryd.ntmps58
      go_wp2_with fail
      refine HC.out.mono ?_
      rintro e W2 ⟨rfl, hb2⟩
      have HB2 := hidden hb2
      clear hb2
      go_wp2_with fail
      refine (HDL.out _ (HA.out.below HB2.out) (HB.out.below HB2.out)).mono ?_
      rintro e w3 ⟨gq, Q, gr, T, hq, hr, rfl, hrq, hrr, hdq, hdr, hvq, hvr, hb3⟩
      go_wp2
      go_ret2
      exact ⟨some ⟨gq, 0, none⟩, _, Q, some ⟨gr, 0, none⟩, _, T, by rw [hq, hr]; rfl, hrq.src, hrr.src, hdq, hdr, hvq, hvr, by omega, by omega, by omega, by omega, HB2.out.trans (hb3.mono HB2.out.size)⟩
end Nm
end Go.Proofs.YtapdkibiegeijaaDoor
