/- What the law NumSmall answers. Conditions: the table of internal/strconv as the program's text lays it. -/
import Derived.Test.YtbjpohlpahmkkaaDoorNumFi
namespace Go.Proofs.YtbjpohlpahmkkaaDoor
open Go.RowKit
namespace Nm

theorem dm_bound {x y q r : Int} (h : DM x y q r) (hx : -2147483648 ≤ x ∧ x ≤ 2147483647) (hyb : -2147483648 ≤ y ∧ y ≤ 2147483647) : -8589934592 ≤ q ∧ q ≤ 8589934592 ∧ -4294967296 ≤ q * y ∧ q * y ≤ 4294967296 ∧ -2147483648 ≤ r ∧ r ≤ 2147483648 := by
  obtain ⟨h1, h2⟩ := h
  have hm : -4294967296 ≤ q * y ∧ q * y ≤ 4294967296 := by omega
  have hr : -2147483648 ≤ r ∧ r ≤ 2147483648 := by omega
  have e : q.natAbs ≤ (q * y).natAbs := by
    rw [Int.natAbs_mul]
    exact Nat.le_mul_of_pos_right _ (by omega)
  omega
theorem mul_bound {x y : Int} (hx : -2147483648 ≤ x ∧ x ≤ 2147483647) (hy : -2147483648 ≤ y ∧ y ≤ 2147483647) : -4611686018427387904 ≤ x * y ∧ x * y ≤ 4611686018427387904 := by
  have e : (x * y).natAbs ≤ 2147483648 * 2147483648 := by
    rw [Int.natAbs_mul]
    exact Nat.mul_le_mul (by omega) (by omega)
  omega
set_option maxRecDepth 100000 in
set_option maxHeartbeats 12800000 in
theorem numSmall_any (x y : Int) (hx0 : -2147483648 ≤ x) (hx1 : x ≤ 2147483647) (hy0 : -2147483648 ≤ y) (hy1 : y ≤ 2147483647) (w : World) (hT : Tab w) :
    Calls Tryd.prog 4 #[.int .i32 x, .int .i32 y] w fun e w' => e = .returned (.bool true) ∧ Below w.heap.size w w' := by
  have HT := hidden hT
  have HB := hidden (Below.refl w.heap.size w)
  clear hT
  have hmb := mul_bound ⟨hx0, hx1⟩ ⟨hy0, hy1⟩
  obtain ⟨xy, hxy⟩ : ∃ z, x * y = z := ⟨_, rfl⟩
  rw [hxy] at hmb
  obtain ⟨m0, m1⟩ := hmb
  go_enter Tryd.func4, Tryd.ntmps4
  go_wp2_with fail
  refine (first_any _ HT.out).mono ?_
  rintro e w1 ⟨rfl, hb⟩
  replace HB := hidden (HB.out.trans (hb.mono HB.out.size))
  replace HT := hidden (HT.out.below hb)
  clear hb
  go_wp2_with fail
  refine (of_any x _ (by omega) (by omega)).mono ?_
  rintro e w2 ⟨vp, rfl, hv, hb⟩
  replace HB := hidden (HB.out.trans (hb.mono HB.out.size))
  replace HT := hidden (HT.out.below hb)
  clear hb
  have Np := hidden hv
  obtain ⟨np, ap, cp, lp, rfl, hrest⟩ := hv
  clear hrest
  have hbw := (Below.refl w2.heap.size w2).alloc (Nat.le_refl _) (.cells #[(.bool np), (.slice ap lp.length cp)] 25)
  replace Np := hidden (Np.out.below hbw)
  have Kp := hidden (blk_new w2 (.bool np) (.slice ap lp.length cp))
  replace HB := hidden (HB.out.alloc HB.out.size (.cells #[(.bool np), (.slice ap lp.length cp)] 25))
  replace HT := hidden (HT.out.below hbw)
  clear hbw
  have fp0 := Kp.out.facts.1
  have fp1 := Kp.out.facts.2.1
  go_wp2_with fail
  generalize w2.alloc (.cells #[(.bool np), (.slice ap lp.length cp)] 25) = w3 at Np Kp HB HT fp0 fp1 ⊢
  generalize w2.heap.size = ip at Kp fp0 fp1 ⊢
  refine (of_any y _ (by omega) (by omega)).mono ?_
  rintro e w4 ⟨vq, rfl, hv, hb⟩
  clear fp0 fp1
  replace Np := hidden (Np.out.below hb)
  replace Kp := hidden (Kp.out.below hb Kp.out.lt)
  replace HB := hidden (HB.out.trans (hb.mono HB.out.size))
  replace HT := hidden (HT.out.below hb)
  clear hb
  have fp0 := Kp.out.facts.1
  have fp1 := Kp.out.facts.2.1
  have Nq := hidden hv
  obtain ⟨nq, aq, cq, lq, rfl, hrest⟩ := hv
  clear hrest
  have hbw := (Below.refl w4.heap.size w4).alloc (Nat.le_refl _) (.cells #[(.bool nq), (.slice aq lq.length cq)] 25)
  clear fp0 fp1
  replace Np := hidden (Np.out.below hbw)
  replace Nq := hidden (Nq.out.below hbw)
  replace Kp := hidden (Kp.out.below hbw Kp.out.lt)
  have Kq := hidden (blk_new w4 (.bool nq) (.slice aq lq.length cq))
  replace HB := hidden (HB.out.alloc HB.out.size (.cells #[(.bool nq), (.slice aq lq.length cq)] 25))
  replace HT := hidden (HT.out.below hbw)
  clear hbw
  have fp0 := Kp.out.facts.1
  have fp1 := Kp.out.facts.2.1
  have fq0 := Kq.out.facts.1
  have fq1 := Kq.out.facts.2.1
  go_wp2_with fail
  generalize w4.alloc (.cells #[(.bool nq), (.slice aq lq.length cq)] 25) = w5 at Np Nq Kp Kq HB HT fp0 fp1 fq0 fq1 ⊢
  generalize w4.heap.size = iq at Kq fq0 fq1 ⊢
  refine (add_any _ _ x y 3 3 _ Np.out Nq.out (by omega) (by omega)).mono ?_
  rintro e w6 ⟨vr, rfl, hr, hb⟩
  clear fp0 fp1 fq0 fq1
  replace Np := hidden (Np.out.below hb)
  replace Nq := hidden (Nq.out.below hb)
  replace Kp := hidden (Kp.out.below hb Kp.out.lt)
  replace Kq := hidden (Kq.out.below hb Kq.out.lt)
  replace HB := hidden (HB.out.trans (hb.mono HB.out.size))
  replace HT := hidden (HT.out.below hb)
  clear hb
  have fp0 := Kp.out.facts.1
  have fp1 := Kp.out.facts.2.1
  have fq0 := Kq.out.facts.1
  have fq1 := Kq.out.facts.2.1
  have Nr := hidden hr
  clear hr
  go_wp2_with fail
  refine (int_any vr (x + y) (max 3 3 + 1) _ Nr.out (by omega) (by omega) (by omega)).mono ?_
  rintro e w7 ⟨rfl, hb⟩
  clear Nr
  clear fp0 fp1 fq0 fq1
  replace Np := hidden (Np.out.below hb)
  replace Nq := hidden (Nq.out.below hb)
  replace Kp := hidden (Kp.out.below hb Kp.out.lt)
  replace Kq := hidden (Kq.out.below hb Kq.out.lt)
  replace HB := hidden (HB.out.trans (hb.mono HB.out.size))
  replace HT := hidden (HT.out.below hb)
  clear hb
  have fp0 := Kp.out.facts.1
  have fp1 := Kp.out.facts.2.1
  have fq0 := Kq.out.facts.1
  have fq1 := Kq.out.facts.2.1
  go_wp2_with fail
  refine (sub_any _ _ x y 3 3 _ Np.out Nq.out (by omega) (by omega)).mono ?_
  rintro e w8 ⟨vr, rfl, hr, hb⟩
  clear fp0 fp1 fq0 fq1
  replace Np := hidden (Np.out.below hb)
  replace Nq := hidden (Nq.out.below hb)
  replace Kp := hidden (Kp.out.below hb Kp.out.lt)
  replace Kq := hidden (Kq.out.below hb Kq.out.lt)
  replace HB := hidden (HB.out.trans (hb.mono HB.out.size))
  replace HT := hidden (HT.out.below hb)
  clear hb
  have fp0 := Kp.out.facts.1
  have fp1 := Kp.out.facts.2.1
  have fq0 := Kq.out.facts.1
  have fq1 := Kq.out.facts.2.1
  have Nr := hidden hr
  clear hr
  go_wp2_with fail
  refine (int_any vr (x - y) (max 3 3 + 1) _ Nr.out (by omega) (by omega) (by omega)).mono ?_
  rintro e w9 ⟨rfl, hb⟩
  clear Nr
  clear fp0 fp1 fq0 fq1
  replace Np := hidden (Np.out.below hb)
  replace Nq := hidden (Nq.out.below hb)
  replace Kp := hidden (Kp.out.below hb Kp.out.lt)
  replace Kq := hidden (Kq.out.below hb Kq.out.lt)
  replace HB := hidden (HB.out.trans (hb.mono HB.out.size))
  replace HT := hidden (HT.out.below hb)
  clear hb
  have fp0 := Kp.out.facts.1
  have fp1 := Kp.out.facts.2.1
  have fq0 := Kq.out.facts.1
  have fq1 := Kq.out.facts.2.1
  go_wp2_with fail
  refine (mul_any _ _ x y 3 3 _ Np.out Nq.out (by omega) (by omega)).mono ?_
  rintro e w10 ⟨vr, rfl, hr, hb⟩
  clear fp0 fp1 fq0 fq1
  replace Np := hidden (Np.out.below hb)
  replace Nq := hidden (Nq.out.below hb)
  replace Kp := hidden (Kp.out.below hb Kp.out.lt)
  replace Kq := hidden (Kq.out.below hb Kq.out.lt)
  replace HB := hidden (HB.out.trans (hb.mono HB.out.size))
  replace HT := hidden (HT.out.below hb)
  clear hb
  have fp0 := Kp.out.facts.1
  have fp1 := Kp.out.facts.2.1
  have fq0 := Kq.out.facts.1
  have fq1 := Kq.out.facts.2.1
  have Nr := hidden hr
  clear hr
  rw [hxy] at Nr
  go_wp2_with fail
  refine (int_any vr (xy) (3 + 3) _ Nr.out (by omega) (by omega) (by omega)).mono ?_
  rintro e w11 ⟨rfl, hb⟩
  clear Nr
  clear fp0 fp1 fq0 fq1
  replace Np := hidden (Np.out.below hb)
  replace Nq := hidden (Nq.out.below hb)
  replace Kp := hidden (Kp.out.below hb Kp.out.lt)
  replace Kq := hidden (Kq.out.below hb Kq.out.lt)
  replace HB := hidden (HB.out.trans (hb.mono HB.out.size))
  replace HT := hidden (HT.out.below hb)
  clear hb
  have fp0 := Kp.out.facts.1
  have fp1 := Kp.out.facts.2.1
  have fq0 := Kq.out.facts.1
  have fq1 := Kq.out.facts.2.1
  by_cases hlt : x < y
  · have hs := sgz_lt hlt
    by_cases hy : y = 0
    · have hd : True := trivial
      have hxy0 : xy = 0 := by rw [← hxy, hy]; simp
      subst hxy0
      subst hy
      go_wp2_with fail
      refine (cmp_any _ _ x 0 3 3 _ Np.out Nq.out (by omega) (by omega)).mono ?_
      rintro e w12 ⟨rfl, hb⟩
      rw [hs]
      clear fp0 fp1 fq0 fq1
      replace Np := hidden (Np.out.below hb)
      replace Nq := hidden (Nq.out.below hb)
      replace Kp := hidden (Kp.out.below hb Kp.out.lt)
      replace Kq := hidden (Kq.out.below hb Kq.out.lt)
      replace HB := hidden (HB.out.trans (hb.mono HB.out.size))
      replace HT := hidden (HT.out.below hb)
      clear hb
      have fp0 := Kp.out.facts.1
      have fp1 := Kp.out.facts.2.1
      have fq0 := Kq.out.facts.1
      have fq1 := Kq.out.facts.2.1
      go_wp2_with fail
      refine (div_zero _ _ x 3 3 _ Np.out Nq.out).mono ?_
      rintro e w13 ⟨rfl, hb⟩
      clear fp0 fp1 fq0 fq1
      replace Np := hidden (Np.out.below hb)
      replace Nq := hidden (Nq.out.below hb)
      replace Kp := hidden (Kp.out.below hb Kp.out.lt)
      replace Kq := hidden (Kq.out.below hb Kq.out.lt)
      replace HB := hidden (HB.out.trans (hb.mono HB.out.size))
      replace HT := hidden (HT.out.below hb)
      clear hb
      have fp0 := Kp.out.facts.1
      have fp1 := Kp.out.facts.2.1
      have fq0 := Kq.out.facts.1
      have fq1 := Kq.out.facts.2.1
      have hbw := (Below.refl w13.heap.size w13).alloc (Nat.le_refl _) (.cells #[(.bool false), (.slice none 0 0)] 25)
      clear fp0 fp1 fq0 fq1
      replace Np := hidden (Np.out.below hbw)
      replace Nq := hidden (Nq.out.below hbw)
      replace Kp := hidden (Kp.out.below hbw Kp.out.lt)
      replace Kq := hidden (Kq.out.below hbw Kq.out.lt)
      have Ku := hidden (blk_new w13 (.bool false) (.slice none 0 0))
      replace HB := hidden (HB.out.alloc HB.out.size (.cells #[(.bool false), (.slice none 0 0)] 25))
      replace HT := hidden (HT.out.below hbw)
      clear hbw
      have fp0 := Kp.out.facts.1
      have fp1 := Kp.out.facts.2.1
      have fq0 := Kq.out.facts.1
      have fq1 := Kq.out.facts.2.1
      have fu0 := Ku.out.facts.1
      have fu1 := Ku.out.facts.2.1
      go_wp2_with fail
      generalize w13.alloc (.cells #[(.bool false), (.slice none 0 0)] 25) = w14 at Np Nq Kp Kq Ku HB HT fp0 fp1 fq0 fq1 fu0 fu1 ⊢
      generalize w13.heap.size = iu at Ku fu0 fu1 ⊢
      refine (mod_zero _ _ x 3 3 _ Np.out Nq.out).mono ?_
      rintro e w15 ⟨rfl, hb⟩
      clear fp0 fp1 fq0 fq1 fu0 fu1
      replace Np := hidden (Np.out.below hb)
      replace Nq := hidden (Nq.out.below hb)
      replace Kp := hidden (Kp.out.below hb Kp.out.lt)
      replace Kq := hidden (Kq.out.below hb Kq.out.lt)
      replace Ku := hidden (Ku.out.below hb Ku.out.lt)
      replace HB := hidden (HB.out.trans (hb.mono HB.out.size))
      replace HT := hidden (HT.out.below hb)
      clear hb
      have fp0 := Kp.out.facts.1
      have fp1 := Kp.out.facts.2.1
      have fq0 := Kq.out.facts.1
      have fq1 := Kq.out.facts.2.1
      have fu0 := Ku.out.facts.1
      have fu1 := Ku.out.facts.2.1
      go_wp2
      go_ret
      exact ⟨rfl, HB.out.alloc HB.out.size _⟩
    · have HY := hidden hy
      clear hy
      by_cases hy : 0 < y
      · have hd : True := trivial
        go_wp2_with fail
        refine (cmp_any _ _ x y 3 3 _ Np.out Nq.out (by omega) (by omega)).mono ?_
        rintro e w16 ⟨rfl, hb⟩
        rw [hs]
        clear fp0 fp1 fq0 fq1
        replace Np := hidden (Np.out.below hb)
        replace Nq := hidden (Nq.out.below hb)
        replace Kp := hidden (Kp.out.below hb Kp.out.lt)
        replace Kq := hidden (Kq.out.below hb Kq.out.lt)
        replace HB := hidden (HB.out.trans (hb.mono HB.out.size))
        replace HT := hidden (HT.out.below hb)
        clear hb
        have fp0 := Kp.out.facts.1
        have fp1 := Kp.out.facts.2.1
        have fq0 := Kq.out.facts.1
        have fq1 := Kq.out.facts.2.1
        go_wp2_with fail
        refine (div_any _ _ x y 3 3 _ Np.out Nq.out (by omega) (by omega) HY.out).mono ?_
        rintro e w17 ⟨vu, q, r, rfl, hv, hdm, hb⟩
        have HDM := hidden hdm
        clear hdm
        clear fp0 fp1 fq0 fq1
        replace Np := hidden (Np.out.below hb)
        replace Nq := hidden (Nq.out.below hb)
        replace Kp := hidden (Kp.out.below hb Kp.out.lt)
        replace Kq := hidden (Kq.out.below hb Kq.out.lt)
        replace HB := hidden (HB.out.trans (hb.mono HB.out.size))
        replace HT := hidden (HT.out.below hb)
        clear hb
        have fp0 := Kp.out.facts.1
        have fp1 := Kp.out.facts.2.1
        have fq0 := Kq.out.facts.1
        have fq1 := Kq.out.facts.2.1
        have Nu := hidden hv
        obtain ⟨nu, au, cu, lu, rfl, hrest⟩ := hv
        clear hrest
        have hbw := (Below.refl w17.heap.size w17).alloc (Nat.le_refl _) (.cells #[(.bool nu), (.slice au lu.length cu)] 25)
        clear fp0 fp1 fq0 fq1
        replace Np := hidden (Np.out.below hbw)
        replace Nq := hidden (Nq.out.below hbw)
        replace Nu := hidden (Nu.out.below hbw)
        replace Kp := hidden (Kp.out.below hbw Kp.out.lt)
        replace Kq := hidden (Kq.out.below hbw Kq.out.lt)
        have Ku := hidden (blk_new w17 (.bool nu) (.slice au lu.length cu))
        replace HB := hidden (HB.out.alloc HB.out.size (.cells #[(.bool nu), (.slice au lu.length cu)] 25))
        replace HT := hidden (HT.out.below hbw)
        clear hbw
        have fp0 := Kp.out.facts.1
        have fp1 := Kp.out.facts.2.1
        have fq0 := Kq.out.facts.1
        have fq1 := Kq.out.facts.2.1
        have fu0 := Ku.out.facts.1
        have fu1 := Ku.out.facts.2.1
        go_wp2_with fail
        generalize w17.alloc (.cells #[(.bool nu), (.slice au lu.length cu)] 25) = w18 at Np Nq Nu Kp Kq Ku HB HT fp0 fp1 fq0 fq1 fu0 fu1 ⊢
        generalize w17.heap.size = iu at Ku fu0 fu1 ⊢
        refine (mod_any _ _ x y 3 3 _ Np.out Nq.out (by omega) (by omega) HY.out).mono ?_
        rintro e w19 ⟨vv, q2, r2, rfl, hv, hdm, hb⟩
        obtain ⟨hq2, hr2⟩ := dm_unique hdm HDM.out
        subst hq2 hr2
        clear hdm
        clear fp0 fp1 fq0 fq1 fu0 fu1
        replace Np := hidden (Np.out.below hb)
        replace Nq := hidden (Nq.out.below hb)
        replace Nu := hidden (Nu.out.below hb)
        replace Kp := hidden (Kp.out.below hb Kp.out.lt)
        replace Kq := hidden (Kq.out.below hb Kq.out.lt)
        replace Ku := hidden (Ku.out.below hb Ku.out.lt)
        replace HB := hidden (HB.out.trans (hb.mono HB.out.size))
        replace HT := hidden (HT.out.below hb)
        clear hb
        have fp0 := Kp.out.facts.1
        have fp1 := Kp.out.facts.2.1
        have fq0 := Kq.out.facts.1
        have fq1 := Kq.out.facts.2.1
        have fu0 := Ku.out.facts.1
        have fu1 := Ku.out.facts.2.1
        have Nv := hidden hv
        obtain ⟨nv, av, cv, lv, rfl, hrest⟩ := hv
        clear hrest
        have hbw := (Below.refl w19.heap.size w19).alloc (Nat.le_refl _) (.cells #[(.bool nv), (.slice av lv.length cv)] 25)
        clear fp0 fp1 fq0 fq1 fu0 fu1
        replace Np := hidden (Np.out.below hbw)
        replace Nq := hidden (Nq.out.below hbw)
        replace Nu := hidden (Nu.out.below hbw)
        replace Nv := hidden (Nv.out.below hbw)
        replace Kp := hidden (Kp.out.below hbw Kp.out.lt)
        replace Kq := hidden (Kq.out.below hbw Kq.out.lt)
        replace Ku := hidden (Ku.out.below hbw Ku.out.lt)
        have Kv := hidden (blk_new w19 (.bool nv) (.slice av lv.length cv))
        replace HB := hidden (HB.out.alloc HB.out.size (.cells #[(.bool nv), (.slice av lv.length cv)] 25))
        replace HT := hidden (HT.out.below hbw)
        clear hbw
        have fp0 := Kp.out.facts.1
        have fp1 := Kp.out.facts.2.1
        have fq0 := Kq.out.facts.1
        have fq1 := Kq.out.facts.2.1
        have fu0 := Ku.out.facts.1
        have fu1 := Ku.out.facts.2.1
        have fv0 := Kv.out.facts.1
        have fv1 := Kv.out.facts.2.1
        obtain ⟨b1, b2, b3, b4, b5, b6⟩ := dm_bound HDM.out ⟨hx0, hx1⟩ ⟨hy0, hy1⟩
        go_wp2_with fail
        generalize w19.alloc (.cells #[(.bool nv), (.slice av lv.length cv)] 25) = w20 at Np Nq Nu Nv Kp Kq Ku Kv HB HT fp0 fp1 fq0 fq1 fu0 fu1 fv0 fv1 ⊢
        generalize w19.heap.size = iv at Kv fv0 fv1 ⊢
        refine (int_any _ q2 _ _ Nu.out (by omega) (by omega) (by omega)).mono ?_
        rintro e w21 ⟨rfl, hb⟩
        clear fp0 fp1 fq0 fq1 fu0 fu1 fv0 fv1
        replace Np := hidden (Np.out.below hb)
        replace Nq := hidden (Nq.out.below hb)
        replace Nu := hidden (Nu.out.below hb)
        replace Nv := hidden (Nv.out.below hb)
        replace Kp := hidden (Kp.out.below hb Kp.out.lt)
        replace Kq := hidden (Kq.out.below hb Kq.out.lt)
        replace Ku := hidden (Ku.out.below hb Ku.out.lt)
        replace Kv := hidden (Kv.out.below hb Kv.out.lt)
        replace HB := hidden (HB.out.trans (hb.mono HB.out.size))
        replace HT := hidden (HT.out.below hb)
        clear hb
        have fp0 := Kp.out.facts.1
        have fp1 := Kp.out.facts.2.1
        have fq0 := Kq.out.facts.1
        have fq1 := Kq.out.facts.2.1
        have fu0 := Ku.out.facts.1
        have fu1 := Ku.out.facts.2.1
        have fv0 := Kv.out.facts.1
        have fv1 := Kv.out.facts.2.1
        go_wp2_with fail
        refine (int_any _ r2 _ _ Nv.out (by omega) (by omega) (by omega)).mono ?_
        rintro e w22 ⟨rfl, hb⟩
        clear fp0 fp1 fq0 fq1 fu0 fu1 fv0 fv1
        replace Np := hidden (Np.out.below hb)
        replace Nq := hidden (Nq.out.below hb)
        replace Nu := hidden (Nu.out.below hb)
        replace Nv := hidden (Nv.out.below hb)
        replace Kp := hidden (Kp.out.below hb Kp.out.lt)
        replace Kq := hidden (Kq.out.below hb Kq.out.lt)
        replace Ku := hidden (Ku.out.below hb Ku.out.lt)
        replace Kv := hidden (Kv.out.below hb Kv.out.lt)
        replace HB := hidden (HB.out.trans (hb.mono HB.out.size))
        replace HT := hidden (HT.out.below hb)
        clear hb
        have fp0 := Kp.out.facts.1
        have fp1 := Kp.out.facts.2.1
        have fq0 := Kq.out.facts.1
        have fq1 := Kq.out.facts.2.1
        have fu0 := Ku.out.facts.1
        have fu1 := Ku.out.facts.2.1
        have fv0 := Kv.out.facts.1
        have fv1 := Kv.out.facts.2.1
        have hdm := HDM.out
        obtain ⟨d1, d2⟩ := hdm
        obtain ⟨qy, hqy⟩ : ∃ z, q2 * y = z := ⟨_, rfl⟩
        rw [hqy] at d1 b3 b4
        have d3 : qy + r2 = x := by omega
        clear d1
        have e3 : 0 ≤ r2 := by omega
        have e4 : r2 < y := by omega
        clear d2
        by_cases hr0 : r2 = 0
        · subst hr0
          go_wp2
          go_ret
          exact ⟨rfl, HB.out⟩
        · have e1 : (r2 == 0) = false := beq_eq_false_iff_ne.2 hr0
          have e2 : 0 < r2 := by omega
          clear hr0
          go_wp2
          go_ret
          exact ⟨rfl, HB.out⟩
      · have hyn : y < 0 := by have := HY.out; omega
        clear hy
        go_wp2_with fail
        refine (cmp_any _ _ x y 3 3 _ Np.out Nq.out (by omega) (by omega)).mono ?_
        rintro e w23 ⟨rfl, hb⟩
        rw [hs]
        clear fp0 fp1 fq0 fq1
        replace Np := hidden (Np.out.below hb)
        replace Nq := hidden (Nq.out.below hb)
        replace Kp := hidden (Kp.out.below hb Kp.out.lt)
        replace Kq := hidden (Kq.out.below hb Kq.out.lt)
        replace HB := hidden (HB.out.trans (hb.mono HB.out.size))
        replace HT := hidden (HT.out.below hb)
        clear hb
        have fp0 := Kp.out.facts.1
        have fp1 := Kp.out.facts.2.1
        have fq0 := Kq.out.facts.1
        have fq1 := Kq.out.facts.2.1
        go_wp2_with fail
        refine (div_any _ _ x y 3 3 _ Np.out Nq.out (by omega) (by omega) HY.out).mono ?_
        rintro e w24 ⟨vu, q, r, rfl, hv, hdm, hb⟩
        have HDM := hidden hdm
        clear hdm
        clear fp0 fp1 fq0 fq1
        replace Np := hidden (Np.out.below hb)
        replace Nq := hidden (Nq.out.below hb)
        replace Kp := hidden (Kp.out.below hb Kp.out.lt)
        replace Kq := hidden (Kq.out.below hb Kq.out.lt)
        replace HB := hidden (HB.out.trans (hb.mono HB.out.size))
        replace HT := hidden (HT.out.below hb)
        clear hb
        have fp0 := Kp.out.facts.1
        have fp1 := Kp.out.facts.2.1
        have fq0 := Kq.out.facts.1
        have fq1 := Kq.out.facts.2.1
        have Nu := hidden hv
        obtain ⟨nu, au, cu, lu, rfl, hrest⟩ := hv
        clear hrest
        have hbw := (Below.refl w24.heap.size w24).alloc (Nat.le_refl _) (.cells #[(.bool nu), (.slice au lu.length cu)] 25)
        clear fp0 fp1 fq0 fq1
        replace Np := hidden (Np.out.below hbw)
        replace Nq := hidden (Nq.out.below hbw)
        replace Nu := hidden (Nu.out.below hbw)
        replace Kp := hidden (Kp.out.below hbw Kp.out.lt)
        replace Kq := hidden (Kq.out.below hbw Kq.out.lt)
        have Ku := hidden (blk_new w24 (.bool nu) (.slice au lu.length cu))
        replace HB := hidden (HB.out.alloc HB.out.size (.cells #[(.bool nu), (.slice au lu.length cu)] 25))
        replace HT := hidden (HT.out.below hbw)
        clear hbw
        have fp0 := Kp.out.facts.1
        have fp1 := Kp.out.facts.2.1
        have fq0 := Kq.out.facts.1
        have fq1 := Kq.out.facts.2.1
        have fu0 := Ku.out.facts.1
        have fu1 := Ku.out.facts.2.1
        go_wp2_with fail
        generalize w24.alloc (.cells #[(.bool nu), (.slice au lu.length cu)] 25) = w25 at Np Nq Nu Kp Kq Ku HB HT fp0 fp1 fq0 fq1 fu0 fu1 ⊢
        generalize w24.heap.size = iu at Ku fu0 fu1 ⊢
        refine (mod_any _ _ x y 3 3 _ Np.out Nq.out (by omega) (by omega) HY.out).mono ?_
        rintro e w26 ⟨vv, q2, r2, rfl, hv, hdm, hb⟩
        obtain ⟨hq2, hr2⟩ := dm_unique hdm HDM.out
        subst hq2 hr2
        clear hdm
        clear fp0 fp1 fq0 fq1 fu0 fu1
        replace Np := hidden (Np.out.below hb)
        replace Nq := hidden (Nq.out.below hb)
        replace Nu := hidden (Nu.out.below hb)
        replace Kp := hidden (Kp.out.below hb Kp.out.lt)
        replace Kq := hidden (Kq.out.below hb Kq.out.lt)
        replace Ku := hidden (Ku.out.below hb Ku.out.lt)
        replace HB := hidden (HB.out.trans (hb.mono HB.out.size))
        replace HT := hidden (HT.out.below hb)
        clear hb
        have fp0 := Kp.out.facts.1
        have fp1 := Kp.out.facts.2.1
        have fq0 := Kq.out.facts.1
        have fq1 := Kq.out.facts.2.1
        have fu0 := Ku.out.facts.1
        have fu1 := Ku.out.facts.2.1
        have Nv := hidden hv
        obtain ⟨nv, av, cv, lv, rfl, hrest⟩ := hv
        clear hrest
        have hbw := (Below.refl w26.heap.size w26).alloc (Nat.le_refl _) (.cells #[(.bool nv), (.slice av lv.length cv)] 25)
        clear fp0 fp1 fq0 fq1 fu0 fu1
        replace Np := hidden (Np.out.below hbw)
        replace Nq := hidden (Nq.out.below hbw)
        replace Nu := hidden (Nu.out.below hbw)
        replace Nv := hidden (Nv.out.below hbw)
        replace Kp := hidden (Kp.out.below hbw Kp.out.lt)
        replace Kq := hidden (Kq.out.below hbw Kq.out.lt)
        replace Ku := hidden (Ku.out.below hbw Ku.out.lt)
        have Kv := hidden (blk_new w26 (.bool nv) (.slice av lv.length cv))
        replace HB := hidden (HB.out.alloc HB.out.size (.cells #[(.bool nv), (.slice av lv.length cv)] 25))
        replace HT := hidden (HT.out.below hbw)
        clear hbw
        have fp0 := Kp.out.facts.1
        have fp1 := Kp.out.facts.2.1
        have fq0 := Kq.out.facts.1
        have fq1 := Kq.out.facts.2.1
        have fu0 := Ku.out.facts.1
        have fu1 := Ku.out.facts.2.1
        have fv0 := Kv.out.facts.1
        have fv1 := Kv.out.facts.2.1
        obtain ⟨b1, b2, b3, b4, b5, b6⟩ := dm_bound HDM.out ⟨hx0, hx1⟩ ⟨hy0, hy1⟩
        go_wp2_with fail
        generalize w26.alloc (.cells #[(.bool nv), (.slice av lv.length cv)] 25) = w27 at Np Nq Nu Nv Kp Kq Ku Kv HB HT fp0 fp1 fq0 fq1 fu0 fu1 fv0 fv1 ⊢
        generalize w26.heap.size = iv at Kv fv0 fv1 ⊢
        refine (int_any _ q2 _ _ Nu.out (by omega) (by omega) (by omega)).mono ?_
        rintro e w28 ⟨rfl, hb⟩
        clear fp0 fp1 fq0 fq1 fu0 fu1 fv0 fv1
        replace Np := hidden (Np.out.below hb)
        replace Nq := hidden (Nq.out.below hb)
        replace Nu := hidden (Nu.out.below hb)
        replace Nv := hidden (Nv.out.below hb)
        replace Kp := hidden (Kp.out.below hb Kp.out.lt)
        replace Kq := hidden (Kq.out.below hb Kq.out.lt)
        replace Ku := hidden (Ku.out.below hb Ku.out.lt)
        replace Kv := hidden (Kv.out.below hb Kv.out.lt)
        replace HB := hidden (HB.out.trans (hb.mono HB.out.size))
        replace HT := hidden (HT.out.below hb)
        clear hb
        have fp0 := Kp.out.facts.1
        have fp1 := Kp.out.facts.2.1
        have fq0 := Kq.out.facts.1
        have fq1 := Kq.out.facts.2.1
        have fu0 := Ku.out.facts.1
        have fu1 := Ku.out.facts.2.1
        have fv0 := Kv.out.facts.1
        have fv1 := Kv.out.facts.2.1
        go_wp2_with fail
        refine (int_any _ r2 _ _ Nv.out (by omega) (by omega) (by omega)).mono ?_
        rintro e w29 ⟨rfl, hb⟩
        clear fp0 fp1 fq0 fq1 fu0 fu1 fv0 fv1
        replace Np := hidden (Np.out.below hb)
        replace Nq := hidden (Nq.out.below hb)
        replace Nu := hidden (Nu.out.below hb)
        replace Nv := hidden (Nv.out.below hb)
        replace Kp := hidden (Kp.out.below hb Kp.out.lt)
        replace Kq := hidden (Kq.out.below hb Kq.out.lt)
        replace Ku := hidden (Ku.out.below hb Ku.out.lt)
        replace Kv := hidden (Kv.out.below hb Kv.out.lt)
        replace HB := hidden (HB.out.trans (hb.mono HB.out.size))
        replace HT := hidden (HT.out.below hb)
        clear hb
        have fp0 := Kp.out.facts.1
        have fp1 := Kp.out.facts.2.1
        have fq0 := Kq.out.facts.1
        have fq1 := Kq.out.facts.2.1
        have fu0 := Ku.out.facts.1
        have fu1 := Ku.out.facts.2.1
        have fv0 := Kv.out.facts.1
        have fv1 := Kv.out.facts.2.1
        have hdm := HDM.out
        obtain ⟨d1, d2⟩ := hdm
        obtain ⟨qy, hqy⟩ : ∃ z, q2 * y = z := ⟨_, rfl⟩
        rw [hqy] at d1 b3 b4
        have d3 : qy + r2 = x := by omega
        clear d1
        have e3 : r2 ≤ 0 := by omega
        have e4 : y < r2 := by omega
        clear d2
        by_cases hr0 : r2 = 0
        · subst hr0
          go_wp2
          go_ret
          exact ⟨rfl, HB.out⟩
        · have e1 : (r2 == 0) = false := beq_eq_false_iff_ne.2 hr0
          have e2 : r2 < 0 := by omega
          clear hr0
          go_wp2
          go_ret
          exact ⟨rfl, HB.out⟩
  · by_cases hgt : y < x
    · have hs := sgz_gt hgt
      by_cases hy : y = 0
      · have hd : True := trivial
        have hxy0 : xy = 0 := by rw [← hxy, hy]; simp
        subst hxy0
        subst hy
        go_wp2_with fail
        refine (cmp_any _ _ x 0 3 3 _ Np.out Nq.out (by omega) (by omega)).mono ?_
        rintro e w30 ⟨rfl, hb⟩
        rw [hs]
        clear fp0 fp1 fq0 fq1
        replace Np := hidden (Np.out.below hb)
        replace Nq := hidden (Nq.out.below hb)
        replace Kp := hidden (Kp.out.below hb Kp.out.lt)
        replace Kq := hidden (Kq.out.below hb Kq.out.lt)
        replace HB := hidden (HB.out.trans (hb.mono HB.out.size))
        replace HT := hidden (HT.out.below hb)
        clear hb
        have fp0 := Kp.out.facts.1
        have fp1 := Kp.out.facts.2.1
        have fq0 := Kq.out.facts.1
        have fq1 := Kq.out.facts.2.1
        go_wp2_with fail
        refine (div_zero _ _ x 3 3 _ Np.out Nq.out).mono ?_
        rintro e w31 ⟨rfl, hb⟩
        clear fp0 fp1 fq0 fq1
        replace Np := hidden (Np.out.below hb)
        replace Nq := hidden (Nq.out.below hb)
        replace Kp := hidden (Kp.out.below hb Kp.out.lt)
        replace Kq := hidden (Kq.out.below hb Kq.out.lt)
        replace HB := hidden (HB.out.trans (hb.mono HB.out.size))
        replace HT := hidden (HT.out.below hb)
        clear hb
        have fp0 := Kp.out.facts.1
        have fp1 := Kp.out.facts.2.1
        have fq0 := Kq.out.facts.1
        have fq1 := Kq.out.facts.2.1
        have hbw := (Below.refl w31.heap.size w31).alloc (Nat.le_refl _) (.cells #[(.bool false), (.slice none 0 0)] 25)
        clear fp0 fp1 fq0 fq1
        replace Np := hidden (Np.out.below hbw)
        replace Nq := hidden (Nq.out.below hbw)
        replace Kp := hidden (Kp.out.below hbw Kp.out.lt)
        replace Kq := hidden (Kq.out.below hbw Kq.out.lt)
        have Ku := hidden (blk_new w31 (.bool false) (.slice none 0 0))
        replace HB := hidden (HB.out.alloc HB.out.size (.cells #[(.bool false), (.slice none 0 0)] 25))
        replace HT := hidden (HT.out.below hbw)
        clear hbw
        have fp0 := Kp.out.facts.1
        have fp1 := Kp.out.facts.2.1
        have fq0 := Kq.out.facts.1
        have fq1 := Kq.out.facts.2.1
        have fu0 := Ku.out.facts.1
        have fu1 := Ku.out.facts.2.1
        go_wp2_with fail
        generalize w31.alloc (.cells #[(.bool false), (.slice none 0 0)] 25) = w32 at Np Nq Kp Kq Ku HB HT fp0 fp1 fq0 fq1 fu0 fu1 ⊢
        generalize w31.heap.size = iu at Ku fu0 fu1 ⊢
        refine (mod_zero _ _ x 3 3 _ Np.out Nq.out).mono ?_
        rintro e w33 ⟨rfl, hb⟩
        clear fp0 fp1 fq0 fq1 fu0 fu1
        replace Np := hidden (Np.out.below hb)
        replace Nq := hidden (Nq.out.below hb)
        replace Kp := hidden (Kp.out.below hb Kp.out.lt)
        replace Kq := hidden (Kq.out.below hb Kq.out.lt)
        replace Ku := hidden (Ku.out.below hb Ku.out.lt)
        replace HB := hidden (HB.out.trans (hb.mono HB.out.size))
        replace HT := hidden (HT.out.below hb)
        clear hb
        have fp0 := Kp.out.facts.1
        have fp1 := Kp.out.facts.2.1
        have fq0 := Kq.out.facts.1
        have fq1 := Kq.out.facts.2.1
        have fu0 := Ku.out.facts.1
        have fu1 := Ku.out.facts.2.1
        go_wp2
        go_ret
        exact ⟨rfl, HB.out.alloc HB.out.size _⟩
      · have HY := hidden hy
        clear hy
        by_cases hy : 0 < y
        · have hd : True := trivial
          go_wp2_with fail
          refine (cmp_any _ _ x y 3 3 _ Np.out Nq.out (by omega) (by omega)).mono ?_
          rintro e w34 ⟨rfl, hb⟩
          rw [hs]
          clear fp0 fp1 fq0 fq1
          replace Np := hidden (Np.out.below hb)
          replace Nq := hidden (Nq.out.below hb)
          replace Kp := hidden (Kp.out.below hb Kp.out.lt)
          replace Kq := hidden (Kq.out.below hb Kq.out.lt)
          replace HB := hidden (HB.out.trans (hb.mono HB.out.size))
          replace HT := hidden (HT.out.below hb)
          clear hb
          have fp0 := Kp.out.facts.1
          have fp1 := Kp.out.facts.2.1
          have fq0 := Kq.out.facts.1
          have fq1 := Kq.out.facts.2.1
          go_wp2_with fail
          refine (div_any _ _ x y 3 3 _ Np.out Nq.out (by omega) (by omega) HY.out).mono ?_
          rintro e w35 ⟨vu, q, r, rfl, hv, hdm, hb⟩
          have HDM := hidden hdm
          clear hdm
          clear fp0 fp1 fq0 fq1
          replace Np := hidden (Np.out.below hb)
          replace Nq := hidden (Nq.out.below hb)
          replace Kp := hidden (Kp.out.below hb Kp.out.lt)
          replace Kq := hidden (Kq.out.below hb Kq.out.lt)
          replace HB := hidden (HB.out.trans (hb.mono HB.out.size))
          replace HT := hidden (HT.out.below hb)
          clear hb
          have fp0 := Kp.out.facts.1
          have fp1 := Kp.out.facts.2.1
          have fq0 := Kq.out.facts.1
          have fq1 := Kq.out.facts.2.1
          have Nu := hidden hv
          obtain ⟨nu, au, cu, lu, rfl, hrest⟩ := hv
          clear hrest
          have hbw := (Below.refl w35.heap.size w35).alloc (Nat.le_refl _) (.cells #[(.bool nu), (.slice au lu.length cu)] 25)
          clear fp0 fp1 fq0 fq1
          replace Np := hidden (Np.out.below hbw)
          replace Nq := hidden (Nq.out.below hbw)
          replace Nu := hidden (Nu.out.below hbw)
          replace Kp := hidden (Kp.out.below hbw Kp.out.lt)
          replace Kq := hidden (Kq.out.below hbw Kq.out.lt)
          have Ku := hidden (blk_new w35 (.bool nu) (.slice au lu.length cu))
          replace HB := hidden (HB.out.alloc HB.out.size (.cells #[(.bool nu), (.slice au lu.length cu)] 25))
          replace HT := hidden (HT.out.below hbw)
          clear hbw
          have fp0 := Kp.out.facts.1
          have fp1 := Kp.out.facts.2.1
          have fq0 := Kq.out.facts.1
          have fq1 := Kq.out.facts.2.1
          have fu0 := Ku.out.facts.1
          have fu1 := Ku.out.facts.2.1
          go_wp2_with fail
          generalize w35.alloc (.cells #[(.bool nu), (.slice au lu.length cu)] 25) = w36 at Np Nq Nu Kp Kq Ku HB HT fp0 fp1 fq0 fq1 fu0 fu1 ⊢
          generalize w35.heap.size = iu at Ku fu0 fu1 ⊢
          refine (mod_any _ _ x y 3 3 _ Np.out Nq.out (by omega) (by omega) HY.out).mono ?_
          rintro e w37 ⟨vv, q2, r2, rfl, hv, hdm, hb⟩
          obtain ⟨hq2, hr2⟩ := dm_unique hdm HDM.out
          subst hq2 hr2
          clear hdm
          clear fp0 fp1 fq0 fq1 fu0 fu1
          replace Np := hidden (Np.out.below hb)
          replace Nq := hidden (Nq.out.below hb)
          replace Nu := hidden (Nu.out.below hb)
          replace Kp := hidden (Kp.out.below hb Kp.out.lt)
          replace Kq := hidden (Kq.out.below hb Kq.out.lt)
          replace Ku := hidden (Ku.out.below hb Ku.out.lt)
          replace HB := hidden (HB.out.trans (hb.mono HB.out.size))
          replace HT := hidden (HT.out.below hb)
          clear hb
          have fp0 := Kp.out.facts.1
          have fp1 := Kp.out.facts.2.1
          have fq0 := Kq.out.facts.1
          have fq1 := Kq.out.facts.2.1
          have fu0 := Ku.out.facts.1
          have fu1 := Ku.out.facts.2.1
          have Nv := hidden hv
          obtain ⟨nv, av, cv, lv, rfl, hrest⟩ := hv
          clear hrest
          have hbw := (Below.refl w37.heap.size w37).alloc (Nat.le_refl _) (.cells #[(.bool nv), (.slice av lv.length cv)] 25)
          clear fp0 fp1 fq0 fq1 fu0 fu1
          replace Np := hidden (Np.out.below hbw)
          replace Nq := hidden (Nq.out.below hbw)
          replace Nu := hidden (Nu.out.below hbw)
          replace Nv := hidden (Nv.out.below hbw)
          replace Kp := hidden (Kp.out.below hbw Kp.out.lt)
          replace Kq := hidden (Kq.out.below hbw Kq.out.lt)
          replace Ku := hidden (Ku.out.below hbw Ku.out.lt)
          have Kv := hidden (blk_new w37 (.bool nv) (.slice av lv.length cv))
          replace HB := hidden (HB.out.alloc HB.out.size (.cells #[(.bool nv), (.slice av lv.length cv)] 25))
          replace HT := hidden (HT.out.below hbw)
          clear hbw
          have fp0 := Kp.out.facts.1
          have fp1 := Kp.out.facts.2.1
          have fq0 := Kq.out.facts.1
          have fq1 := Kq.out.facts.2.1
          have fu0 := Ku.out.facts.1
          have fu1 := Ku.out.facts.2.1
          have fv0 := Kv.out.facts.1
          have fv1 := Kv.out.facts.2.1
          obtain ⟨b1, b2, b3, b4, b5, b6⟩ := dm_bound HDM.out ⟨hx0, hx1⟩ ⟨hy0, hy1⟩
          go_wp2_with fail
          generalize w37.alloc (.cells #[(.bool nv), (.slice av lv.length cv)] 25) = w38 at Np Nq Nu Nv Kp Kq Ku Kv HB HT fp0 fp1 fq0 fq1 fu0 fu1 fv0 fv1 ⊢
          generalize w37.heap.size = iv at Kv fv0 fv1 ⊢
          refine (int_any _ q2 _ _ Nu.out (by omega) (by omega) (by omega)).mono ?_
          rintro e w39 ⟨rfl, hb⟩
          clear fp0 fp1 fq0 fq1 fu0 fu1 fv0 fv1
          replace Np := hidden (Np.out.below hb)
          replace Nq := hidden (Nq.out.below hb)
          replace Nu := hidden (Nu.out.below hb)
          replace Nv := hidden (Nv.out.below hb)
          replace Kp := hidden (Kp.out.below hb Kp.out.lt)
          replace Kq := hidden (Kq.out.below hb Kq.out.lt)
          replace Ku := hidden (Ku.out.below hb Ku.out.lt)
          replace Kv := hidden (Kv.out.below hb Kv.out.lt)
          replace HB := hidden (HB.out.trans (hb.mono HB.out.size))
          replace HT := hidden (HT.out.below hb)
          clear hb
          have fp0 := Kp.out.facts.1
          have fp1 := Kp.out.facts.2.1
          have fq0 := Kq.out.facts.1
          have fq1 := Kq.out.facts.2.1
          have fu0 := Ku.out.facts.1
          have fu1 := Ku.out.facts.2.1
          have fv0 := Kv.out.facts.1
          have fv1 := Kv.out.facts.2.1
          go_wp2_with fail
          refine (int_any _ r2 _ _ Nv.out (by omega) (by omega) (by omega)).mono ?_
          rintro e w40 ⟨rfl, hb⟩
          clear fp0 fp1 fq0 fq1 fu0 fu1 fv0 fv1
          replace Np := hidden (Np.out.below hb)
          replace Nq := hidden (Nq.out.below hb)
          replace Nu := hidden (Nu.out.below hb)
          replace Nv := hidden (Nv.out.below hb)
          replace Kp := hidden (Kp.out.below hb Kp.out.lt)
          replace Kq := hidden (Kq.out.below hb Kq.out.lt)
          replace Ku := hidden (Ku.out.below hb Ku.out.lt)
          replace Kv := hidden (Kv.out.below hb Kv.out.lt)
          replace HB := hidden (HB.out.trans (hb.mono HB.out.size))
          replace HT := hidden (HT.out.below hb)
          clear hb
          have fp0 := Kp.out.facts.1
          have fp1 := Kp.out.facts.2.1
          have fq0 := Kq.out.facts.1
          have fq1 := Kq.out.facts.2.1
          have fu0 := Ku.out.facts.1
          have fu1 := Ku.out.facts.2.1
          have fv0 := Kv.out.facts.1
          have fv1 := Kv.out.facts.2.1
          have hdm := HDM.out
          obtain ⟨d1, d2⟩ := hdm
          obtain ⟨qy, hqy⟩ : ∃ z, q2 * y = z := ⟨_, rfl⟩
          rw [hqy] at d1 b3 b4
          have d3 : qy + r2 = x := by omega
          clear d1
          have e3 : 0 ≤ r2 := by omega
          have e4 : r2 < y := by omega
          clear d2
          by_cases hr0 : r2 = 0
          · subst hr0
            go_wp2
            go_ret
            exact ⟨rfl, HB.out⟩
          · have e1 : (r2 == 0) = false := beq_eq_false_iff_ne.2 hr0
            have e2 : 0 < r2 := by omega
            clear hr0
            go_wp2
            go_ret
            exact ⟨rfl, HB.out⟩
        · have hyn : y < 0 := by have := HY.out; omega
          clear hy
          go_wp2_with fail
          refine (cmp_any _ _ x y 3 3 _ Np.out Nq.out (by omega) (by omega)).mono ?_
          rintro e w41 ⟨rfl, hb⟩
          rw [hs]
          clear fp0 fp1 fq0 fq1
          replace Np := hidden (Np.out.below hb)
          replace Nq := hidden (Nq.out.below hb)
          replace Kp := hidden (Kp.out.below hb Kp.out.lt)
          replace Kq := hidden (Kq.out.below hb Kq.out.lt)
          replace HB := hidden (HB.out.trans (hb.mono HB.out.size))
          replace HT := hidden (HT.out.below hb)
          clear hb
          have fp0 := Kp.out.facts.1
          have fp1 := Kp.out.facts.2.1
          have fq0 := Kq.out.facts.1
          have fq1 := Kq.out.facts.2.1
          go_wp2_with fail
          refine (div_any _ _ x y 3 3 _ Np.out Nq.out (by omega) (by omega) HY.out).mono ?_
          rintro e w42 ⟨vu, q, r, rfl, hv, hdm, hb⟩
          have HDM := hidden hdm
          clear hdm
          clear fp0 fp1 fq0 fq1
          replace Np := hidden (Np.out.below hb)
          replace Nq := hidden (Nq.out.below hb)
          replace Kp := hidden (Kp.out.below hb Kp.out.lt)
          replace Kq := hidden (Kq.out.below hb Kq.out.lt)
          replace HB := hidden (HB.out.trans (hb.mono HB.out.size))
          replace HT := hidden (HT.out.below hb)
          clear hb
          have fp0 := Kp.out.facts.1
          have fp1 := Kp.out.facts.2.1
          have fq0 := Kq.out.facts.1
          have fq1 := Kq.out.facts.2.1
          have Nu := hidden hv
          obtain ⟨nu, au, cu, lu, rfl, hrest⟩ := hv
          clear hrest
          have hbw := (Below.refl w42.heap.size w42).alloc (Nat.le_refl _) (.cells #[(.bool nu), (.slice au lu.length cu)] 25)
          clear fp0 fp1 fq0 fq1
          replace Np := hidden (Np.out.below hbw)
          replace Nq := hidden (Nq.out.below hbw)
          replace Nu := hidden (Nu.out.below hbw)
          replace Kp := hidden (Kp.out.below hbw Kp.out.lt)
          replace Kq := hidden (Kq.out.below hbw Kq.out.lt)
          have Ku := hidden (blk_new w42 (.bool nu) (.slice au lu.length cu))
          replace HB := hidden (HB.out.alloc HB.out.size (.cells #[(.bool nu), (.slice au lu.length cu)] 25))
          replace HT := hidden (HT.out.below hbw)
          clear hbw
          have fp0 := Kp.out.facts.1
          have fp1 := Kp.out.facts.2.1
          have fq0 := Kq.out.facts.1
          have fq1 := Kq.out.facts.2.1
          have fu0 := Ku.out.facts.1
          have fu1 := Ku.out.facts.2.1
          go_wp2_with fail
          generalize w42.alloc (.cells #[(.bool nu), (.slice au lu.length cu)] 25) = w43 at Np Nq Nu Kp Kq Ku HB HT fp0 fp1 fq0 fq1 fu0 fu1 ⊢
          generalize w42.heap.size = iu at Ku fu0 fu1 ⊢
          refine (mod_any _ _ x y 3 3 _ Np.out Nq.out (by omega) (by omega) HY.out).mono ?_
          rintro e w44 ⟨vv, q2, r2, rfl, hv, hdm, hb⟩
          obtain ⟨hq2, hr2⟩ := dm_unique hdm HDM.out
          subst hq2 hr2
          clear hdm
          clear fp0 fp1 fq0 fq1 fu0 fu1
          replace Np := hidden (Np.out.below hb)
          replace Nq := hidden (Nq.out.below hb)
          replace Nu := hidden (Nu.out.below hb)
          replace Kp := hidden (Kp.out.below hb Kp.out.lt)
          replace Kq := hidden (Kq.out.below hb Kq.out.lt)
          replace Ku := hidden (Ku.out.below hb Ku.out.lt)
          replace HB := hidden (HB.out.trans (hb.mono HB.out.size))
          replace HT := hidden (HT.out.below hb)
          clear hb
          have fp0 := Kp.out.facts.1
          have fp1 := Kp.out.facts.2.1
          have fq0 := Kq.out.facts.1
          have fq1 := Kq.out.facts.2.1
          have fu0 := Ku.out.facts.1
          have fu1 := Ku.out.facts.2.1
          have Nv := hidden hv
          obtain ⟨nv, av, cv, lv, rfl, hrest⟩ := hv
          clear hrest
          have hbw := (Below.refl w44.heap.size w44).alloc (Nat.le_refl _) (.cells #[(.bool nv), (.slice av lv.length cv)] 25)
          clear fp0 fp1 fq0 fq1 fu0 fu1
          replace Np := hidden (Np.out.below hbw)
          replace Nq := hidden (Nq.out.below hbw)
          replace Nu := hidden (Nu.out.below hbw)
          replace Nv := hidden (Nv.out.below hbw)
          replace Kp := hidden (Kp.out.below hbw Kp.out.lt)
          replace Kq := hidden (Kq.out.below hbw Kq.out.lt)
          replace Ku := hidden (Ku.out.below hbw Ku.out.lt)
          have Kv := hidden (blk_new w44 (.bool nv) (.slice av lv.length cv))
          replace HB := hidden (HB.out.alloc HB.out.size (.cells #[(.bool nv), (.slice av lv.length cv)] 25))
          replace HT := hidden (HT.out.below hbw)
          clear hbw
          have fp0 := Kp.out.facts.1
          have fp1 := Kp.out.facts.2.1
          have fq0 := Kq.out.facts.1
          have fq1 := Kq.out.facts.2.1
          have fu0 := Ku.out.facts.1
          have fu1 := Ku.out.facts.2.1
          have fv0 := Kv.out.facts.1
          have fv1 := Kv.out.facts.2.1
          obtain ⟨b1, b2, b3, b4, b5, b6⟩ := dm_bound HDM.out ⟨hx0, hx1⟩ ⟨hy0, hy1⟩
          go_wp2_with fail
          generalize w44.alloc (.cells #[(.bool nv), (.slice av lv.length cv)] 25) = w45 at Np Nq Nu Nv Kp Kq Ku Kv HB HT fp0 fp1 fq0 fq1 fu0 fu1 fv0 fv1 ⊢
          generalize w44.heap.size = iv at Kv fv0 fv1 ⊢
          refine (int_any _ q2 _ _ Nu.out (by omega) (by omega) (by omega)).mono ?_
          rintro e w46 ⟨rfl, hb⟩
          clear fp0 fp1 fq0 fq1 fu0 fu1 fv0 fv1
          replace Np := hidden (Np.out.below hb)
          replace Nq := hidden (Nq.out.below hb)
          replace Nu := hidden (Nu.out.below hb)
          replace Nv := hidden (Nv.out.below hb)
          replace Kp := hidden (Kp.out.below hb Kp.out.lt)
          replace Kq := hidden (Kq.out.below hb Kq.out.lt)
          replace Ku := hidden (Ku.out.below hb Ku.out.lt)
          replace Kv := hidden (Kv.out.below hb Kv.out.lt)
          replace HB := hidden (HB.out.trans (hb.mono HB.out.size))
          replace HT := hidden (HT.out.below hb)
          clear hb
          have fp0 := Kp.out.facts.1
          have fp1 := Kp.out.facts.2.1
          have fq0 := Kq.out.facts.1
          have fq1 := Kq.out.facts.2.1
          have fu0 := Ku.out.facts.1
          have fu1 := Ku.out.facts.2.1
          have fv0 := Kv.out.facts.1
          have fv1 := Kv.out.facts.2.1
          go_wp2_with fail
          refine (int_any _ r2 _ _ Nv.out (by omega) (by omega) (by omega)).mono ?_
          rintro e w47 ⟨rfl, hb⟩
          clear fp0 fp1 fq0 fq1 fu0 fu1 fv0 fv1
          replace Np := hidden (Np.out.below hb)
          replace Nq := hidden (Nq.out.below hb)
          replace Nu := hidden (Nu.out.below hb)
          replace Nv := hidden (Nv.out.below hb)
          replace Kp := hidden (Kp.out.below hb Kp.out.lt)
          replace Kq := hidden (Kq.out.below hb Kq.out.lt)
          replace Ku := hidden (Ku.out.below hb Ku.out.lt)
          replace Kv := hidden (Kv.out.below hb Kv.out.lt)
          replace HB := hidden (HB.out.trans (hb.mono HB.out.size))
          replace HT := hidden (HT.out.below hb)
          clear hb
          have fp0 := Kp.out.facts.1
          have fp1 := Kp.out.facts.2.1
          have fq0 := Kq.out.facts.1
          have fq1 := Kq.out.facts.2.1
          have fu0 := Ku.out.facts.1
          have fu1 := Ku.out.facts.2.1
          have fv0 := Kv.out.facts.1
          have fv1 := Kv.out.facts.2.1
          have hdm := HDM.out
          obtain ⟨d1, d2⟩ := hdm
          obtain ⟨qy, hqy⟩ : ∃ z, q2 * y = z := ⟨_, rfl⟩
          rw [hqy] at d1 b3 b4
          have d3 : qy + r2 = x := by omega
          clear d1
          have e3 : r2 ≤ 0 := by omega
          have e4 : y < r2 := by omega
          clear d2
          by_cases hr0 : r2 = 0
          · subst hr0
            go_wp2
            go_ret
            exact ⟨rfl, HB.out⟩
          · have e1 : (r2 == 0) = false := beq_eq_false_iff_ne.2 hr0
            have e2 : r2 < 0 := by omega
            clear hr0
            go_wp2
            go_ret
            exact ⟨rfl, HB.out⟩
    · have heq : x = y := by omega
      have hs := sgz_eq heq
      clear heq
      by_cases hy : y = 0
      · have hd : True := trivial
        have hxy0 : xy = 0 := by rw [← hxy, hy]; simp
        subst hxy0
        subst hy
        go_wp2_with fail
        refine (cmp_any _ _ x 0 3 3 _ Np.out Nq.out (by omega) (by omega)).mono ?_
        rintro e w48 ⟨rfl, hb⟩
        rw [hs]
        clear fp0 fp1 fq0 fq1
        replace Np := hidden (Np.out.below hb)
        replace Nq := hidden (Nq.out.below hb)
        replace Kp := hidden (Kp.out.below hb Kp.out.lt)
        replace Kq := hidden (Kq.out.below hb Kq.out.lt)
        replace HB := hidden (HB.out.trans (hb.mono HB.out.size))
        replace HT := hidden (HT.out.below hb)
        clear hb
        have fp0 := Kp.out.facts.1
        have fp1 := Kp.out.facts.2.1
        have fq0 := Kq.out.facts.1
        have fq1 := Kq.out.facts.2.1
        go_wp2_with fail
        refine (div_zero _ _ x 3 3 _ Np.out Nq.out).mono ?_
        rintro e w49 ⟨rfl, hb⟩
        clear fp0 fp1 fq0 fq1
        replace Np := hidden (Np.out.below hb)
        replace Nq := hidden (Nq.out.below hb)
        replace Kp := hidden (Kp.out.below hb Kp.out.lt)
        replace Kq := hidden (Kq.out.below hb Kq.out.lt)
        replace HB := hidden (HB.out.trans (hb.mono HB.out.size))
        replace HT := hidden (HT.out.below hb)
        clear hb
        have fp0 := Kp.out.facts.1
        have fp1 := Kp.out.facts.2.1
        have fq0 := Kq.out.facts.1
        have fq1 := Kq.out.facts.2.1
        have hbw := (Below.refl w49.heap.size w49).alloc (Nat.le_refl _) (.cells #[(.bool false), (.slice none 0 0)] 25)
        clear fp0 fp1 fq0 fq1
        replace Np := hidden (Np.out.below hbw)
        replace Nq := hidden (Nq.out.below hbw)
        replace Kp := hidden (Kp.out.below hbw Kp.out.lt)
        replace Kq := hidden (Kq.out.below hbw Kq.out.lt)
        have Ku := hidden (blk_new w49 (.bool false) (.slice none 0 0))
        replace HB := hidden (HB.out.alloc HB.out.size (.cells #[(.bool false), (.slice none 0 0)] 25))
        replace HT := hidden (HT.out.below hbw)
        clear hbw
        have fp0 := Kp.out.facts.1
        have fp1 := Kp.out.facts.2.1
        have fq0 := Kq.out.facts.1
        have fq1 := Kq.out.facts.2.1
        have fu0 := Ku.out.facts.1
        have fu1 := Ku.out.facts.2.1
        go_wp2_with fail
        generalize w49.alloc (.cells #[(.bool false), (.slice none 0 0)] 25) = w50 at Np Nq Kp Kq Ku HB HT fp0 fp1 fq0 fq1 fu0 fu1 ⊢
        generalize w49.heap.size = iu at Ku fu0 fu1 ⊢
        refine (mod_zero _ _ x 3 3 _ Np.out Nq.out).mono ?_
        rintro e w51 ⟨rfl, hb⟩
        clear fp0 fp1 fq0 fq1 fu0 fu1
        replace Np := hidden (Np.out.below hb)
        replace Nq := hidden (Nq.out.below hb)
        replace Kp := hidden (Kp.out.below hb Kp.out.lt)
        replace Kq := hidden (Kq.out.below hb Kq.out.lt)
        replace Ku := hidden (Ku.out.below hb Ku.out.lt)
        replace HB := hidden (HB.out.trans (hb.mono HB.out.size))
        replace HT := hidden (HT.out.below hb)
        clear hb
        have fp0 := Kp.out.facts.1
        have fp1 := Kp.out.facts.2.1
        have fq0 := Kq.out.facts.1
        have fq1 := Kq.out.facts.2.1
        have fu0 := Ku.out.facts.1
        have fu1 := Ku.out.facts.2.1
        go_wp2
        go_ret
        exact ⟨rfl, HB.out.alloc HB.out.size _⟩
      · have HY := hidden hy
        clear hy
        by_cases hy : 0 < y
        · have hd : True := trivial
          go_wp2_with fail
          refine (cmp_any _ _ x y 3 3 _ Np.out Nq.out (by omega) (by omega)).mono ?_
          rintro e w52 ⟨rfl, hb⟩
          rw [hs]
          clear fp0 fp1 fq0 fq1
          replace Np := hidden (Np.out.below hb)
          replace Nq := hidden (Nq.out.below hb)
          replace Kp := hidden (Kp.out.below hb Kp.out.lt)
          replace Kq := hidden (Kq.out.below hb Kq.out.lt)
          replace HB := hidden (HB.out.trans (hb.mono HB.out.size))
          replace HT := hidden (HT.out.below hb)
          clear hb
          have fp0 := Kp.out.facts.1
          have fp1 := Kp.out.facts.2.1
          have fq0 := Kq.out.facts.1
          have fq1 := Kq.out.facts.2.1
          go_wp2_with fail
          refine (div_any _ _ x y 3 3 _ Np.out Nq.out (by omega) (by omega) HY.out).mono ?_
          rintro e w53 ⟨vu, q, r, rfl, hv, hdm, hb⟩
          have HDM := hidden hdm
          clear hdm
          clear fp0 fp1 fq0 fq1
          replace Np := hidden (Np.out.below hb)
          replace Nq := hidden (Nq.out.below hb)
          replace Kp := hidden (Kp.out.below hb Kp.out.lt)
          replace Kq := hidden (Kq.out.below hb Kq.out.lt)
          replace HB := hidden (HB.out.trans (hb.mono HB.out.size))
          replace HT := hidden (HT.out.below hb)
          clear hb
          have fp0 := Kp.out.facts.1
          have fp1 := Kp.out.facts.2.1
          have fq0 := Kq.out.facts.1
          have fq1 := Kq.out.facts.2.1
          have Nu := hidden hv
          obtain ⟨nu, au, cu, lu, rfl, hrest⟩ := hv
          clear hrest
          have hbw := (Below.refl w53.heap.size w53).alloc (Nat.le_refl _) (.cells #[(.bool nu), (.slice au lu.length cu)] 25)
          clear fp0 fp1 fq0 fq1
          replace Np := hidden (Np.out.below hbw)
          replace Nq := hidden (Nq.out.below hbw)
          replace Nu := hidden (Nu.out.below hbw)
          replace Kp := hidden (Kp.out.below hbw Kp.out.lt)
          replace Kq := hidden (Kq.out.below hbw Kq.out.lt)
          have Ku := hidden (blk_new w53 (.bool nu) (.slice au lu.length cu))
          replace HB := hidden (HB.out.alloc HB.out.size (.cells #[(.bool nu), (.slice au lu.length cu)] 25))
          replace HT := hidden (HT.out.below hbw)
          clear hbw
          have fp0 := Kp.out.facts.1
          have fp1 := Kp.out.facts.2.1
          have fq0 := Kq.out.facts.1
          have fq1 := Kq.out.facts.2.1
          have fu0 := Ku.out.facts.1
          have fu1 := Ku.out.facts.2.1
          go_wp2_with fail
          generalize w53.alloc (.cells #[(.bool nu), (.slice au lu.length cu)] 25) = w54 at Np Nq Nu Kp Kq Ku HB HT fp0 fp1 fq0 fq1 fu0 fu1 ⊢
          generalize w53.heap.size = iu at Ku fu0 fu1 ⊢
          refine (mod_any _ _ x y 3 3 _ Np.out Nq.out (by omega) (by omega) HY.out).mono ?_
          rintro e w55 ⟨vv, q2, r2, rfl, hv, hdm, hb⟩
          obtain ⟨hq2, hr2⟩ := dm_unique hdm HDM.out
          subst hq2 hr2
          clear hdm
          clear fp0 fp1 fq0 fq1 fu0 fu1
          replace Np := hidden (Np.out.below hb)
          replace Nq := hidden (Nq.out.below hb)
          replace Nu := hidden (Nu.out.below hb)
          replace Kp := hidden (Kp.out.below hb Kp.out.lt)
          replace Kq := hidden (Kq.out.below hb Kq.out.lt)
          replace Ku := hidden (Ku.out.below hb Ku.out.lt)
          replace HB := hidden (HB.out.trans (hb.mono HB.out.size))
          replace HT := hidden (HT.out.below hb)
          clear hb
          have fp0 := Kp.out.facts.1
          have fp1 := Kp.out.facts.2.1
          have fq0 := Kq.out.facts.1
          have fq1 := Kq.out.facts.2.1
          have fu0 := Ku.out.facts.1
          have fu1 := Ku.out.facts.2.1
          have Nv := hidden hv
          obtain ⟨nv, av, cv, lv, rfl, hrest⟩ := hv
          clear hrest
          have hbw := (Below.refl w55.heap.size w55).alloc (Nat.le_refl _) (.cells #[(.bool nv), (.slice av lv.length cv)] 25)
          clear fp0 fp1 fq0 fq1 fu0 fu1
          replace Np := hidden (Np.out.below hbw)
          replace Nq := hidden (Nq.out.below hbw)
          replace Nu := hidden (Nu.out.below hbw)
          replace Nv := hidden (Nv.out.below hbw)
          replace Kp := hidden (Kp.out.below hbw Kp.out.lt)
          replace Kq := hidden (Kq.out.below hbw Kq.out.lt)
          replace Ku := hidden (Ku.out.below hbw Ku.out.lt)
          have Kv := hidden (blk_new w55 (.bool nv) (.slice av lv.length cv))
          replace HB := hidden (HB.out.alloc HB.out.size (.cells #[(.bool nv), (.slice av lv.length cv)] 25))
          replace HT := hidden (HT.out.below hbw)
          clear hbw
          have fp0 := Kp.out.facts.1
          have fp1 := Kp.out.facts.2.1
          have fq0 := Kq.out.facts.1
          have fq1 := Kq.out.facts.2.1
          have fu0 := Ku.out.facts.1
          have fu1 := Ku.out.facts.2.1
          have fv0 := Kv.out.facts.1
          have fv1 := Kv.out.facts.2.1
          obtain ⟨b1, b2, b3, b4, b5, b6⟩ := dm_bound HDM.out ⟨hx0, hx1⟩ ⟨hy0, hy1⟩
          go_wp2_with fail
          generalize w55.alloc (.cells #[(.bool nv), (.slice av lv.length cv)] 25) = w56 at Np Nq Nu Nv Kp Kq Ku Kv HB HT fp0 fp1 fq0 fq1 fu0 fu1 fv0 fv1 ⊢
          generalize w55.heap.size = iv at Kv fv0 fv1 ⊢
          refine (int_any _ q2 _ _ Nu.out (by omega) (by omega) (by omega)).mono ?_
          rintro e w57 ⟨rfl, hb⟩
          clear fp0 fp1 fq0 fq1 fu0 fu1 fv0 fv1
          replace Np := hidden (Np.out.below hb)
          replace Nq := hidden (Nq.out.below hb)
          replace Nu := hidden (Nu.out.below hb)
          replace Nv := hidden (Nv.out.below hb)
          replace Kp := hidden (Kp.out.below hb Kp.out.lt)
          replace Kq := hidden (Kq.out.below hb Kq.out.lt)
          replace Ku := hidden (Ku.out.below hb Ku.out.lt)
          replace Kv := hidden (Kv.out.below hb Kv.out.lt)
          replace HB := hidden (HB.out.trans (hb.mono HB.out.size))
          replace HT := hidden (HT.out.below hb)
          clear hb
          have fp0 := Kp.out.facts.1
          have fp1 := Kp.out.facts.2.1
          have fq0 := Kq.out.facts.1
          have fq1 := Kq.out.facts.2.1
          have fu0 := Ku.out.facts.1
          have fu1 := Ku.out.facts.2.1
          have fv0 := Kv.out.facts.1
          have fv1 := Kv.out.facts.2.1
          go_wp2_with fail
          refine (int_any _ r2 _ _ Nv.out (by omega) (by omega) (by omega)).mono ?_
          rintro e w58 ⟨rfl, hb⟩
          clear fp0 fp1 fq0 fq1 fu0 fu1 fv0 fv1
          replace Np := hidden (Np.out.below hb)
          replace Nq := hidden (Nq.out.below hb)
          replace Nu := hidden (Nu.out.below hb)
          replace Nv := hidden (Nv.out.below hb)
          replace Kp := hidden (Kp.out.below hb Kp.out.lt)
          replace Kq := hidden (Kq.out.below hb Kq.out.lt)
          replace Ku := hidden (Ku.out.below hb Ku.out.lt)
          replace Kv := hidden (Kv.out.below hb Kv.out.lt)
          replace HB := hidden (HB.out.trans (hb.mono HB.out.size))
          replace HT := hidden (HT.out.below hb)
          clear hb
          have fp0 := Kp.out.facts.1
          have fp1 := Kp.out.facts.2.1
          have fq0 := Kq.out.facts.1
          have fq1 := Kq.out.facts.2.1
          have fu0 := Ku.out.facts.1
          have fu1 := Ku.out.facts.2.1
          have fv0 := Kv.out.facts.1
          have fv1 := Kv.out.facts.2.1
          have hdm := HDM.out
          obtain ⟨d1, d2⟩ := hdm
          obtain ⟨qy, hqy⟩ : ∃ z, q2 * y = z := ⟨_, rfl⟩
          rw [hqy] at d1 b3 b4
          have d3 : qy + r2 = x := by omega
          clear d1
          have e3 : 0 ≤ r2 := by omega
          have e4 : r2 < y := by omega
          clear d2
          by_cases hr0 : r2 = 0
          · subst hr0
            go_wp2
            go_ret
            exact ⟨rfl, HB.out⟩
          · have e1 : (r2 == 0) = false := beq_eq_false_iff_ne.2 hr0
            have e2 : 0 < r2 := by omega
            clear hr0
            go_wp2
            go_ret
            exact ⟨rfl, HB.out⟩
        · have hyn : y < 0 := by have := HY.out; omega
          clear hy
          go_wp2_with fail
          refine (cmp_any _ _ x y 3 3 _ Np.out Nq.out (by omega) (by omega)).mono ?_
          rintro e w59 ⟨rfl, hb⟩
          rw [hs]
          clear fp0 fp1 fq0 fq1
          replace Np := hidden (Np.out.below hb)
          replace Nq := hidden (Nq.out.below hb)
          replace Kp := hidden (Kp.out.below hb Kp.out.lt)
          replace Kq := hidden (Kq.out.below hb Kq.out.lt)
          replace HB := hidden (HB.out.trans (hb.mono HB.out.size))
          replace HT := hidden (HT.out.below hb)
          clear hb
          have fp0 := Kp.out.facts.1
          have fp1 := Kp.out.facts.2.1
          have fq0 := Kq.out.facts.1
          have fq1 := Kq.out.facts.2.1
          go_wp2_with fail
          refine (div_any _ _ x y 3 3 _ Np.out Nq.out (by omega) (by omega) HY.out).mono ?_
          rintro e w60 ⟨vu, q, r, rfl, hv, hdm, hb⟩
          have HDM := hidden hdm
          clear hdm
          clear fp0 fp1 fq0 fq1
          replace Np := hidden (Np.out.below hb)
          replace Nq := hidden (Nq.out.below hb)
          replace Kp := hidden (Kp.out.below hb Kp.out.lt)
          replace Kq := hidden (Kq.out.below hb Kq.out.lt)
          replace HB := hidden (HB.out.trans (hb.mono HB.out.size))
          replace HT := hidden (HT.out.below hb)
          clear hb
          have fp0 := Kp.out.facts.1
          have fp1 := Kp.out.facts.2.1
          have fq0 := Kq.out.facts.1
          have fq1 := Kq.out.facts.2.1
          have Nu := hidden hv
          obtain ⟨nu, au, cu, lu, rfl, hrest⟩ := hv
          clear hrest
          have hbw := (Below.refl w60.heap.size w60).alloc (Nat.le_refl _) (.cells #[(.bool nu), (.slice au lu.length cu)] 25)
          clear fp0 fp1 fq0 fq1
          replace Np := hidden (Np.out.below hbw)
          replace Nq := hidden (Nq.out.below hbw)
          replace Nu := hidden (Nu.out.below hbw)
          replace Kp := hidden (Kp.out.below hbw Kp.out.lt)
          replace Kq := hidden (Kq.out.below hbw Kq.out.lt)
          have Ku := hidden (blk_new w60 (.bool nu) (.slice au lu.length cu))
          replace HB := hidden (HB.out.alloc HB.out.size (.cells #[(.bool nu), (.slice au lu.length cu)] 25))
          replace HT := hidden (HT.out.below hbw)
          clear hbw
          have fp0 := Kp.out.facts.1
          have fp1 := Kp.out.facts.2.1
          have fq0 := Kq.out.facts.1
          have fq1 := Kq.out.facts.2.1
          have fu0 := Ku.out.facts.1
          have fu1 := Ku.out.facts.2.1
          go_wp2_with fail
          generalize w60.alloc (.cells #[(.bool nu), (.slice au lu.length cu)] 25) = w61 at Np Nq Nu Kp Kq Ku HB HT fp0 fp1 fq0 fq1 fu0 fu1 ⊢
          generalize w60.heap.size = iu at Ku fu0 fu1 ⊢
          refine (mod_any _ _ x y 3 3 _ Np.out Nq.out (by omega) (by omega) HY.out).mono ?_
          rintro e w62 ⟨vv, q2, r2, rfl, hv, hdm, hb⟩
          obtain ⟨hq2, hr2⟩ := dm_unique hdm HDM.out
          subst hq2 hr2
          clear hdm
          clear fp0 fp1 fq0 fq1 fu0 fu1
          replace Np := hidden (Np.out.below hb)
          replace Nq := hidden (Nq.out.below hb)
          replace Nu := hidden (Nu.out.below hb)
          replace Kp := hidden (Kp.out.below hb Kp.out.lt)
          replace Kq := hidden (Kq.out.below hb Kq.out.lt)
          replace Ku := hidden (Ku.out.below hb Ku.out.lt)
          replace HB := hidden (HB.out.trans (hb.mono HB.out.size))
          replace HT := hidden (HT.out.below hb)
          clear hb
          have fp0 := Kp.out.facts.1
          have fp1 := Kp.out.facts.2.1
          have fq0 := Kq.out.facts.1
          have fq1 := Kq.out.facts.2.1
          have fu0 := Ku.out.facts.1
          have fu1 := Ku.out.facts.2.1
          have Nv := hidden hv
          obtain ⟨nv, av, cv, lv, rfl, hrest⟩ := hv
          clear hrest
          have hbw := (Below.refl w62.heap.size w62).alloc (Nat.le_refl _) (.cells #[(.bool nv), (.slice av lv.length cv)] 25)
          clear fp0 fp1 fq0 fq1 fu0 fu1
          replace Np := hidden (Np.out.below hbw)
          replace Nq := hidden (Nq.out.below hbw)
          replace Nu := hidden (Nu.out.below hbw)
          replace Nv := hidden (Nv.out.below hbw)
          replace Kp := hidden (Kp.out.below hbw Kp.out.lt)
          replace Kq := hidden (Kq.out.below hbw Kq.out.lt)
          replace Ku := hidden (Ku.out.below hbw Ku.out.lt)
          have Kv := hidden (blk_new w62 (.bool nv) (.slice av lv.length cv))
          replace HB := hidden (HB.out.alloc HB.out.size (.cells #[(.bool nv), (.slice av lv.length cv)] 25))
          replace HT := hidden (HT.out.below hbw)
          clear hbw
          have fp0 := Kp.out.facts.1
          have fp1 := Kp.out.facts.2.1
          have fq0 := Kq.out.facts.1
          have fq1 := Kq.out.facts.2.1
          have fu0 := Ku.out.facts.1
          have fu1 := Ku.out.facts.2.1
          have fv0 := Kv.out.facts.1
          have fv1 := Kv.out.facts.2.1
          obtain ⟨b1, b2, b3, b4, b5, b6⟩ := dm_bound HDM.out ⟨hx0, hx1⟩ ⟨hy0, hy1⟩
          go_wp2_with fail
          generalize w62.alloc (.cells #[(.bool nv), (.slice av lv.length cv)] 25) = w63 at Np Nq Nu Nv Kp Kq Ku Kv HB HT fp0 fp1 fq0 fq1 fu0 fu1 fv0 fv1 ⊢
          generalize w62.heap.size = iv at Kv fv0 fv1 ⊢
          refine (int_any _ q2 _ _ Nu.out (by omega) (by omega) (by omega)).mono ?_
          rintro e w64 ⟨rfl, hb⟩
          clear fp0 fp1 fq0 fq1 fu0 fu1 fv0 fv1
          replace Np := hidden (Np.out.below hb)
          replace Nq := hidden (Nq.out.below hb)
          replace Nu := hidden (Nu.out.below hb)
          replace Nv := hidden (Nv.out.below hb)
          replace Kp := hidden (Kp.out.below hb Kp.out.lt)
          replace Kq := hidden (Kq.out.below hb Kq.out.lt)
          replace Ku := hidden (Ku.out.below hb Ku.out.lt)
          replace Kv := hidden (Kv.out.below hb Kv.out.lt)
          replace HB := hidden (HB.out.trans (hb.mono HB.out.size))
          replace HT := hidden (HT.out.below hb)
          clear hb
          have fp0 := Kp.out.facts.1
          have fp1 := Kp.out.facts.2.1
          have fq0 := Kq.out.facts.1
          have fq1 := Kq.out.facts.2.1
          have fu0 := Ku.out.facts.1
          have fu1 := Ku.out.facts.2.1
          have fv0 := Kv.out.facts.1
          have fv1 := Kv.out.facts.2.1
          go_wp2_with fail
          refine (int_any _ r2 _ _ Nv.out (by omega) (by omega) (by omega)).mono ?_
          rintro e w65 ⟨rfl, hb⟩
          clear fp0 fp1 fq0 fq1 fu0 fu1 fv0 fv1
          replace Np := hidden (Np.out.below hb)
          replace Nq := hidden (Nq.out.below hb)
          replace Nu := hidden (Nu.out.below hb)
          replace Nv := hidden (Nv.out.below hb)
          replace Kp := hidden (Kp.out.below hb Kp.out.lt)
          replace Kq := hidden (Kq.out.below hb Kq.out.lt)
          replace Ku := hidden (Ku.out.below hb Ku.out.lt)
          replace Kv := hidden (Kv.out.below hb Kv.out.lt)
          replace HB := hidden (HB.out.trans (hb.mono HB.out.size))
          replace HT := hidden (HT.out.below hb)
          clear hb
          have fp0 := Kp.out.facts.1
          have fp1 := Kp.out.facts.2.1
          have fq0 := Kq.out.facts.1
          have fq1 := Kq.out.facts.2.1
          have fu0 := Ku.out.facts.1
          have fu1 := Ku.out.facts.2.1
          have fv0 := Kv.out.facts.1
          have fv1 := Kv.out.facts.2.1
          have hdm := HDM.out
          obtain ⟨d1, d2⟩ := hdm
          obtain ⟨qy, hqy⟩ : ∃ z, q2 * y = z := ⟨_, rfl⟩
          rw [hqy] at d1 b3 b4
          have d3 : qy + r2 = x := by omega
          clear d1
          have e3 : r2 ≤ 0 := by omega
          have e4 : y < r2 := by omega
          clear d2
          by_cases hr0 : r2 = 0
          · subst hr0
            go_wp2
            go_ret
            exact ⟨rfl, HB.out⟩
          · have e1 : (r2 == 0) = false := beq_eq_false_iff_ne.2 hr0
            have e2 : r2 < 0 := by omega
            clear hr0
            go_wp2
            go_ret
            exact ⟨rfl, HB.out⟩
end Nm
end Go.Proofs.YtbjpohlpahmkkaaDoor
