/- Num's Int, where it is none. Conditions: a Num beyond the bounds of int64. -/
import Derived.Test.YtapdkibiegeijaaDoorNumI
import Derived.Deep.Cut
namespace Go.Proofs.YtapdkibiegeijaaDoor
open Go.RowKit Go.Shelf
attribute [local go_sem] Oper.semAt_some
namespace Nm

set_option maxRecDepth 100000 in
set_option maxHeartbeats 3200000 in
theorem int_low (a : Value) (z : Int) (k : Nat) (w : World) (h : NumAt w a z k) (hlim : k < 100000000) (h0 : z < -9223372036854775808) :
    CallsIn Fence.wide 9 Tryd.prog 17 #[a] w fun e w' => e = .returned (.tuple #[.int .i64 0, .bool false]) ∧ Below w.heap.size w w' := by
  have hN := h
  obtain ⟨neg, ao, cap, l, rfl, hc, hs, hd, ht, hl, hp, hzz⟩ := h
  obtain ⟨n, hn⟩ : ∃ n, l.length = n := ⟨_, rfl⟩
  rw [hn] at hN hl ⊢
  obtain ⟨lo, hlo⟩ : ∃ lo : Int, lo = -9223372036854775808 := ⟨_, rfl⟩
  obtain ⟨hi, hhi⟩ : ∃ hi : Int, hi = 9223372036854775807 := ⟨_, rfl⟩
  have hof1 := fun W => of_any (-9223372036854775808) W (by omega) (by omega)
  have hof2 := fun W => of_any 9223372036854775807 W (by omega) (by omega)
  obtain ⟨z1, hz1⟩ : ∃ z1, sgz z lo = z1 := ⟨_, rfl⟩
  obtain ⟨z2, hz2⟩ : ∃ z1, sgz z hi = z1 := ⟨_, rfl⟩
  have hp1 : z1 < (0 : Int) := by
    rw [← hz1, sgz_lt (by omega)]; omega
  rw [← hlo] at hof1
  rw [← hhi] at hof2
  have HOF1 := hidden (fun W => (show Calls Tryd.prog 31 #[.int .i64 (-9223372036854775808)] W fun e w' => IsNum W w' e lo 3 from by rw [← hlo]; exact hof1 W))
  have HOF2 := hidden (fun W => (show Calls Tryd.prog 31 #[.int .i64 9223372036854775807] W fun e w' => IsNum W w' e hi 3 from by rw [← hhi]; exact hof2 W))
  have HCM := hidden (fun W v y (h1 : NumAt W (.agg #[.bool neg, .slice ao n cap]) z k) (h2 : NumAt W v y 3) => cmp_any _ v z y k 3 W h1 h2 (by omega) (by omega))
  have HZ1 := hidden hz1
  have HZ2 := hidden hz2
  have HLN := hidden hn
  have HS := hidden hs
  have HD := hidden hd
  have HN := hidden hN
  have HZZ := hidden hzz
  have ha3 := (blk_new w (.bool neg) (.slice ao n cap))
  have hb3 := (Below.refl w.heap.size w).alloc (Nat.le_refl _) (.cells #[.bool neg, .slice ao n cap] 25)
  have HA := hidden ha3
  have HB := hidden hb3
  clear hof1 hof2 hz1 hz2 hn hs hN ha3 hb3 hlo hhi h0 hd ht hp hzz
  refine callsIn_of_wp_marks Tryd.func17 rfl trivial (wpIn_wide.2 ?_) rfl
  simp only [Tryd.ntmps17, List.size_toArray, List.length_cons, List.length_nil, Nat.reduceAdd, Nat.reduceSub, Array.replicate_succ, Array.replicate_zero, List.push_toArray, List.append_toArray, List.nil_append, List.cons_append]
  go_upto_region 1 with fail
  have hz0 : w.heap.size + 1 ≤ (w.alloc (.cells #[.bool neg, .slice ao n cap] 25)).heap.size := by simp
  generalize w.alloc (.cells #[.bool neg, .slice ao n cap] 25) = Wg at HA HB hz0 ⊢
  have HC6 := hidden (fun W' (h : Below (w.heap.size + 1) Wg W') => (show W'.cell? ⟨w.heap.size, 0, none⟩ = some (.bool neg) ∧ W'.cell? ⟨w.heap.size, 1, none⟩ = some (.slice ao n cap) ∧ True ∧ True ∧ True ∧ True from
      ⟨(HA.out.below h (by omega)).facts.1, (HA.out.below h (by omega)).facts.2.1, trivial, trivial, trivial, trivial⟩))
  refine wp_region_noPanic ?_
  refine wp_region_held_drew (S := fun W => Below (w.heap.size + 1) Wg W) (by kernel_rfl) (Below.refl _ _).drew (fun hH0 => ?_)
  refine take_val' (i := 0) (v := (.agg #[.bool neg, .slice ao n cap])) rfl (by kernel_rfl) (by kernel_rfl) (by kernel_rfl) (some 7) rfl (fun _ _ _ h => h) (Or.inl ⟨by rfl, fun W hW => by obtain ⟨k0, k1, k2, k3, k4, k5⟩ := HC6.out W hW; go_simp⟩) hH0 ?_
  try simp only [Act.put, List.setIfInBounds_toArray, List.set_cons_zero, List.set_cons_succ]
  refine wpAnyH_ready (rs := [1]) (by kernel_rfl) (by simp) ?_
  refine AllReadyH.cons rfl (fun K hK => ?_) AllReadyH.nil
  go_simp
  refine (HOF1.out _).mono ?_
  rintro e w1 ⟨v1, rfl, hv1, hb1⟩
  have hB1 := hidden (show Below (w.heap.size + 1) Wg w1 from ((Below.refl _ _).drew).trans (hb1.mono hz0))
  have HV1 := hidden hv1
  clear hv1 hb1
  refine hK.out _ _ (hB1.out) (fun hH1 => ?_)
  clear hK K
  try simp only [Act.put, List.setIfInBounds_toArray, List.set_cons_zero, List.set_cons_succ]
  refine wpAnyH_ready (rs := [2]) (by kernel_rfl) (by simp) ?_
  refine AllReadyH.cons rfl (fun K hK => ?_) AllReadyH.nil
  go_simp
  refine (HCM.out _ v1 lo (HN.out.below (HB.out.trans (hB1.out.mono (by omega)))) HV1.out).mono ?_
  rintro e w2 ⟨rfl, hb2⟩
  rw [HZ1.out]
  have hB2 := hidden (show Below (w.heap.size + 1) Wg w2 from hB1.out.trans (hb2.mono (Nat.le_trans hz0 hB1.out.size)))
  clear hb2
  refine hK.out _ _ (hB2.out) (fun hH2 => ?_)
  clear hK K
  try simp only [Act.put, List.setIfInBounds_toArray, List.set_cons_zero, List.set_cons_succ]
  refine take_val' (i := 3) (v := (.bool true)) rfl (by kernel_rfl) (by kernel_rfl) (by kernel_rfl) (some 10) rfl (fun _ _ _ h => h) (Or.inl ⟨by rfl, fun W hW => by go_simp⟩) hH2 ?_
  try simp only [Act.put, List.setIfInBounds_toArray, List.set_cons_zero, List.set_cons_succ]
  refine take_val' (i := 4) (v := (.bool true)) rfl (by kernel_rfl) (by kernel_rfl) (by kernel_rfl) (some 11) rfl (fun _ _ _ h => h) (Or.inl ⟨by rfl, fun W hW => by go_simp⟩) hH2 ?_
  try simp only [Act.put, List.setIfInBounds_toArray, List.set_cons_zero, List.set_cons_succ]
  refine take_val' (i := 5) (v := undef) rfl (by kernel_rfl) (by kernel_rfl) (by kernel_rfl) (some 12) rfl (fun _ _ _ h => h) (Or.inr ⟨by rfl, rfl⟩) hH2 ?_
  try simp only [Act.put, List.setIfInBounds_toArray, List.set_cons_zero, List.set_cons_succ]
  refine take_val' (i := 6) (v := undef) rfl (by kernel_rfl) (by kernel_rfl) (by kernel_rfl) (some 13) rfl (fun _ _ _ h => h) (Or.inr ⟨by rfl, rfl⟩) hH2 ?_
  try simp only [Act.put, List.setIfInBounds_toArray, List.set_cons_zero, List.set_cons_succ]
  refine take_val' (i := 7) (v := undef) rfl (by kernel_rfl) (by kernel_rfl) (by kernel_rfl) (some 14) rfl (fun _ _ _ h => h) (Or.inr ⟨by rfl, rfl⟩) hH2 ?_
  try simp only [Act.put, List.setIfInBounds_toArray, List.set_cons_zero, List.set_cons_succ]
  refine take_val' (i := 8) (v := undef) rfl (by kernel_rfl) (by kernel_rfl) (by kernel_rfl) (some 15) rfl (fun _ _ _ h => h) (Or.inr ⟨by rfl, rfl⟩) hH2 ?_
  try simp only [Act.put, List.setIfInBounds_toArray, List.set_cons_zero, List.set_cons_succ]
  refine take_val' (i := 9) (v := (.bool true)) rfl (by kernel_rfl) (by kernel_rfl) (by kernel_rfl) (some 16) rfl (fun _ _ _ h => h) (Or.inl ⟨by rfl, fun W hW => by go_simp⟩) hH2 ?_
  try simp only [Act.put, List.setIfInBounds_toArray, List.set_cons_zero, List.set_cons_succ]
  refine wpAnyH_done (by kernel_rfl) ?_ _
  refine NoPanic.normal ?_
  go_wp2
  exact ⟨.tuple #[.int .i64 0, .bool false], by simp [results, Tryd.results17, go_sem], rfl, HB.out.trans (hB2.out.mono (show w.heap.size ≤ w.heap.size + 1 by omega))⟩
set_option maxRecDepth 100000 in
set_option maxHeartbeats 3200000 in
theorem int_high (a : Value) (z : Int) (k : Nat) (w : World) (h : NumAt w a z k) (hlim : k < 100000000) (h0 : 9223372036854775807 < z) :
    CallsIn Fence.wide 9 Tryd.prog 17 #[a] w fun e w' => e = .returned (.tuple #[.int .i64 0, .bool false]) ∧ Below w.heap.size w w' := by
  have hN := h
  obtain ⟨neg, ao, cap, l, rfl, hc, hs, hd, ht, hl, hp, hzz⟩ := h
  obtain ⟨n, hn⟩ : ∃ n, l.length = n := ⟨_, rfl⟩
  rw [hn] at hN hl ⊢
  obtain ⟨lo, hlo⟩ : ∃ lo : Int, lo = -9223372036854775808 := ⟨_, rfl⟩
  obtain ⟨hi, hhi⟩ : ∃ hi : Int, hi = 9223372036854775807 := ⟨_, rfl⟩
  have hof1 := fun W => of_any (-9223372036854775808) W (by omega) (by omega)
  have hof2 := fun W => of_any 9223372036854775807 W (by omega) (by omega)
  obtain ⟨z1, hz1⟩ : ∃ z1, sgz z lo = z1 := ⟨_, rfl⟩
  obtain ⟨z2, hz2⟩ : ∃ z1, sgz z hi = z1 := ⟨_, rfl⟩
  have hp1 : (0 : Int) ≤ z1 := by
    rw [← hz1]
    by_cases h : lo < z
    · rw [sgz_gt h]; omega
    · rw [sgz_eq (by omega)]; omega
  have hp2 : (0 : Int) < z2 := by
    rw [← hz2, sgz_gt (by omega)]; omega
  rw [← hlo] at hof1
  rw [← hhi] at hof2
  have HOF1 := hidden (fun W => (show Calls Tryd.prog 31 #[.int .i64 (-9223372036854775808)] W fun e w' => IsNum W w' e lo 3 from by rw [← hlo]; exact hof1 W))
  have HOF2 := hidden (fun W => (show Calls Tryd.prog 31 #[.int .i64 9223372036854775807] W fun e w' => IsNum W w' e hi 3 from by rw [← hhi]; exact hof2 W))
  have HCM := hidden (fun W v y (h1 : NumAt W (.agg #[.bool neg, .slice ao n cap]) z k) (h2 : NumAt W v y 3) => cmp_any _ v z y k 3 W h1 h2 (by omega) (by omega))
  have HZ1 := hidden hz1
  have HZ2 := hidden hz2
  have HLN := hidden hn
  have HS := hidden hs
  have HD := hidden hd
  have HN := hidden hN
  have HZZ := hidden hzz
  have ha3 := (blk_new w (.bool neg) (.slice ao n cap))
  have hb3 := (Below.refl w.heap.size w).alloc (Nat.le_refl _) (.cells #[.bool neg, .slice ao n cap] 25)
  have HA := hidden ha3
  have HB := hidden hb3
  clear hof1 hof2 hz1 hz2 hn hs hN ha3 hb3 hlo hhi h0 hd ht hp hzz
  refine callsIn_of_wp_marks Tryd.func17 rfl trivial (wpIn_wide.2 ?_) rfl
  simp only [Tryd.ntmps17, List.size_toArray, List.length_cons, List.length_nil, Nat.reduceAdd, Nat.reduceSub, Array.replicate_succ, Array.replicate_zero, List.push_toArray, List.append_toArray, List.nil_append, List.cons_append]
  go_upto_region 1 with fail
  have hz0 : w.heap.size + 1 ≤ (w.alloc (.cells #[.bool neg, .slice ao n cap] 25)).heap.size := by simp
  generalize w.alloc (.cells #[.bool neg, .slice ao n cap] 25) = Wg at HA HB hz0 ⊢
  have HC6 := hidden (fun W' (h : Below (w.heap.size + 1) Wg W') => (show W'.cell? ⟨w.heap.size, 0, none⟩ = some (.bool neg) ∧ W'.cell? ⟨w.heap.size, 1, none⟩ = some (.slice ao n cap) ∧ True ∧ True ∧ True ∧ True from
      ⟨(HA.out.below h (by omega)).facts.1, (HA.out.below h (by omega)).facts.2.1, trivial, trivial, trivial, trivial⟩))
  refine wp_region_noPanic ?_
  refine wp_region_held_drew (S := fun W => Below (w.heap.size + 1) Wg W) (by kernel_rfl) (Below.refl _ _).drew (fun hH0 => ?_)
  refine take_val' (i := 0) (v := (.agg #[.bool neg, .slice ao n cap])) rfl (by kernel_rfl) (by kernel_rfl) (by kernel_rfl) (some 7) rfl (fun _ _ _ h => h) (Or.inl ⟨by rfl, fun W hW => by obtain ⟨k0, k1, k2, k3, k4, k5⟩ := HC6.out W hW; go_simp⟩) hH0 ?_
  try simp only [Act.put, List.setIfInBounds_toArray, List.set_cons_zero, List.set_cons_succ]
  refine wpAnyH_ready (rs := [1]) (by kernel_rfl) (by simp) ?_
  refine AllReadyH.cons rfl (fun K hK => ?_) AllReadyH.nil
  go_simp
  refine (HOF1.out _).mono ?_
  rintro e w1 ⟨v1, rfl, hv1, hb1⟩
  have hB1 := hidden (show Below (w.heap.size + 1) Wg w1 from ((Below.refl _ _).drew).trans (hb1.mono hz0))
  have HV1 := hidden hv1
  clear hv1 hb1
  refine hK.out _ _ (hB1.out) (fun hH1 => ?_)
  clear hK K
  try simp only [Act.put, List.setIfInBounds_toArray, List.set_cons_zero, List.set_cons_succ]
  refine wpAnyH_ready (rs := [2]) (by kernel_rfl) (by simp) ?_
  refine AllReadyH.cons rfl (fun K hK => ?_) AllReadyH.nil
  go_simp
  refine (HCM.out _ v1 lo (HN.out.below (HB.out.trans (hB1.out.mono (by omega)))) HV1.out).mono ?_
  rintro e w2 ⟨rfl, hb2⟩
  rw [HZ1.out]
  have hB2 := hidden (show Below (w.heap.size + 1) Wg w2 from hB1.out.trans (hb2.mono (Nat.le_trans hz0 hB1.out.size)))
  clear hb2
  refine hK.out _ _ (hB2.out) (fun hH2 => ?_)
  clear hK K
  try simp only [Act.put, List.setIfInBounds_toArray, List.set_cons_zero, List.set_cons_succ]
  refine take_val' (i := 3) (v := (.bool false)) rfl (by kernel_rfl) (by kernel_rfl) (by kernel_rfl) (some 10) rfl (fun _ _ _ h => h) (Or.inl ⟨by rfl, fun W hW => by go_simp⟩) hH2 ?_
  try simp only [Act.put, List.setIfInBounds_toArray, List.set_cons_zero, List.set_cons_succ]
  refine take_val' (i := 4) (v := (.bool false)) rfl (by kernel_rfl) (by kernel_rfl) (by kernel_rfl) (some 11) rfl (fun _ _ _ h => h) (Or.inl ⟨by rfl, fun W hW => by go_simp⟩) hH2 ?_
  try simp only [Act.put, List.setIfInBounds_toArray, List.set_cons_zero, List.set_cons_succ]
  refine take_val' (i := 5) (v := (.agg #[.bool neg, .slice ao n cap])) rfl (by kernel_rfl) (by kernel_rfl) (by kernel_rfl) (some 12) rfl (fun _ _ _ h => h) (Or.inl ⟨by rfl, fun W hW => by obtain ⟨k0, k1, k2, k3, k4, k5⟩ := HC6.out W hW; go_simp⟩) hH2 ?_
  try simp only [Act.put, List.setIfInBounds_toArray, List.set_cons_zero, List.set_cons_succ]
  refine wpAnyH_ready (rs := [6]) (by kernel_rfl) (by simp) ?_
  refine AllReadyH.cons rfl (fun K hK => ?_) AllReadyH.nil
  go_simp
  refine (HOF2.out _).mono ?_
  rintro e w3 ⟨v3, rfl, hv3, hb3⟩
  have hB3 := hidden (show Below (w.heap.size + 1) Wg w3 from hB2.out.trans (hb3.mono (Nat.le_trans hz0 hB2.out.size)))
  have HV3 := hidden hv3
  clear hv3 hb3
  refine hK.out _ _ (hB3.out) (fun hH3 => ?_)
  clear hK K
  try simp only [Act.put, List.setIfInBounds_toArray, List.set_cons_zero, List.set_cons_succ]
  refine wpAnyH_ready (rs := [7]) (by kernel_rfl) (by simp) ?_
  refine AllReadyH.cons rfl (fun K hK => ?_) AllReadyH.nil
  go_simp
  refine (HCM.out _ v3 hi (HN.out.below (HB.out.trans (hB3.out.mono (by omega)))) HV3.out).mono ?_
  rintro e w4 ⟨rfl, hb4⟩
  rw [HZ2.out]
  have hB4 := hidden (show Below (w.heap.size + 1) Wg w4 from hB3.out.trans (hb4.mono (Nat.le_trans hz0 hB3.out.size)))
  clear hb4
  refine hK.out _ _ (hB4.out) (fun hH4 => ?_)
  clear hK K
  try simp only [Act.put, List.setIfInBounds_toArray, List.set_cons_zero, List.set_cons_succ]
  refine take_val' (i := 8) (v := (.bool true)) rfl (by kernel_rfl) (by kernel_rfl) (by kernel_rfl) (some 15) rfl (fun _ _ _ h => h) (Or.inl ⟨by rfl, fun W hW => by go_simp⟩) hH4 ?_
  try simp only [Act.put, List.setIfInBounds_toArray, List.set_cons_zero, List.set_cons_succ]
  refine take_val' (i := 9) (v := (.bool true)) rfl (by kernel_rfl) (by kernel_rfl) (by kernel_rfl) (some 16) rfl (fun _ _ _ h => h) (Or.inl ⟨by rfl, fun W hW => by go_simp⟩) hH4 ?_
  try simp only [Act.put, List.setIfInBounds_toArray, List.set_cons_zero, List.set_cons_succ]
  refine wpAnyH_done (by kernel_rfl) ?_ _
  refine NoPanic.normal ?_
  go_wp2
  exact ⟨.tuple #[.int .i64 0, .bool false], by simp [results, Tryd.results17, go_sem], rfl, HB.out.trans (hB4.out.mono (show w.heap.size ≤ w.heap.size + 1 by omega))⟩
end Nm
end Go.Proofs.YtapdkibiegeijaaDoor
