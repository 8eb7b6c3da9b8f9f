/- The document's Digits and Int. Conditions: short numbers. -/
import Derived.Test.YtapdkibiegeijaaDoorRvH
import Derived.Test.YtapdkibiegeijaaDoorRvE
import Derived.Test.YtapdkibiegeijaaDoorNumDg
import Derived.Deep.Cut
import Derived.Test.YtapdkibiegeijaaDoorTake
namespace Go.Proofs.YtapdkibiegeijaaDoor
open Go.RowKit
namespace Rv
open Go.Proofs.YtapdkibiegeijaaDoor.Nm (txt digs)
open Go.Lib


set_option maxHeartbeats 3200000 in
theorem digits_any (v : Value) (z : Int) (k : Nat) (w : World) (h : NumAt w v z k) (hk : k < 1000000) (hz : (txt z).length < 4000000) :
    Calls Tryd.prog 30 #[v] w fun e w' => e = .returned (.int .i64 (digs z)) ∧ Below w.heap.size w w' := by
  have hN := h
  obtain ⟨neg, ao, cap, l, rfl, hc, hs, hd, ht, hl, hp, hzz⟩ := h
  have hpos := fun e : neg = true => val_pos ht (hp e)
  obtain ⟨n, hn⟩ : ∃ n, l.length = n := ⟨_, rfl⟩
  rw [hn] at hN ⊢
  have hal := (Below.refl w.heap.size w).alloc (Nat.le_refl _) (.cells #[.bool neg, .slice ao n cap] 28)
  have HB := hidden (blk_new w (.bool neg) (.slice ao n cap))
  have HT := hidden (text_any _ z k _ (hN.below hal) hk)
  have HAL := hidden hal
  have hdg : (txt z).length = (if neg = true then 1 else 0) + digs z := by
    unfold txt digs
    cases neg
    · rw [if_neg (by rw [hzz]; simp [sgnv])]
      simp [Nm.nD_len]
    · have := hpos rfl
      rw [if_pos (by rw [hzz]; simp [sgnv]; omega)]
      simp [Nm.nD_len, Nat.add_comm]
  obtain ⟨B, hB⟩ : ∃ B : ByteArray, ⟨(txt z).toArray⟩ = B := ⟨_, rfl⟩
  have hBs : B.size = (txt z).length := by rw [← hB]; rfl
  rw [hB] at HT
  obtain ⟨d, hd2⟩ : ∃ d, digs z = d := ⟨_, rfl⟩
  rw [hd2] at hdg ⊢
  rw [hdg] at hBs hz
  clear hN hs hd ht hp hzz hpos hn hal hB hdg hd2
  go_enter Tryd.func30, Tryd.ntmps30
  obtain ⟨f0, f1, _, _⟩ := HB.out.facts
  go_wp2_with fail
  refine HT.out.mono ?_
  rintro e w2 ⟨rfl, hb2⟩
  obtain ⟨g0, g1, _, _⟩ := (HB.out.below hb2 (by simp)).facts
  have HW := hidden (HAL.out.trans (hb2.mono (by simp)))
  cases neg
  · rw [if_neg (by simp)] at hBs hz
    go_wp2
    go_ret
    exact ⟨by go_num, HW.out⟩
  · rw [if_pos rfl] at hBs hz
    go_wp2
    go_ret
    exact ⟨by go_num, HW.out⟩
set_option maxRecDepth 100000 in
set_option maxHeartbeats 3200000 in
theorem int_low (a : Value) (z : Int) (k : Nat) (w : World) (h : NumAt w a z k) (hlim : k < 1000000) (h0 : z < -9223372036854775808) :
    Calls Tryd.prog 18 #[a] w fun e w' => e = .returned (.tuple #[.int .i64 0, .bool false]) ∧ Below w.heap.size w w' := by
  have hN := h
  obtain ⟨neg, ao, cap, l, rfl, hc, hs, hd, ht, hl, hp, hzz⟩ := h
  obtain ⟨n, hn⟩ : ∃ n, l.length = n := ⟨_, rfl⟩
  rw [hn] at hN hl ⊢
  obtain ⟨lo, hlo⟩ : ∃ lo : Int, lo = -9223372036854775808 := ⟨_, rfl⟩
  obtain ⟨hi, hhi⟩ : ∃ hi : Int, hi = 9223372036854775807 := ⟨_, rfl⟩
  have hof1 := fun W => of_any (-9223372036854775808) W (by omega) (by omega)
  have hof2 := fun W => of_any 9223372036854775807 W (by omega) (by omega)
  obtain ⟨z1, hz1⟩ : ∃ z1, sgz z lo = z1 := ⟨_, rfl⟩
  obtain ⟨z2, hz2⟩ : ∃ z1, sgz z hi = z1 := ⟨_, rfl⟩
  have hp1 : z1 < (0 : Int) := by
    rw [← hz1, sgz_lt (by omega)]; omega
  rw [← hlo] at hof1
  rw [← hhi] at hof2
  have HOF1 := hidden (fun W => (show Calls Tryd.prog 40 #[.int .i64 (-9223372036854775808)] W fun e w' => IsNum W w' e lo 5 from by rw [← hlo]; exact hof1 W))
  have HOF2 := hidden (fun W => (show Calls Tryd.prog 40 #[.int .i64 9223372036854775807] W fun e w' => IsNum W w' e hi 5 from by rw [← hhi]; exact hof2 W))
  have HCM := hidden (fun W v y (h1 : NumAt W (.agg #[.bool neg, .slice ao n cap]) z k) (h2 : NumAt W v y 5) => cmp_any _ v z y k 5 W h1 h2 (by omega) (by omega))
  have HZ1 := hidden hz1
  have HZ2 := hidden hz2
  have HLN := hidden hn
  have HS := hidden hs
  have HD := hidden hd
  have HN := hidden hN
  have HZZ := hidden hzz
  have ha3 := (blk_new w (.bool neg) (.slice ao n cap))
  have hb3 := (Below.refl w.heap.size w).alloc (Nat.le_refl _) (.cells #[.bool neg, .slice ao n cap] 28)
  have HA := hidden ha3
  have HB := hidden hb3
  clear hof1 hof2 hz1 hz2 hn hs hN ha3 hb3 hlo hhi h0 hd ht hp hzz
  go_enter Tryd.func18, Tryd.ntmps18
  go_upto_region 1 with fail
  have hz0 : w.heap.size + 1 ≤ (w.alloc (.cells #[.bool neg, .slice ao n cap] 28)).heap.size := by simp
  generalize w.alloc (.cells #[.bool neg, .slice ao n cap] 28) = Wg at HA HB hz0 ⊢
  have HC6 := hidden (fun W' (h : Below (w.heap.size + 1) Wg W') => (show W'.cell? ⟨w.heap.size, 0, none⟩ = some (.bool neg) ∧ W'.cell? ⟨w.heap.size, 1, none⟩ = some (.slice ao n cap) ∧ True ∧ True ∧ True ∧ True from
      ⟨(HA.out.below h (by omega)).facts.1, (HA.out.below h (by omega)).facts.2.1, trivial, trivial, trivial, trivial⟩))
  refine wp_region_held_drew (S := fun W => Below (w.heap.size + 1) Wg W) (by kernel_rfl) (Below.refl _ _).drew (fun hH0 => ?_)
  refine take_val' (i := 0) (v := (.agg #[.bool neg, .slice ao n cap])) rfl (by kernel_rfl) (by kernel_rfl) (by kernel_rfl) (some 6) rfl (fun _ _ _ h => h) (Or.inl ⟨by rfl, fun W hW => by obtain ⟨k0, k1, k2, k3, k4, k5⟩ := HC6.out W hW; go_simp⟩) hH0 ?_
  try simp only [Act.put, List.setIfInBounds_toArray, List.set_cons_zero, List.set_cons_succ]
  refine wpAnyH_ready (rs := [1]) (by kernel_rfl) (by simp) ?_
  refine AllReadyH.cons rfl (fun K hK => ?_) AllReadyH.nil
  go_simp
  refine (HOF1.out _).mono ?_
  rintro e w1 ⟨v1, rfl, hv1, hb1⟩
  have hB1 := hidden (show Below (w.heap.size + 1) Wg w1 from ((Below.refl _ _).drew).trans (hb1.mono hz0))
  have HV1 := hidden hv1
  clear hv1 hb1
  refine hK.out _ _ (hB1.out) (fun hH1 => ?_)
  clear hK K
  try simp only [Act.put, List.setIfInBounds_toArray, List.set_cons_zero, List.set_cons_succ]
  refine wpAnyH_ready (rs := [2]) (by kernel_rfl) (by simp) ?_
  refine AllReadyH.cons rfl (fun K hK => ?_) AllReadyH.nil
  go_simp
  refine (HCM.out _ v1 lo (HN.out.below (HB.out.trans (hB1.out.mono (by omega)))) HV1.out).mono ?_
  rintro e w2 ⟨rfl, hb2⟩
  rw [HZ1.out]
  have hB2 := hidden (show Below (w.heap.size + 1) Wg w2 from hB1.out.trans (hb2.mono (Nat.le_trans hz0 hB1.out.size)))
  clear hb2
  refine hK.out _ _ (hB2.out) (fun hH2 => ?_)
  clear hK K
  try simp only [Act.put, List.setIfInBounds_toArray, List.set_cons_zero, List.set_cons_succ]
  refine take_val' (i := 3) (v := (.bool true)) rfl (by kernel_rfl) (by kernel_rfl) (by kernel_rfl) (some 9) rfl (fun _ _ _ h => h) (Or.inl ⟨by rfl, fun W hW => by go_simp⟩) hH2 ?_
  try simp only [Act.put, List.setIfInBounds_toArray, List.set_cons_zero, List.set_cons_succ]
  refine take_val' (i := 4) (v := (.bool true)) rfl (by kernel_rfl) (by kernel_rfl) (by kernel_rfl) (some 10) rfl (fun _ _ _ h => h) (Or.inl ⟨by rfl, fun W hW => by go_simp⟩) hH2 ?_
  try simp only [Act.put, List.setIfInBounds_toArray, List.set_cons_zero, List.set_cons_succ]
  refine take_val' (i := 5) (v := undef) rfl (by kernel_rfl) (by kernel_rfl) (by kernel_rfl) (some 11) rfl (fun _ _ _ h => h) (Or.inr ⟨by rfl, rfl⟩) hH2 ?_
  try simp only [Act.put, List.setIfInBounds_toArray, List.set_cons_zero, List.set_cons_succ]
  refine take_val' (i := 6) (v := undef) rfl (by kernel_rfl) (by kernel_rfl) (by kernel_rfl) (some 12) rfl (fun _ _ _ h => h) (Or.inr ⟨by rfl, rfl⟩) hH2 ?_
  try simp only [Act.put, List.setIfInBounds_toArray, List.set_cons_zero, List.set_cons_succ]
  refine take_val' (i := 7) (v := undef) rfl (by kernel_rfl) (by kernel_rfl) (by kernel_rfl) (some 13) rfl (fun _ _ _ h => h) (Or.inr ⟨by rfl, rfl⟩) hH2 ?_
  try simp only [Act.put, List.setIfInBounds_toArray, List.set_cons_zero, List.set_cons_succ]
  refine take_val' (i := 8) (v := undef) rfl (by kernel_rfl) (by kernel_rfl) (by kernel_rfl) (some 14) rfl (fun _ _ _ h => h) (Or.inr ⟨by rfl, rfl⟩) hH2 ?_
  try simp only [Act.put, List.setIfInBounds_toArray, List.set_cons_zero, List.set_cons_succ]
  refine take_val' (i := 9) (v := (.bool true)) rfl (by kernel_rfl) (by kernel_rfl) (by kernel_rfl) (some 15) rfl (fun _ _ _ h => h) (Or.inl ⟨by rfl, fun W hW => by go_simp⟩) hH2 ?_
  try simp only [Act.put, List.setIfInBounds_toArray, List.set_cons_zero, List.set_cons_succ]
  refine wpAnyH_done (by kernel_rfl) ?_ _
  go_wp2
  go_ret2
  exact ⟨rfl, HB.out.trans (hB2.out.mono (show w.heap.size ≤ w.heap.size + 1 by omega))⟩
set_option maxRecDepth 100000 in
set_option maxHeartbeats 3200000 in
theorem int_high (a : Value) (z : Int) (k : Nat) (w : World) (h : NumAt w a z k) (hlim : k < 1000000) (h0 : 9223372036854775807 < z) :
    Calls Tryd.prog 18 #[a] w fun e w' => e = .returned (.tuple #[.int .i64 0, .bool false]) ∧ Below w.heap.size w w' := by
  have hN := h
  obtain ⟨neg, ao, cap, l, rfl, hc, hs, hd, ht, hl, hp, hzz⟩ := h
  obtain ⟨n, hn⟩ : ∃ n, l.length = n := ⟨_, rfl⟩
  rw [hn] at hN hl ⊢
  obtain ⟨lo, hlo⟩ : ∃ lo : Int, lo = -9223372036854775808 := ⟨_, rfl⟩
  obtain ⟨hi, hhi⟩ : ∃ hi : Int, hi = 9223372036854775807 := ⟨_, rfl⟩
  have hof1 := fun W => of_any (-9223372036854775808) W (by omega) (by omega)
  have hof2 := fun W => of_any 9223372036854775807 W (by omega) (by omega)
  obtain ⟨z1, hz1⟩ : ∃ z1, sgz z lo = z1 := ⟨_, rfl⟩
  obtain ⟨z2, hz2⟩ : ∃ z1, sgz z hi = z1 := ⟨_, rfl⟩
  have hp1 : (0 : Int) ≤ z1 := by
    rw [← hz1]
    by_cases h : lo < z
    · rw [sgz_gt h]; omega
    · rw [sgz_eq (by omega)]; omega
  have hp2 : (0 : Int) < z2 := by
    rw [← hz2, sgz_gt (by omega)]; omega
  rw [← hlo] at hof1
  rw [← hhi] at hof2
  have HOF1 := hidden (fun W => (show Calls Tryd.prog 40 #[.int .i64 (-9223372036854775808)] W fun e w' => IsNum W w' e lo 5 from by rw [← hlo]; exact hof1 W))
  have HOF2 := hidden (fun W => (show Calls Tryd.prog 40 #[.int .i64 9223372036854775807] W fun e w' => IsNum W w' e hi 5 from by rw [← hhi]; exact hof2 W))
  have HCM := hidden (fun W v y (h1 : NumAt W (.agg #[.bool neg, .slice ao n cap]) z k) (h2 : NumAt W v y 5) => cmp_any _ v z y k 5 W h1 h2 (by omega) (by omega))
  have HZ1 := hidden hz1
  have HZ2 := hidden hz2
  have HLN := hidden hn
  have HS := hidden hs
  have HD := hidden hd
  have HN := hidden hN
  have HZZ := hidden hzz
  have ha3 := (blk_new w (.bool neg) (.slice ao n cap))
  have hb3 := (Below.refl w.heap.size w).alloc (Nat.le_refl _) (.cells #[.bool neg, .slice ao n cap] 28)
  have HA := hidden ha3
  have HB := hidden hb3
  clear hof1 hof2 hz1 hz2 hn hs hN ha3 hb3 hlo hhi h0 hd ht hp hzz
  go_enter Tryd.func18, Tryd.ntmps18
  go_upto_region 1 with fail
  have hz0 : w.heap.size + 1 ≤ (w.alloc (.cells #[.bool neg, .slice ao n cap] 28)).heap.size := by simp
  generalize w.alloc (.cells #[.bool neg, .slice ao n cap] 28) = Wg at HA HB hz0 ⊢
  have HC6 := hidden (fun W' (h : Below (w.heap.size + 1) Wg W') => (show W'.cell? ⟨w.heap.size, 0, none⟩ = some (.bool neg) ∧ W'.cell? ⟨w.heap.size, 1, none⟩ = some (.slice ao n cap) ∧ True ∧ True ∧ True ∧ True from
      ⟨(HA.out.below h (by omega)).facts.1, (HA.out.below h (by omega)).facts.2.1, trivial, trivial, trivial, trivial⟩))
  refine wp_region_held_drew (S := fun W => Below (w.heap.size + 1) Wg W) (by kernel_rfl) (Below.refl _ _).drew (fun hH0 => ?_)
  refine take_val' (i := 0) (v := (.agg #[.bool neg, .slice ao n cap])) rfl (by kernel_rfl) (by kernel_rfl) (by kernel_rfl) (some 6) rfl (fun _ _ _ h => h) (Or.inl ⟨by rfl, fun W hW => by obtain ⟨k0, k1, k2, k3, k4, k5⟩ := HC6.out W hW; go_simp⟩) hH0 ?_
  try simp only [Act.put, List.setIfInBounds_toArray, List.set_cons_zero, List.set_cons_succ]
  refine wpAnyH_ready (rs := [1]) (by kernel_rfl) (by simp) ?_
  refine AllReadyH.cons rfl (fun K hK => ?_) AllReadyH.nil
  go_simp
  refine (HOF1.out _).mono ?_
  rintro e w1 ⟨v1, rfl, hv1, hb1⟩
  have hB1 := hidden (show Below (w.heap.size + 1) Wg w1 from ((Below.refl _ _).drew).trans (hb1.mono hz0))
  have HV1 := hidden hv1
  clear hv1 hb1
  refine hK.out _ _ (hB1.out) (fun hH1 => ?_)
  clear hK K
  try simp only [Act.put, List.setIfInBounds_toArray, List.set_cons_zero, List.set_cons_succ]
  refine wpAnyH_ready (rs := [2]) (by kernel_rfl) (by simp) ?_
  refine AllReadyH.cons rfl (fun K hK => ?_) AllReadyH.nil
  go_simp
  refine (HCM.out _ v1 lo (HN.out.below (HB.out.trans (hB1.out.mono (by omega)))) HV1.out).mono ?_
  rintro e w2 ⟨rfl, hb2⟩
  rw [HZ1.out]
  have hB2 := hidden (show Below (w.heap.size + 1) Wg w2 from hB1.out.trans (hb2.mono (Nat.le_trans hz0 hB1.out.size)))
  clear hb2
  refine hK.out _ _ (hB2.out) (fun hH2 => ?_)
  clear hK K
  try simp only [Act.put, List.setIfInBounds_toArray, List.set_cons_zero, List.set_cons_succ]
  refine take_val' (i := 3) (v := (.bool false)) rfl (by kernel_rfl) (by kernel_rfl) (by kernel_rfl) (some 9) rfl (fun _ _ _ h => h) (Or.inl ⟨by rfl, fun W hW => by go_simp⟩) hH2 ?_
  try simp only [Act.put, List.setIfInBounds_toArray, List.set_cons_zero, List.set_cons_succ]
  refine take_val' (i := 4) (v := (.bool false)) rfl (by kernel_rfl) (by kernel_rfl) (by kernel_rfl) (some 10) rfl (fun _ _ _ h => h) (Or.inl ⟨by rfl, fun W hW => by go_simp⟩) hH2 ?_
  try simp only [Act.put, List.setIfInBounds_toArray, List.set_cons_zero, List.set_cons_succ]
  refine take_val' (i := 5) (v := (.agg #[.bool neg, .slice ao n cap])) rfl (by kernel_rfl) (by kernel_rfl) (by kernel_rfl) (some 11) rfl (fun _ _ _ h => h) (Or.inl ⟨by rfl, fun W hW => by obtain ⟨k0, k1, k2, k3, k4, k5⟩ := HC6.out W hW; go_simp⟩) hH2 ?_
  try simp only [Act.put, List.setIfInBounds_toArray, List.set_cons_zero, List.set_cons_succ]
  refine wpAnyH_ready (rs := [6]) (by kernel_rfl) (by simp) ?_
  refine AllReadyH.cons rfl (fun K hK => ?_) AllReadyH.nil
  go_simp
  refine (HOF2.out _).mono ?_
  rintro e w3 ⟨v3, rfl, hv3, hb3⟩
  have hB3 := hidden (show Below (w.heap.size + 1) Wg w3 from hB2.out.trans (hb3.mono (Nat.le_trans hz0 hB2.out.size)))
  have HV3 := hidden hv3
  clear hv3 hb3
  refine hK.out _ _ (hB3.out) (fun hH3 => ?_)
  clear hK K
  try simp only [Act.put, List.setIfInBounds_toArray, List.set_cons_zero, List.set_cons_succ]
  refine wpAnyH_ready (rs := [7]) (by kernel_rfl) (by simp) ?_
  refine AllReadyH.cons rfl (fun K hK => ?_) AllReadyH.nil
  go_simp
  refine (HCM.out _ v3 hi (HN.out.below (HB.out.trans (hB3.out.mono (by omega)))) HV3.out).mono ?_
  rintro e w4 ⟨rfl, hb4⟩
  rw [HZ2.out]
  have hB4 := hidden (show Below (w.heap.size + 1) Wg w4 from hB3.out.trans (hb4.mono (Nat.le_trans hz0 hB3.out.size)))
  clear hb4
  refine hK.out _ _ (hB4.out) (fun hH4 => ?_)
  clear hK K
  try simp only [Act.put, List.setIfInBounds_toArray, List.set_cons_zero, List.set_cons_succ]
  refine take_val' (i := 8) (v := (.bool true)) rfl (by kernel_rfl) (by kernel_rfl) (by kernel_rfl) (some 14) rfl (fun _ _ _ h => h) (Or.inl ⟨by rfl, fun W hW => by go_simp⟩) hH4 ?_
  try simp only [Act.put, List.setIfInBounds_toArray, List.set_cons_zero, List.set_cons_succ]
  refine take_val' (i := 9) (v := (.bool true)) rfl (by kernel_rfl) (by kernel_rfl) (by kernel_rfl) (some 15) rfl (fun _ _ _ h => h) (Or.inl ⟨by rfl, fun W hW => by go_simp⟩) hH4 ?_
  try simp only [Act.put, List.setIfInBounds_toArray, List.set_cons_zero, List.set_cons_succ]
  refine wpAnyH_done (by kernel_rfl) ?_ _
  go_wp2
  go_ret2
  exact ⟨rfl, HB.out.trans (hB4.out.mono (show w.heap.size ≤ w.heap.size + 1 by omega))⟩
set_option maxRecDepth 100000 in
set_option maxHeartbeats 3200000 in
theorem int_in (a : Value) (z : Int) (k : Nat) (w : World) (h : NumAt w a z k) (hlim : k < 1000000) (h0 : -9223372036854775808 ≤ z) (h1 : z ≤ 9223372036854775807) :
    Calls Tryd.prog 18 #[a] w fun e w' => e = .returned (.tuple #[.int .i64 z, .bool true]) ∧ Below w.heap.size w w' := by
  have hN := h
  obtain ⟨neg, ao, cap, l, rfl, hc, hs, hd, ht, hl, hp, hzz⟩ := h
  obtain ⟨n, hn⟩ : ∃ n, l.length = n := ⟨_, rfl⟩
  rw [hn] at hN hl ⊢
  obtain ⟨lo, hlo⟩ : ∃ lo : Int, lo = -9223372036854775808 := ⟨_, rfl⟩
  obtain ⟨hi, hhi⟩ : ∃ hi : Int, hi = 9223372036854775807 := ⟨_, rfl⟩
  have hof1 := fun W => of_any (-9223372036854775808) W (by omega) (by omega)
  have hof2 := fun W => of_any 9223372036854775807 W (by omega) (by omega)
  obtain ⟨z1, hz1⟩ : ∃ z1, sgz z lo = z1 := ⟨_, rfl⟩
  obtain ⟨z2, hz2⟩ : ∃ z1, sgz z hi = z1 := ⟨_, rfl⟩
  have hp1 : (0 : Int) ≤ z1 := by
    rw [← hz1]
    by_cases h : lo < z
    · rw [sgz_gt h]; omega
    · rw [sgz_eq (by omega)]; omega
  have hp2 : z2 ≤ (0 : Int) := by
    rw [← hz2]
    by_cases h : z < hi
    · rw [sgz_lt h]; omega
    · rw [sgz_eq (by omega)]; omega
  rw [← hlo] at hof1
  rw [← hhi] at hof2
  have HOF1 := hidden (fun W => (show Calls Tryd.prog 40 #[.int .i64 (-9223372036854775808)] W fun e w' => IsNum W w' e lo 5 from by rw [← hlo]; exact hof1 W))
  have HOF2 := hidden (fun W => (show Calls Tryd.prog 40 #[.int .i64 9223372036854775807] W fun e w' => IsNum W w' e hi 5 from by rw [← hhi]; exact hof2 W))
  have HCM := hidden (fun W v y (h1 : NumAt W (.agg #[.bool neg, .slice ao n cap]) z k) (h2 : NumAt W v y 5) => cmp_any _ v z y k 5 W h1 h2 (by omega) (by omega))
  have HZ1 := hidden hz1
  have HZ2 := hidden hz2
  have HLN := hidden hn
  have HS := hidden hs
  have HD := hidden hd
  have HN := hidden hN
  have HZZ := hidden hzz
  have HMX := hidden h1
  have HVL := hidden (show val l ≤ 9223372036854775808 from by
    rw [hzz] at h0 h1
    cases neg <;> simp [sgnv] at h0 h1 <;> omega)
  have ha3 := (blk_new w (.bool neg) (.slice ao n cap))
  have hb3 := (Below.refl w.heap.size w).alloc (Nat.le_refl _) (.cells #[.bool neg, .slice ao n cap] 28)
  have HA := hidden ha3
  have HB := hidden hb3
  clear hof1 hof2 hz1 hz2 hn hs hN ha3 hb3 hlo hhi h0 h1 hd ht hp hzz
  go_enter Tryd.func18, Tryd.ntmps18
  go_upto_region 1 with fail
  have hz0 : w.heap.size + 1 ≤ (w.alloc (.cells #[.bool neg, .slice ao n cap] 28)).heap.size := by simp
  generalize w.alloc (.cells #[.bool neg, .slice ao n cap] 28) = Wg at HA HB hz0 ⊢
  have HC6 := hidden (fun W' (h : Below (w.heap.size + 1) Wg W') => (show W'.cell? ⟨w.heap.size, 0, none⟩ = some (.bool neg) ∧ W'.cell? ⟨w.heap.size, 1, none⟩ = some (.slice ao n cap) ∧ True ∧ True ∧ True ∧ True from
      ⟨(HA.out.below h (by omega)).facts.1, (HA.out.below h (by omega)).facts.2.1, trivial, trivial, trivial, trivial⟩))
  refine wp_region_held_drew (S := fun W => Below (w.heap.size + 1) Wg W) (by kernel_rfl) (Below.refl _ _).drew (fun hH0 => ?_)
  refine take_val' (i := 0) (v := (.agg #[.bool neg, .slice ao n cap])) rfl (by kernel_rfl) (by kernel_rfl) (by kernel_rfl) (some 6) rfl (fun _ _ _ h => h) (Or.inl ⟨by rfl, fun W hW => by obtain ⟨k0, k1, k2, k3, k4, k5⟩ := HC6.out W hW; go_simp⟩) hH0 ?_
  try simp only [Act.put, List.setIfInBounds_toArray, List.set_cons_zero, List.set_cons_succ]
  refine wpAnyH_ready (rs := [1]) (by kernel_rfl) (by simp) ?_
  refine AllReadyH.cons rfl (fun K hK => ?_) AllReadyH.nil
  go_simp
  refine (HOF1.out _).mono ?_
  rintro e w1 ⟨v1, rfl, hv1, hb1⟩
  have hB1 := hidden (show Below (w.heap.size + 1) Wg w1 from ((Below.refl _ _).drew).trans (hb1.mono hz0))
  have HV1 := hidden hv1
  clear hv1 hb1
  refine hK.out _ _ (hB1.out) (fun hH1 => ?_)
  clear hK K
  try simp only [Act.put, List.setIfInBounds_toArray, List.set_cons_zero, List.set_cons_succ]
  refine wpAnyH_ready (rs := [2]) (by kernel_rfl) (by simp) ?_
  refine AllReadyH.cons rfl (fun K hK => ?_) AllReadyH.nil
  go_simp
  refine (HCM.out _ v1 lo (HN.out.below (HB.out.trans (hB1.out.mono (by omega)))) HV1.out).mono ?_
  rintro e w2 ⟨rfl, hb2⟩
  rw [HZ1.out]
  have hB2 := hidden (show Below (w.heap.size + 1) Wg w2 from hB1.out.trans (hb2.mono (Nat.le_trans hz0 hB1.out.size)))
  clear hb2
  refine hK.out _ _ (hB2.out) (fun hH2 => ?_)
  clear hK K
  try simp only [Act.put, List.setIfInBounds_toArray, List.set_cons_zero, List.set_cons_succ]
  refine take_val' (i := 3) (v := (.bool false)) rfl (by kernel_rfl) (by kernel_rfl) (by kernel_rfl) (some 9) rfl (fun _ _ _ h => h) (Or.inl ⟨by rfl, fun W hW => by go_simp⟩) hH2 ?_
  try simp only [Act.put, List.setIfInBounds_toArray, List.set_cons_zero, List.set_cons_succ]
  refine take_val' (i := 4) (v := (.bool false)) rfl (by kernel_rfl) (by kernel_rfl) (by kernel_rfl) (some 10) rfl (fun _ _ _ h => h) (Or.inl ⟨by rfl, fun W hW => by go_simp⟩) hH2 ?_
  try simp only [Act.put, List.setIfInBounds_toArray, List.set_cons_zero, List.set_cons_succ]
  refine take_val' (i := 5) (v := (.agg #[.bool neg, .slice ao n cap])) rfl (by kernel_rfl) (by kernel_rfl) (by kernel_rfl) (some 11) rfl (fun _ _ _ h => h) (Or.inl ⟨by rfl, fun W hW => by obtain ⟨k0, k1, k2, k3, k4, k5⟩ := HC6.out W hW; go_simp⟩) hH2 ?_
  try simp only [Act.put, List.setIfInBounds_toArray, List.set_cons_zero, List.set_cons_succ]
  refine wpAnyH_ready (rs := [6]) (by kernel_rfl) (by simp) ?_
  refine AllReadyH.cons rfl (fun K hK => ?_) AllReadyH.nil
  go_simp
  refine (HOF2.out _).mono ?_
  rintro e w3 ⟨v3, rfl, hv3, hb3⟩
  have hB3 := hidden (show Below (w.heap.size + 1) Wg w3 from hB2.out.trans (hb3.mono (Nat.le_trans hz0 hB2.out.size)))
  have HV3 := hidden hv3
  clear hv3 hb3
  refine hK.out _ _ (hB3.out) (fun hH3 => ?_)
  clear hK K
  try simp only [Act.put, List.setIfInBounds_toArray, List.set_cons_zero, List.set_cons_succ]
  refine wpAnyH_ready (rs := [7]) (by kernel_rfl) (by simp) ?_
  refine AllReadyH.cons rfl (fun K hK => ?_) AllReadyH.nil
  go_simp
  refine (HCM.out _ v3 hi (HN.out.below (HB.out.trans (hB3.out.mono (by omega)))) HV3.out).mono ?_
  rintro e w4 ⟨rfl, hb4⟩
  rw [HZ2.out]
  have hB4 := hidden (show Below (w.heap.size + 1) Wg w4 from hB3.out.trans (hb4.mono (Nat.le_trans hz0 hB3.out.size)))
  clear hb4
  refine hK.out _ _ (hB4.out) (fun hH4 => ?_)
  clear hK K
  try simp only [Act.put, List.setIfInBounds_toArray, List.set_cons_zero, List.set_cons_succ]
  refine take_val' (i := 8) (v := (.bool false)) rfl (by kernel_rfl) (by kernel_rfl) (by kernel_rfl) (some 14) rfl (fun _ _ _ h => h) (Or.inl ⟨by rfl, fun W hW => by go_simp⟩) hH4 ?_
  try simp only [Act.put, List.setIfInBounds_toArray, List.set_cons_zero, List.set_cons_succ]
  refine take_val' (i := 9) (v := (.bool false)) rfl (by kernel_rfl) (by kernel_rfl) (by kernel_rfl) (some 15) rfl (fun _ _ _ h => h) (Or.inl ⟨by rfl, fun W hW => by go_simp⟩) hH4 ?_
  try simp only [Act.put, List.setIfInBounds_toArray, List.set_cons_zero, List.set_cons_succ]
  refine wpAnyH_done (by kernel_rfl) ?_ _
  have HA4 := hidden (HA.out.below hB4.out (by omega))
  have HB4 := hidden (HB.out.trans (hB4.out.mono (show w.heap.size ≤ w.heap.size + 1 by omega)))
  have HS4 := hidden (HS.out.below HB4.out)
  clear hz0 HOF1 HOF2 HCM HV1 HV3 hB1 hB2 hB3 hp1 hp2 HC6
  obtain ⟨c0, c1, _, _⟩ := HA4.out.facts
  go_wp2
  go_loop [4, 5] (fun v i => ∃ (j : Nat), j ≤ n ∧ i = .int .i64 ((j : Int) - 1) ∧ v = .int .i64 (-(val (l.drop j) : Int))) (fun _ i => (RowKit.intOf i + 1).toNat)
  case atStart => exact ⟨n, Nat.le_refl _, rfl, by rw [List.drop_of_length_le (by rw [HLN.out]; omega)]; rfl⟩
  case round =>
    obtain ⟨j, hj, rfl, rfl⟩ := hrel
    by_cases h0 : 0 < j
    · obtain ⟨j, rfl⟩ : ∃ i, j = i + 1 := ⟨j - 1, by omega⟩
      rw [show ((j + 1 : Nat) : Int) - 1 = (j : Int) by omega]
      obtain ⟨ak, af, rfl, hca⟩ := HS4.out.get j (by rw [HLN.out]; omega)
      have hxl := dig_get HD.out j
      have hvd := val_drop l j
      have hle : val (l.drop j) ≤ 9223372036854775808 := by
        have e := val_split l j (by rw [HLN.out]; omega)
        have := Nat.le_mul_of_pos_left (val (l.drop j)) (pw_pos j)
        have := HVL.out
        omega
      obtain ⟨x, hx⟩ : ∃ x, l.getD j 0 = x := ⟨_, rfl⟩
      rw [hx] at hca hxl hvd
      obtain ⟨V, hV⟩ : ∃ V, val (l.drop (j + 1)) = V := ⟨_, rfl⟩
      obtain ⟨V2, hV2⟩ : ∃ V, val (l.drop j) = V := ⟨_, rfl⟩
      rw [hV, hV2] at hvd
      rw [hV2] at hle
      rw [hV]
      have HV2 := hidden hV2
      clear hx hV hV2
      go_wp2
      go_round
      case rel => exact ⟨j, by omega, by go_num, by rw [HV2.out]; go_num⟩
      case measure => simp [RowKit.intOf]
    · obtain rfl : j = 0 := by omega
      rw [List.drop_zero]
      have hvl := HVL.out
      obtain ⟨V, hV⟩ : ∃ V, val l = V := ⟨_, rfl⟩
      rw [hV] at hvl ⊢
      have hz := HZZ.out
      rw [hV] at hz
      cases neg
      · have hzv : Hid (z = (V : Int)) := hidden hz
        have hvm : V ≤ 9223372036854775807 := by have := HMX.out; have := hzv.out; omega
        have hnn : -(-(V : Int)) = (V : Int) := by omega
        clear hz
        go_wp2
        go_ret2
        exact ⟨by rw [hzv.out]; go_num, HB4.out⟩
      · have hzv : Hid (z = -(V : Int)) := hidden hz
        clear hz
        go_wp2
        go_ret2
        exact ⟨by rw [hzv.out]; go_num, HB4.out⟩
end Rv
end Go.Proofs.YtapdkibiegeijaaDoor
