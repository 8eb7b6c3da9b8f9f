/- Num's Int, where it is one. Conditions: a Num within the bounds of int64. -/
import Derived.Test.YtapdkibiegeijaaDoorNumTx
namespace Go.Proofs.YtapdkibiegeijaaDoor
open Go.RowKit Go.Shelf
attribute [local go_sem] Oper.semAt_some
namespace Nm

def w64 (h : Nat) : Int := IntKind.i64.wrap (h : Int)
/-- What holds between two rounds of Int. -/
structure InI (w : World) (X C : Nat) (c0 c1 sv : Value) (pre : List (Nat × Nat)) (W : World) : Prop where
  box : Boxed W X 2 (.int .i64 (w64 (accN 0 pre)))
  a : Blk W w.heap.size c0 c1
  clo : Boxed W C 23 sv
  below : Below w.heap.size w W
theorem blk_own (b : Nat) (c0 c1 : Value) : Own (fun (_ : Unit) W => Blk W b c0 c1) := fun s X Y row h hg hr => by
  refine (hg.block b (Array.getElem?_eq_some_iff.1 h).1 (fun e => ?_)).trans h
  obtain ⟨o, ho, hc⟩ := hr b e.symm
  rw [show X.heap[b]? = _ from h] at ho
  cases ho; cases hc
theorem InI.own (w : World) (X C : Nat) (c0 c1 sv : Value) (K : Nat) (hK : w.heap.size ≤ K) : OwnFrom K (InI w X C c0 c1 sv) := by
  rintro pre Z Y row hI hg hr
  have hr' : ∀ r, row = some r → ∃ o : Obj, Z.heap[r]? = some o ∧ o.isCells = false := fun r e => (hr r e).2
  exact ⟨boxed_own _ _ (fun _ : Unit => _) () Z Y row hI.box hg hr', blk_own _ c0 c1 () Z Y row hI.a hg hr', boxed_own _ _ (fun _ : Unit => sv) () Z Y row hI.clo hg hr', ownFrom_below (β := Unit) (Nat.le_refl _) hK () Z Y row hI.below hg hr⟩
theorem InI.next {w W : World} {X C : Nat} {c0 c1 sv : Value} {pre : List (Nat × Nat)} {x : Nat × Nat} (hI : InI w X C c0 c1 sv pre W) (hX : X ≠ C) (hBX : w.heap.size < X) (u : Int) (hu : u = w64 (accN 0 (pre ++ [x]))) :
    InI w X C c0 c1 sv (pre ++ [x]) (W.setCell ⟨X, 0, none⟩ (.int .i64 u)) := by
  subst hu
  exact ⟨hI.box.set _, (heap_setCell_other _ _ _ _ (by simp; omega)).trans hI.a, hI.clo.other (fun e => hX e.symm) _, hI.below.setCell (show w.heap.size ≤ X by omega) _⟩
theorem keeps_box2 {W : World} {X : Nat} {t : TypeId} {v u : Value} (L : Nat) (hX : Boxed W X t v) : KeepsFrom L W (W.setCell ⟨X, 0, none⟩ u) := by
  refine ⟨by simp, fun k o _ ho hc => ?_⟩
  refine (heap_setCell_other _ _ _ _ (fun e2 => ?_)).trans ho
  have e3 : k = X := e2
  subst e3
  rw [show W.heap[k]? = _ from hX] at ho
  cases ho
  cases hc
theorem same_box2 {w W : World} {X C : Nat} {c0 c1 sv u : Value} {ao : Option Addr} {pre : List (Nat × Nat)} (_hI : InI w X C c0 c1 sv pre W) (hX : X ≠ C) (ha : ∀ bk o, ao = some ⟨bk, o, none⟩ → bk < C → bk ≠ X) :
    Same2 (reads C ao) W (W.setCell ⟨X, 0, none⟩ u) := by
  refine ⟨fun b o hr => ?_⟩
  have e : b ≠ X → (W.setCell ⟨X, 0, none⟩ u).cell? ⟨b, o, none⟩ = W.cell? ⟨b, o, none⟩ := fun hb => by
    unfold World.cell?
    rw [heap_setCell_other _ _ _ _ hb]
  rcases hr with rfl | ⟨h1, o', h2⟩
  · exact e (fun e => hX e.symm)
  · exact e (ha b o' h2 h1)
theorem w64_step (h x : Nat) : wrap64 (wrap64 (w64 h * 1000000000) + wrap64 (x : Int)) = w64 (x + 1000000000 * h) := by
  unfold w64 wrap64
  simp only [IntKind.wrap_i64]
  omega
theorem w64_end {neg : Bool} {v : Nat} (h0 : -9223372036854775808 ≤ sgnv neg v) (h1 : sgnv neg v ≤ 9223372036854775807) : (neg = false → w64 v = sgnv neg v) ∧ (neg = true → wrap64 (-(w64 v)) = sgnv neg v) := by
  unfold w64 wrap64
  simp only [IntKind.wrap_i64]
  refine ⟨fun e => ?_, fun e => ?_⟩ <;> subst e <;> simp [sgnv] at * <;> omega
set_option maxRecDepth 100000 in
set_option maxHeartbeats 3200000 in
theorem int_in (neg : Bool) (ao : Option Addr) (cap n k : Nat) (l : List Nat) (w : World) (hn : l.length = n) (hN : NumAt w (.agg #[.bool neg, .slice ao n cap]) (sgnv neg (val l)) k) (hlim : k < 100000000) (hnk : n < 100000000) (hs : SrcN w ao l)
    (h0 : -9223372036854775808 ≤ sgnv neg (val l)) (h1 : sgnv neg (val l) ≤ 9223372036854775807) :
    CallsIn Fence.wide 9 Tryd.prog 17 #[.agg #[.bool neg, .slice ao n cap]] w fun e w' => e = .returned (.tuple #[.int .i64 (sgnv neg (val l)), .bool true]) ∧ Below w.heap.size w w' := by
  have HW := hidden (w64_end h0 h1)
  obtain ⟨z, hz⟩ : ∃ z, sgnv neg (val l) = z := ⟨_, rfl⟩
  rw [hz] at hN HW h0 h1 ⊢
  obtain ⟨lo, hlo⟩ : ∃ lo : Int, lo = -9223372036854775808 := ⟨_, rfl⟩
  obtain ⟨hi, hhi⟩ : ∃ hi : Int, hi = 9223372036854775807 := ⟨_, rfl⟩
  have hof1 := fun W => of_any (-9223372036854775808) W (by omega) (by omega)
  have hof2 := fun W => of_any 9223372036854775807 W (by omega) (by omega)
  obtain ⟨z1, hz1⟩ : ∃ z1, sgz z lo = z1 := ⟨_, rfl⟩
  obtain ⟨z2, hz2⟩ : ∃ z1, sgz z hi = z1 := ⟨_, rfl⟩
  have hp1 : (0 : Int) ≤ z1 := by
    rw [← hz1]
    by_cases h : lo < z
    · rw [sgz_gt h]; omega
    · rw [sgz_eq (by omega)]; omega
  have hp2 : z2 ≤ (0 : Int) := by
    rw [← hz2]
    by_cases h : z < hi
    · rw [sgz_lt h]; omega
    · rw [sgz_eq (by omega)]; omega
  rw [← hlo] at hof1
  rw [← hhi] at hof2
  have HOF1 := hidden (fun W => (show Calls Tryd.prog 31 #[.int .i64 (-9223372036854775808)] W fun e w' => IsNum W w' e lo 3 from by rw [← hlo]; exact hof1 W))
  have HOF2 := hidden (fun W => (show Calls Tryd.prog 31 #[.int .i64 9223372036854775807] W fun e w' => IsNum W w' e hi 3 from by rw [← hhi]; exact hof2 W))
  have HCM := hidden (fun W v y (h1 : NumAt W (.agg #[.bool neg, .slice ao n cap]) z k) (h2 : NumAt W v y 3) => cmp_any _ v z y k 3 W h1 h2 hlim (by omega))
  have HZ1 := hidden hz1
  have HZ2 := hidden hz2
  have HLN := hidden hn
  have HS := hidden hs
  have HN := hidden hN
  have ha3 := (blk_new w (.bool neg) (.slice ao n cap))
  have hb3 := (Below.refl w.heap.size w).alloc (Nat.le_refl _) (.cells #[.bool neg, .slice ao n cap] 25)
  have HA := hidden ha3
  have HB := hidden hb3
  clear hz hof1 hof2 hz1 hz2 hn hs hN ha3 hb3 hlo hhi h0 h1
  refine callsIn_of_wp_marks Tryd.func17 rfl trivial (wpIn_wide.2 ?_) rfl
  simp only [Tryd.ntmps17, List.size_toArray, List.length_cons, List.length_nil, Nat.reduceAdd, Nat.reduceSub, Array.replicate_succ, Array.replicate_zero, List.push_toArray, List.append_toArray, List.nil_append, List.cons_append]
  go_wp2_with fail
  have hz0 : w.heap.size + 1 ≤ (w.alloc (.cells #[.bool neg, .slice ao n cap] 25)).heap.size := by simp
  generalize w.alloc (.cells #[.bool neg, .slice ao n cap] 25) = Wg at HA HB hz0 ⊢
  have HC6 := hidden (fun W' (h : Below (w.heap.size + 1) Wg W') => (show W'.cell? ⟨w.heap.size, 0, none⟩ = some (.bool neg) ∧ W'.cell? ⟨w.heap.size, 1, none⟩ = some (.slice ao n cap) ∧ True ∧ True ∧ True ∧ True from
      ⟨(HA.out.below h (by omega)).facts.1, (HA.out.below h (by omega)).facts.2.1, trivial, trivial, trivial, trivial⟩))
  refine wp_region_noPanic ?_
  refine wp_region_held_drew (S := fun W => Below (w.heap.size + 1) Wg W) (by kernel_rfl) (Below.refl _ _).drew (fun hH0 => ?_)
  refine take_val' (i := 0) (v := (.agg #[.bool neg, .slice ao n cap])) rfl (by kernel_rfl) (by kernel_rfl) (by kernel_rfl) (some 7) rfl (fun _ _ _ h => h) (Or.inl ⟨by rfl, fun W hW => by obtain ⟨k0, k1, k2, k3, k4, k5⟩ := HC6.out W hW; go_simp⟩) hH0 ?_
  try simp only [Act.put, List.setIfInBounds_toArray, List.set_cons_zero, List.set_cons_succ]
  refine wpAnyH_ready (rs := [1]) (by kernel_rfl) (by simp) ?_
  refine AllReadyH.cons rfl (fun K hK => ?_) AllReadyH.nil
  go_simp
  refine (HOF1.out _).mono ?_
  rintro e w1 ⟨v1, rfl, hv1, hb1⟩
  have hB1 := hidden (show Below (w.heap.size + 1) Wg w1 from ((Below.refl _ _).drew).trans (hb1.mono hz0))
  have HV1 := hidden hv1
  clear hv1 hb1
  refine hK.out _ _ (hB1.out) (fun hH1 => ?_)
  clear hK K
  try simp only [Act.put, List.setIfInBounds_toArray, List.set_cons_zero, List.set_cons_succ]
  refine wpAnyH_ready (rs := [2]) (by kernel_rfl) (by simp) ?_
  refine AllReadyH.cons rfl (fun K hK => ?_) AllReadyH.nil
  go_simp
  refine (HCM.out _ v1 lo (HN.out.below (HB.out.trans (hB1.out.mono (by omega)))) HV1.out).mono ?_
  rintro e w2 ⟨rfl, hb2⟩
  rw [HZ1.out]
  have hB2 := hidden (show Below (w.heap.size + 1) Wg w2 from hB1.out.trans (hb2.mono (Nat.le_trans hz0 hB1.out.size)))
  clear hb2
  refine hK.out _ _ (hB2.out) (fun hH2 => ?_)
  clear hK K
  try simp only [Act.put, List.setIfInBounds_toArray, List.set_cons_zero, List.set_cons_succ]
  refine take_val' (i := 3) (v := (.bool false)) rfl (by kernel_rfl) (by kernel_rfl) (by kernel_rfl) (some 10) rfl (fun _ _ _ h => h) (Or.inl ⟨by rfl, fun W hW => by go_simp⟩) hH2 ?_
  try simp only [Act.put, List.setIfInBounds_toArray, List.set_cons_zero, List.set_cons_succ]
  refine take_val' (i := 4) (v := (.bool false)) rfl (by kernel_rfl) (by kernel_rfl) (by kernel_rfl) (some 11) rfl (fun _ _ _ h => h) (Or.inl ⟨by rfl, fun W hW => by go_simp⟩) hH2 ?_
  try simp only [Act.put, List.setIfInBounds_toArray, List.set_cons_zero, List.set_cons_succ]
  refine take_val' (i := 5) (v := (.agg #[.bool neg, .slice ao n cap])) rfl (by kernel_rfl) (by kernel_rfl) (by kernel_rfl) (some 12) rfl (fun _ _ _ h => h) (Or.inl ⟨by rfl, fun W hW => by obtain ⟨k0, k1, k2, k3, k4, k5⟩ := HC6.out W hW; go_simp⟩) hH2 ?_
  try simp only [Act.put, List.setIfInBounds_toArray, List.set_cons_zero, List.set_cons_succ]
  refine wpAnyH_ready (rs := [6]) (by kernel_rfl) (by simp) ?_
  refine AllReadyH.cons rfl (fun K hK => ?_) AllReadyH.nil
  go_simp
  refine (HOF2.out _).mono ?_
  rintro e w3 ⟨v3, rfl, hv3, hb3⟩
  have hB3 := hidden (show Below (w.heap.size + 1) Wg w3 from hB2.out.trans (hb3.mono (Nat.le_trans hz0 hB2.out.size)))
  have HV3 := hidden hv3
  clear hv3 hb3
  refine hK.out _ _ (hB3.out) (fun hH3 => ?_)
  clear hK K
  try simp only [Act.put, List.setIfInBounds_toArray, List.set_cons_zero, List.set_cons_succ]
  refine wpAnyH_ready (rs := [7]) (by kernel_rfl) (by simp) ?_
  refine AllReadyH.cons rfl (fun K hK => ?_) AllReadyH.nil
  go_simp
  refine (HCM.out _ v3 hi (HN.out.below (HB.out.trans (hB3.out.mono (by omega)))) HV3.out).mono ?_
  rintro e w4 ⟨rfl, hb4⟩
  rw [HZ2.out]
  have hB4 := hidden (show Below (w.heap.size + 1) Wg w4 from hB3.out.trans (hb4.mono (Nat.le_trans hz0 hB3.out.size)))
  clear hb4
  refine hK.out _ _ (hB4.out) (fun hH4 => ?_)
  clear hK K
  try simp only [Act.put, List.setIfInBounds_toArray, List.set_cons_zero, List.set_cons_succ]
  refine take_val' (i := 8) (v := (.bool false)) rfl (by kernel_rfl) (by kernel_rfl) (by kernel_rfl) (some 15) rfl (fun _ _ _ h => h) (Or.inl ⟨by rfl, fun W hW => by go_simp⟩) hH4 ?_
  try simp only [Act.put, List.setIfInBounds_toArray, List.set_cons_zero, List.set_cons_succ]
  refine take_val' (i := 9) (v := (.bool false)) rfl (by kernel_rfl) (by kernel_rfl) (by kernel_rfl) (some 16) rfl (fun _ _ _ h => h) (Or.inl ⟨by rfl, fun W hW => by go_simp⟩) hH4 ?_
  try simp only [Act.put, List.setIfInBounds_toArray, List.set_cons_zero, List.set_cons_succ]
  refine wpAnyH_done (by kernel_rfl) ?_ _
  refine NoPanic.normal ?_
  have HA4 := hidden (HA.out.below hB4.out (by omega))
  have HB4 := hidden (HB.out.trans (hB4.out.mono (show w.heap.size ≤ w.heap.size + 1 by omega)))
  have hz4 : w.heap.size + 1 ≤ w4.heap.size := Nat.le_trans hz0 hB4.out.size
  have HA5 := hidden (HA4.out.below ((Below.refl w4.heap.size w4).alloc (Nat.le_refl _) (.cells #[.int .i64 0] 2)) (by omega))
  have HB5 := hidden (HB4.out.alloc (by omega) (.cells #[.int .i64 0] 2))
  have HX5 := hidden (show Boxed (w4.alloc (.cells #[.int .i64 0] 2)) w4.heap.size 2 (.int .i64 0) from heap_alloc_new _ _)
  have hz5 : w4.heap.size < (w4.alloc (.cells #[.int .i64 0] 2)).heap.size := by simp
  obtain ⟨c0, c1, _, _⟩ := HA5.out.facts
  clear hz0 HOF1 HOF2 HCM HV1 HV3 hB1 hB2 hB3 hp1 hp2 HA4 HB4
  go_wp2_with fail
  generalize w4.alloc (.cells #[.int .i64 0] 2) = W5 at HA5 HB5 HX5 hz5 c0 c1 ⊢
  obtain ⟨X, hX⟩ : ∃ X, w4.heap.size = X := ⟨_, rfl⟩
  rw [hX] at HX5 hz5 hz4 ⊢
  clear hX
  refine (backward_any _ _ _ _).mono ?_
  rintro e w' ⟨rfl, rfl⟩
  go_wp2
  have hcl2 := hidden (show Boxed (W5.alloc (.cells #[.slice ao n cap] 23)) W5.heap.size 23 (.slice ao n cap) from heap_alloc_new _ _)
  have hgv := backward_gives 8 n cap ao l W5 HLN.out (by omega) (HS.out.below HB5.out)
  have hJ0 : InI w X W5.heap.size (.bool neg) (.slice ao n cap) (.slice ao n cap) [] (W5.alloc (.cells #[.slice ao n cap] 23)) :=
    ⟨HX5.out.alloc _, HA5.out.below ((Below.refl _ _).alloc (Nat.le_refl _) _) (by omega), hcl2.out, HB5.out.alloc HB5.out.size _⟩
  have hpr : ∀ b, reads W5.heap.size ao b → b < (W5.alloc (.cells #[.slice ao n cap] 23)).heap.size := by
    rintro b (rfl | ⟨hb, o, ho⟩)
    · simp
    · simp; omega
  have hao : Hid (∀ bk o, ao = some ⟨bk, o, none⟩ → bk < W5.heap.size → bk ≠ X ∨ l = []) := hidden (fun bk o e _ => by
    by_cases h : 0 < l.length
    · obtain ⟨b2, o2, e2, h2, _⟩ := HS.out h
      rw [e] at e2
      cases e2
      exact .inl (by omega)
    · exact .inr (List.length_eq_zero_iff.1 (by omega)))
  clear hcl2 HX5 HA5 c0 c1
  refine (wpIn_wide (n := 9)).1 (range_slot (m := 9) (r := 6) (gf := 60) rfl (enters_of Tryd.func60 (by kernel_rfl) rfl) hpr hgv (InI w X W5.heap.size (.bool neg) (.slice ao n cap) (.slice ao n cap)) (InI.own _ _ _ _ _ _ _ (by simp; omega)) hJ0 ?assign ?body ?done)
  case assign =>
    intro l2 y W K hK
    gi_wp2
    exact hK
  case body =>
    rintro l2 pre y W hI hpx
    try simp only [List.setIfInBounds_toArray, List.set_cons_zero, List.set_cons_succ]
    have hne : l ≠ [] := fun e => by
      have := hpx.length_le
      rw [e] at this
      simp [backs] at this
    obtain ⟨u, hu⟩ : ∃ u, w64 (accN 0 pre) = u := ⟨_, rfl⟩
    have hbx := hI.box.cell
    have hbf := hI.box.frozen
    rw [hu] at hbx
    have hst := w64_step (accN 0 pre) y.2
    rw [← accN_snoc, hu] at hst
    have HST := hidden hst
    have HI := hidden hI
    have HSM := hidden (fun u => same_box2 (u := u) hI (by omega) (fun bk o e h => (hao.out bk o e h).resolve_right hne))
    have HKP := hidden (fun u => keeps_box2 (u := u) (W5.heap.size + 1) hI.box)
    clear hI hpx hst hu hne hgv hJ0 hpr
    gi_wp2
    exact ⟨by rw [World.size_alloc]; exact HKP.out _, HSM.out _, HI.out.next (by omega) (by omega) _ HST.out⟩
  case done =>
    rintro W hI hK
    have hacc : accN 0 (backs l) = val l := by rw [accN_backs, Nat.mul_zero, Nat.add_zero]
    have hbx := hI.box.cell
    have hbf := hI.box.frozen
    rw [hacc] at hbx
    obtain ⟨k0, k1, _, _⟩ := hI.a.facts
    have hlt := hI.clo.lt
    rw [World.size_alloc] at hK
    have HI := hidden hI
    have HK := hidden hK
    obtain ⟨u, hu⟩ : ∃ u, w64 (val l) = u := ⟨_, rfl⟩
    rw [hu] at hbx HW
    clear hI hK hgv hJ0 hpr hacc hu
    cases neg
    · have hzu : u = z := HW.out.1 rfl
      subst hzu
      go_wp2
      refine ⟨by simp, .inl ⟨_, _, rfl, run_takeDeferred HK.out, ?_⟩⟩
      refine ⟨.tuple #[.int .i64 u, .bool true], by simp [results, Tryd.results17, go_sem], rfl, ?_⟩
      exact HI.out.below.trans ((Below.refl w.heap.size _).grown (grownBy_putObj' _ _ _) (by omega) (fun j e => by cases e; omega))
    · have hzu : Hid (wrap64 (-u) = z) := hidden (HW.out.2 rfl)
      go_wp2
      rw [hzu.out]
      refine ⟨by simp, .inl ⟨_, _, rfl, run_takeDeferred ((heap_setCell_other _ _ _ _ (by simp; omega)).trans HK.out), ?_⟩⟩
      refine ⟨.tuple #[.int .i64 z, .bool true], by simp [results, Tryd.results17, go_sem], rfl, ?_⟩
      exact (HI.out.below.setCell (show w.heap.size ≤ X by omega) _).trans ((Below.refl w.heap.size _).grown (grownBy_putObj' _ _ _) (by simp; omega) (fun j e => by cases e; omega))
theorem int_any (a : Value) (x : Int) (k : Nat) (w : World) (h : NumAt w a x k) (hk : k < 100000000) (h0 : -9223372036854775808 ≤ x) (h1 : x ≤ 9223372036854775807) :
    Calls Tryd.prog 17 #[a] w fun e w' => e = .returned (.tuple #[.int .i64 x, .bool true]) ∧ Below w.heap.size w w' := by
  have hN := h
  obtain ⟨neg, ao, cap, l, rfl, hc, hs, hd, ht, hl, hp, rfl⟩ := h
  exact callsIn_wide.1 (int_in neg ao cap l.length k l w rfl hN hk (by omega) hs h0 h1)
end Nm
end Go.Proofs.YtapdkibiegeijaaDoor
