/- Parts of the proof, together. What cond, elif, block, lines of the parser answers. Conditions: as told of less fuel. -/
import Derived.Test.YtnfnlcahlgnahaaGreatDoorBabg
namespace Go.Proofs.YtnfnlcahlgnahaaGreatDoor
open Go.RowKit
open Lx Ax Px

set_option maxRecDepth 10000 in
set_option maxHeartbeats 12800000 in
theorem cond_step {A : Nat → Addr} {B pb : Nat} {ts : List Tok} {tv : Value} {m : Nat} (pos : Int) (p : Pl) (H : All A B pb ts tv m) : Does A B pb ts tv 52 #[ptr pb, .int .i64 pos, plV p] (.cond pos p) (m + 1) := by
  intro W s vl vs r h hr hnr
  have HR := hid' hr
  have HP := hid' h
  have HS := hid' (Step.refl W.heap.size B pb W vl vs)
  have HLO := hid' h.lowB
  clear hr h
  rw [runF] at HR
  unfold bodyF at HR
  dsimp only at HR
  have hnot : ∀ (x : Bool) (w : World), (Op.unary .not (.bool x)).run Tryz.prog w = .ok (.bool (!x)) w := fun _ _ => rfl
  have hfk := tok_kind
  have hfp := tok_pos
  unfold ptr plV
  go_enter Tryz.func52, Tryz.ntmps52
  go_wp2_with fail
  have hp := HP.out.alloc (.cells #[.bool p.inner, .bool p.d, .bool p.l] 75)
  replace HS := hid' (HS.out.alloc (.cells #[.bool p.inner, .bool p.d, .bool p.l] 75) HLO.out)
  have BX := hid' (row_new W 75 [.bool p.inner, .bool p.d, .bool p.l])
  generalize hw0 : W.alloc (.cells #[.bool p.inner, .bool p.d, .bool p.l] 75) = w0 at hp HS
  have HW0 := hid' hw0
  clear hw0
  replace BX : Hid (RowV w0 W.heap.size 75 [.bool p.inner, .bool p.d, .bool p.l]) := hid' (by rw [← HW0.out]; exact BX.out)
  clear HW0
  replace HP := hid' hp
  clear hp
  try go_wp2
  refine wp_region_held_drew (S := fun W' => RowV W' W.heap.size 75 [.bool p.inner, .bool p.d, .bool p.l]) (by kernel_rfl) (by exact BX.out) (fun hHeld => ?_)
  have hp : PV A B pb ts tv w0.drew s vl vs := HP.out.drewN 1
  have hs : Step w0.heap.size B pb w0 vl vs w0.drew vl vs := Step.drewN (Step.refl w0.heap.size B pb w0 vl vs) 1
  replace HS := hid' (HS.out.then (Nat.le_refl _) hs)
  replace HP := hid' hp
  clear hp hs
  replace BX : Hid (RowV w0.drew W.heap.size 75 [.bool p.inner, .bool p.d, .bool p.l]) := hid' hHeld
  refine take_val' (i := 0) (v := .pointer (some ⟨pb, 0, none⟩)) rfl (by kernel_rfl) (by kernel_rfl) (by kernel_rfl) (some 8) rfl (fun _ _ _ h => h) (Or.inl ⟨by rfl, fun W' hW => by go_simp⟩) hHeld ?_
  try simp only [Act.put, List.setIfInBounds_toArray, List.set_cons_zero, List.set_cons_succ]
  refine take_val' (i := 2) (v := .pointer (some ⟨pb, 0, none⟩)) rfl (by kernel_rfl) (by kernel_rfl) (by kernel_rfl) (some 10) rfl (fun _ _ _ h => h) (Or.inl ⟨by rfl, fun W' hW => by go_simp⟩) hHeld ?_
  try simp only [Act.put, List.setIfInBounds_toArray, List.set_cons_zero, List.set_cons_succ]
  refine take_val' (i := 3) (v := .agg #[.bool p.inner, .bool p.d, .bool p.l]) rfl (by kernel_rfl) (by kernel_rfl) (by kernel_rfl) (some 11) rfl (fun _ _ _ h => h) (Or.inl ⟨by rfl, fun W' hW => by have y0 := RowV.cell hW (j := 0) rfl; have y1 := RowV.cell hW (j := 1) rfl; have y2 := RowV.cell hW (j := 2) rfl; go_simp⟩) hHeld ?_
  try simp only [Act.put, List.setIfInBounds_toArray, List.set_cons_zero, List.set_cons_succ]
  refine wpAnyH_ready (rs := [1]) (by kernel_rfl) (by simp) ?_
  refine AllReadyH.cons rfl (fun K hK => ?_) AllReadyH.nil
  go_simp
  generalize hq1 : runF ts m .test s = r1 at HR
  rcases r1 with _ | ⟨l1, p1⟩ | ⟨z1, y1, c1, s1⟩
  · exact absurd HR.out.symm hnr
  · refine Calls.mono (H.test _ _ _ _ _ HP.out hq1 (by simp)) ?_
    rintro e wb hp
    have HF := hid' (FaultP.of_below hp HS.out.below)
    obtain ⟨gb, rfl, _⟩ := hp
    obtain rfl : R.bad l1 p1 = r := HR.out
    exact ⟨rfl, HF.out⟩
  refine Calls.mono (H.test _ _ _ _ _ HP.out hq1 (by simp)) ?_
  rintro e w1 ⟨vl1, vs1, rfl, hp, hs⟩
  replace BX := hid' (BX.out.stepR (by decide) (by decide) HP.out hs)
  replace HS := hid' (HS.out.then (Nat.le_refl _) hs)
  replace HP := hid' hp
  clear hp hs
  try dsimp only [R.bind] at HR
  clear hq1 hHeld
  refine hK.out _ _ BX.out (fun hHeld => ?_)
  clear hK K
  try simp only [Act.put, List.setIfInBounds_toArray, List.set_cons_zero, List.set_cons_succ]
  refine wpAnyH_ready (rs := [4]) (by kernel_rfl) (by simp) ?_
  refine AllReadyH.cons rfl (fun K hK => ?_) AllReadyH.nil
  go_simp
  generalize hq2 : runF ts m (.block p) s1 = r2 at HR
  rcases r2 with _ | ⟨l2, p2⟩ | ⟨z2, y2, c2, s2⟩
  · exact absurd HR.out.symm hnr
  · refine Calls.mono (H.block p _ _ _ _ _ HP.out hq2 (by simp)) ?_
    rintro e wb hp
    have HF := hid' (FaultP.of_below hp HS.out.below)
    obtain ⟨gb, rfl, _⟩ := hp
    obtain rfl : R.bad l2 p2 = r := HR.out
    exact ⟨rfl, HF.out⟩
  refine Calls.mono (H.block p _ _ _ _ _ HP.out hq2 (by simp)) ?_
  rintro e w2 ⟨vl2, vs2, rfl, hp, hs⟩
  replace BX := hid' (BX.out.stepR (by decide) (by decide) HP.out hs)
  replace HS := hid' (HS.out.then (Nat.le_refl _) hs)
  replace HP := hid' hp
  clear hp hs
  try dsimp only [R.bind] at HR
  clear hq2 hHeld
  refine hK.out _ _ BX.out (fun hHeld => ?_)
  clear hK K
  try simp only [Act.put, List.setIfInBounds_toArray, List.set_cons_zero, List.set_cons_succ]
  refine wpAnyH_ready (rs := [5]) (by kernel_rfl) (by simp) ?_
  refine AllReadyH.cons rfl (fun K hK => ?_) AllReadyH.nil
  go_simp
  clear hHeld
  refine hK.out _ _ (row_alloc BX.out (.cells #[.int .i64 z1, .int .i64 z2] 3)) (fun hHeld => ?_)
  clear hK K
  try simp only [Act.put, List.setIfInBounds_toArray, List.set_cons_zero, List.set_cons_succ]
  refine take_val' (i := 6) (v := .slice (some ⟨w2.heap.size, 0, none⟩) 2 2) rfl (by kernel_rfl) (by kernel_rfl) (by kernel_rfl) (some 7) rfl (fun _ _ _ h => h) (Or.inl ⟨by rfl, fun W' hW => by go_simp⟩) hHeld ?_
  try simp only [Act.put, List.setIfInBounds_toArray, List.set_cons_zero, List.set_cons_succ]
  refine wpAnyH_done (by kernel_rfl) ?_ _
  replace BX := hid' (row_alloc BX.out (.cells #[.int .i64 z1, .int .i64 z2] 3))
  clear hHeld
  have hol := own_new w2 B HP.out.lowB [z1, z2] (by simp) #[.int .i64 z1, .int .i64 z2] rfl 2 rfl
  have hle := HS.out.below.size
  have HV := hid' (fun k hk => Nat.le_trans hle (hol.2 k hk) : ∀ k, _ → W.heap.size ≤ k)
  have HOFF := hid' (Off.new HP.out hol.2)
  have HOZ := hid' hol.1
  clear hol hle
  replace HS := hid' (HS.out.alloc (.cells #[.int .i64 z1, .int .i64 z2] 3) HLO.out)
  replace HP := hid' (HP.out.alloc (.cells #[.int .i64 z1, .int .i64 z2] 3))
  rw [Px.signF] at HR
  generalize ht3 : ts[PS.at_ s2]? = o3 at HR
  rcases o3 with _ | t3
  · exact absurd HR.out.symm hnr
  try dsimp only at HR
  go_wp2_with fail
  refine Calls.mono (sees_any HP.out t3 ht3 sElif) ?_
  rintro e w4 ⟨rfl, b⟩
  have hp := HP.out.low b
  have hs := Step.low (n := (w2.alloc (.cells #[.int .i64 z1, .int .i64 z2] 3)).heap.size) HP.out b
  clear b
  replace BX := hid' (BX.out.stepR (by decide) (by decide) HP.out hs)
  have hoz := HOZ.out.step HP.out hs
  replace HOFF := hid' (HOFF.out.step hs (fun k hk => (World.ownsRow.lt HOZ.out k hk).2))
  replace HOZ := hid' hoz
  clear hoz
  replace HS := hid' (HS.out.then (Nat.le_refl _) hs)
  replace HP := hid' hp
  clear hp hs
  by_cases hl : sg t3 = sElif
  · rw [if_pos hl] at HR
    rw [decide_eq_true hl]
    have bx0 := BX.out.cell (j := 0) rfl
    have bx1 := BX.out.cell (j := 1) rfl
    have bx2 := BX.out.cell (j := 2) rfl
    have bxl := BX.out.lt
    go_wp2_with fail
    generalize hq5 : runF ts m (.elif p) s2 = r5 at HR
    rcases r5 with _ | ⟨l5, p5⟩ | ⟨z5, y5, c5, s5⟩
    · exact absurd HR.out.symm hnr
    · refine Calls.mono (H.elif p _ _ _ _ _ HP.out hq5 (by simp)) ?_
      rintro e wb hp
      have HF := hid' (FaultP.of_below hp HS.out.below)
      obtain ⟨gb, rfl, _⟩ := hp
      obtain rfl : R.bad l5 p5 = r := HR.out
      go_wp2
      exact ⟨rfl, HF.out⟩
    refine Calls.mono (H.elif p _ _ _ _ _ HP.out hq5 (by simp)) ?_
    rintro e w5 ⟨vl5, vs5, rfl, hp, hs⟩
    have hle5 := HS.out.below.size
    replace BX := hid' (BX.out.stepR (by decide) (by decide) HP.out hs)
    have hoz := HOZ.out.step HP.out hs
    replace HOFF := hid' (HOFF.out.step hs (fun k hk => (World.ownsRow.lt HOZ.out k hk).2))
    replace HOZ := hid' hoz
    clear hoz
    replace HS := hid' (HS.out.then (Nat.le_refl _) hs)
    replace HP := hid' hp
    clear hp hs
    dsimp only [R.bind] at HR
    clear hq5
    clear bxl bx0 bx1 bx2
    go_wp2_with (at_builtin; refine num_plain HOZ.out z5 3 rfl HP.out.lowB (by simp) rfl (.tmp 16) (.tmp 20) (by rfl) (by rfl) (by rfl) ?_; intro g5 cap5 w5 q1 q2 q3 q4 q5; have HQ := hid' (row_push (m := 3) HP.out HS.out HOZ.out HOFF.out HV.out q2 q3 g5 cap5 q4); have HZ5 := hid' q1; clear q1 q2 q3 q4 q5)
    have HP9 := hid' HQ.out.1
    have HS9 := hid' HQ.out.2.1
    have HF9 := hid' HQ.out.2.2.1
    have HV9 := hid' HQ.out.2.2.2
    clear HP HS HOZ HOFF HV HQ BX
    have HP := HP9
    have HS := HS9
    have HOZ := HZ5
    have HOFF := HF9
    have HV := HV9
    clear HP9 HS9 HF9 HV9 HZ5
    have HVW := HV
    rw [addF] at HR
    by_cases hn7 : ¬ ((PS.nodes s5).length < 900000 ∧ (List.length ([z1, z2, z5] : List Int)) < 900000)
    · rw [if_neg hn7] at HR
      exact absurd HR.out.symm hnr
    rw [Decidable.not_not] at hn7
    rw [if_pos hn7] at HR
    go_wp2_with fail
    refine Calls.mono (p_add_any HP.out 43 pos ⟨#[]⟩ (by decide) _ ([z1, z2, z5]) HOZ.out HOFF.out hn7.1 hn7.2 (n := W.heap.size) HVW.out) ?_
    rintro e w7 ⟨rfl, vl7, vs7, hp, hs⟩
    replace HS := hid' (HS.out.trans hs)
    replace HP := hid' hp
    clear hp hs
    obtain rfl := HR.out
    go_wp2
    go_returns
    exact ⟨_, _, rfl, HP.out, HS.out⟩
  rw [if_neg hl] at HR
  rw [decide_eq_false hl]
  have HSK := hid' (skip_any HP.out t3 ht3 sElse)
  by_cases h2 : sg t3 = sElse
  · rw [if_pos h2] at HR
    rw [decide_eq_true h2, if_pos h2] at HSK
    go_wp2_with fail
    refine Calls.mono (HSK.out) ?_
    rintro e w8 ⟨rfl, hp, hst⟩
    have hs := hst.step w4.heap.size vl2 vs2
    clear hst
    replace BX := hid' (BX.out.stepR (by decide) (by decide) HP.out hs)
    have hoz := HOZ.out.step HP.out hs
    replace HOFF := hid' (HOFF.out.step hs (fun k hk => (World.ownsRow.lt HOZ.out k hk).2))
    replace HOZ := hid' hoz
    clear hoz
    replace HS := hid' (HS.out.then (Nat.le_refl _) hs)
    replace HP := hid' hp
    clear hp hs
    generalize (PS.mk (PS.at_ s2 + 1) (PS.nodes s2) (PS.deep s2)) = s8 at HP HR
    have bx0 := BX.out.cell (j := 0) rfl
    have bx1 := BX.out.cell (j := 1) rfl
    have bx2 := BX.out.cell (j := 2) rfl
    have bxl := BX.out.lt
    go_wp2_with fail
    generalize hq9 : runF ts m (.block p) s8 = r9 at HR
    rcases r9 with _ | ⟨l9, p9⟩ | ⟨z9, y9, c9, s9⟩
    · exact absurd HR.out.symm hnr
    · refine Calls.mono (H.block p _ _ _ _ _ HP.out hq9 (by simp)) ?_
      rintro e wb hp
      have HF := hid' (FaultP.of_below hp HS.out.below)
      obtain ⟨gb, rfl, _⟩ := hp
      obtain rfl : R.bad l9 p9 = r := HR.out
      go_wp2
      exact ⟨rfl, HF.out⟩
    refine Calls.mono (H.block p _ _ _ _ _ HP.out hq9 (by simp)) ?_
    rintro e w9 ⟨vl9, vs9, rfl, hp, hs⟩
    have hle9 := HS.out.below.size
    replace BX := hid' (BX.out.stepR (by decide) (by decide) HP.out hs)
    have hoz := HOZ.out.step HP.out hs
    replace HOFF := hid' (HOFF.out.step hs (fun k hk => (World.ownsRow.lt HOZ.out k hk).2))
    replace HOZ := hid' hoz
    clear hoz
    replace HS := hid' (HS.out.then (Nat.le_refl _) hs)
    replace HP := hid' hp
    clear hp hs
    dsimp only [R.bind] at HR
    clear hq9
    clear bxl bx0 bx1 bx2
    go_wp2_with (at_builtin; refine num_plain HOZ.out z9 3 rfl HP.out.lowB (by simp) rfl (.tmp 24) (.tmp 28) (by rfl) (by rfl) (by rfl) ?_; intro g5 cap5 w5 q1 q2 q3 q4 q5; have HQ := hid' (row_push (m := 3) HP.out HS.out HOZ.out HOFF.out HV.out q2 q3 g5 cap5 q4); have HZ5 := hid' q1; clear q1 q2 q3 q4 q5)
    have HP9 := hid' HQ.out.1
    have HS9 := hid' HQ.out.2.1
    have HF9 := hid' HQ.out.2.2.1
    have HV9 := hid' HQ.out.2.2.2
    clear HP HS HOZ HOFF HV HQ BX
    have HP := HP9
    have HS := HS9
    have HOZ := HZ5
    have HOFF := HF9
    have HV := HV9
    clear HP9 HS9 HF9 HV9 HZ5
    have HVW := HV
    rw [addF] at HR
    by_cases hn11 : ¬ ((PS.nodes s9).length < 900000 ∧ (List.length ([z1, z2, z9] : List Int)) < 900000)
    · rw [if_neg hn11] at HR
      exact absurd HR.out.symm hnr
    rw [Decidable.not_not] at hn11
    rw [if_pos hn11] at HR
    go_wp2_with fail
    refine Calls.mono (p_add_any HP.out 43 pos ⟨#[]⟩ (by decide) _ ([z1, z2, z9]) HOZ.out HOFF.out hn11.1 hn11.2 (n := W.heap.size) HVW.out) ?_
    rintro e w11 ⟨rfl, vl11, vs11, hp, hs⟩
    replace HS := hid' (HS.out.trans hs)
    replace HP := hid' hp
    clear hp hs
    obtain rfl := HR.out
    go_wp2
    go_returns
    exact ⟨_, _, rfl, HP.out, HS.out⟩
  rw [if_neg h2] at HR
  rw [decide_eq_false h2, if_neg h2] at HSK
  go_wp2_with fail
  refine Calls.mono (HSK.out) ?_
  rintro e w12 ⟨rfl, hp, hst⟩
  have hs := hst.step w4.heap.size vl2 vs2
  clear hst
  replace BX := hid' (BX.out.stepR (by decide) (by decide) HP.out hs)
  have hoz := HOZ.out.step HP.out hs
  replace HOFF := hid' (HOFF.out.step hs (fun k hk => (World.ownsRow.lt HOZ.out k hk).2))
  replace HOZ := hid' hoz
  clear hoz
  replace HS := hid' (HS.out.then (Nat.le_refl _) hs)
  replace HP := hid' hp
  clear hp hs
  clear BX
  have HVW := HV
  rw [addF] at HR
  by_cases hn13 : ¬ ((PS.nodes s2).length < 900000 ∧ (List.length ([z1, z2] : List Int)) < 900000)
  · rw [if_neg hn13] at HR
    exact absurd HR.out.symm hnr
  rw [Decidable.not_not] at hn13
  rw [if_pos hn13] at HR
  go_wp2_with fail
  refine Calls.mono (p_add_any HP.out 43 pos ⟨#[]⟩ (by decide) _ ([z1, z2]) HOZ.out HOFF.out hn13.1 hn13.2 (n := W.heap.size) HVW.out) ?_
  rintro e w13 ⟨rfl, vl13, vs13, hp, hs⟩
  replace HS := hid' (HS.out.trans hs)
  replace HP := hid' hp
  clear hp hs
  obtain rfl := HR.out
  go_wp2
  go_returns
  exact ⟨_, _, rfl, HP.out, HS.out⟩

set_option maxRecDepth 10000 in
set_option maxHeartbeats 3200000 in
theorem elif_step {A : Nat → Addr} {B pb : Nat} {ts : List Tok} {tv : Value} {m : Nat} (p : Pl) (H : All A B pb ts tv m) : Does A B pb ts tv 75 #[ptr pb, plV p] (.elif p) (m + 1) := by
  intro W s vl vs r h hr hnr
  have HR := hid' hr
  have HP := hid' h
  have HS := hid' (Step.refl W.heap.size B pb W vl vs)
  have HLO := hid' h.lowB
  clear hr h
  rw [runF] at HR
  unfold bodyF at HR
  dsimp only at HR
  have hnot : ∀ (x : Bool) (w : World), (Op.unary .not (.bool x)).run Tryz.prog w = .ok (.bool (!x)) w := fun _ _ => rfl
  have hfk := tok_kind
  have hfp := tok_pos
  unfold ptr plV
  go_enter Tryz.func75, Tryz.ntmps75
  go_wp2_with fail
  have hp := HP.out.alloc (.cells #[.bool p.inner, .bool p.d, .bool p.l] 75)
  replace HS := hid' (HS.out.alloc (.cells #[.bool p.inner, .bool p.d, .bool p.l] 75) HLO.out)
  have BX := hid' (row_new W 75 [.bool p.inner, .bool p.d, .bool p.l])
  generalize hw0 : W.alloc (.cells #[.bool p.inner, .bool p.d, .bool p.l] 75) = w0 at hp HS
  have HW0 := hid' hw0
  clear hw0
  replace BX : Hid (RowV w0 W.heap.size 75 [.bool p.inner, .bool p.d, .bool p.l]) := hid' (by rw [← HW0.out]; exact BX.out)
  clear HW0
  replace HP := hid' hp
  clear hp
  rw [enterF, needF] at HR
  generalize ht1 : ts[PS.at_ s]? = o1 at HR
  rcases o1 with _ | t1
  · exact absurd HR.out.symm hnr
  try dsimp only at HR
  by_cases hl2 : ¬ sg t1 = sElif
  · rw [if_neg hl2] at HR
    go_wp2_with fail
    · refine Calls.mono (enter_miss HP.out t1 ht1 sElif hl2) ?_
      rintro e wb hp
      have HF := hid' (FaultP.of_below hp HS.out.below)
      obtain ⟨gb, rfl, _⟩ := hp
      obtain rfl : R.bad false t1.pos = r := HR.out
      go_wp2
      exact ⟨rfl, HF.out⟩
  rw [Decidable.not_not] at hl2
  rw [if_pos hl2] at HR
  try dsimp only at HR
  by_cases hd4 : PS.deep s = 60
  · rw [if_pos hd4] at HR
    go_wp2_with fail
    · refine Calls.mono (enter_deep HP.out t1 ht1 sElif hl2 hd4) ?_
      rintro e wb hp
      have HF := hid' (FaultP.of_below hp HS.out.below)
      obtain ⟨gb, rfl, _⟩ := hp
      obtain rfl : R.bad true t1.pos = r := HR.out
      go_wp2
      exact ⟨rfl, HF.out⟩
  rw [if_neg hd4] at HR
  go_wp2_with fail
  refine Calls.mono (enter_hit HP.out t1 ht1 sElif hl2 hd4) ?_
  rintro e w6 ⟨rfl, hp, hst⟩
  have hs := hst.step w0.heap.size vl vs
  clear hst
  replace BX := hid' (BX.out.stepR (by decide) (by decide) HP.out hs)
  replace HS := hid' (HS.out.then (Nat.le_refl _) hs)
  replace HP := hid' hp
  clear hp hs
  generalize (PS.mk (PS.at_ s + 1) (PS.nodes s) (PS.deep s + 1)) = s6 at HP HR
  have bx0 := BX.out.cell (j := 0) rfl
  have bx1 := BX.out.cell (j := 1) rfl
  have bx2 := BX.out.cell (j := 2) rfl
  have bxl := BX.out.lt
  go_wp2_with fail
  generalize hq7 : runF ts m (.cond _ p) s6 = r7 at HR
  rcases r7 with _ | ⟨l7, p7⟩ | ⟨z7, y7, c7, s7⟩
  · exact absurd HR.out.symm hnr
  clear bxl bx0 bx1 bx2
  · refine Calls.mono (H.cond _ p _ _ _ _ _ HP.out hq7 (by simp)) ?_
    rintro e wb hp
    have HF := hid' (FaultP.of_below hp HS.out.below)
    obtain ⟨gb, rfl, _⟩ := hp
    obtain rfl : R.bad l7 p7 = r := HR.out
    go_wp2
    exact ⟨rfl, HF.out⟩
  refine Calls.mono (H.cond _ p _ _ _ _ _ HP.out hq7 (by simp)) ?_
  rintro e w7 ⟨vl7, vs7, rfl, hp, hs⟩
  replace BX := hid' (BX.out.stepR (by decide) (by decide) HP.out hs)
  replace HS := hid' (HS.out.then (Nat.le_refl _) hs)
  replace HP := hid' hp
  clear hp hs
  try dsimp only [R.bind] at HR
  clear hq7
  clear BX
  rw [leaveF] at HR
  by_cases hd9 : PS.deep s7 = 0
  · rw [if_pos hd9] at HR
    exact absurd HR.out.symm hnr
  rw [if_neg hd9] at HR
  go_wp2_with fail
  refine Calls.mono (leave_any HP.out hd9) ?_
  rintro e w10 ⟨rfl, hp, hst⟩
  have hs := hst.step w7.heap.size vl7 vs7
  clear hst
  replace HS := hid' (HS.out.then (Nat.le_refl _) hs)
  replace HP := hid' hp
  clear hp hs
  generalize (PS.mk (PS.at_ s7) (PS.nodes s7) (PS.deep s7 - 1)) = s10 at HP HR
  have hol := own_new w10 B HP.out.lowB [z7] (by simp) #[.int .i64 z7] rfl 1 rfl
  have hle := HS.out.below.size
  have HV := hid' (fun k hk => Nat.le_trans hle (hol.2 k hk) : ∀ k, _ → W.heap.size ≤ k)
  have HOFF := hid' (Off.new HP.out hol.2)
  have HOZ := hid' hol.1
  clear hol hle
  replace HS := hid' (HS.out.alloc (.cells #[.int .i64 z7] 3) HLO.out)
  replace HP := hid' (HP.out.alloc (.cells #[.int .i64 z7] 3))
  unfold blockF at HR
  try dsimp only at HR
  go_wp2_with fail
  refine Calls.mono (addBlock_any HP.out _ z7 [] HOZ.out HOFF.out _ HR.out hnr W.heap.size HV.out) ?_
  rintro e we ⟨zb, sb, vle, vse, rfl, rfl, hp, hs⟩
  have HS2 := hid' (HS.out.trans hs)
  have HP2 := hid' hp
  clear hp hs
  go_wp2
  go_returns
  exact ⟨_, _, rfl, HP2.out, HS2.out⟩

set_option maxRecDepth 10000 in
set_option maxHeartbeats 6400000 in
theorem block_step {A : Nat → Addr} {B pb : Nat} {ts : List Tok} {tv : Value} {m : Nat} (p : Pl) (H : All A B pb ts tv m) : Does A B pb ts tv 73 #[ptr pb, plV p] (.block p) (m + 1) := by
  intro W s vl vs r h hr hnr
  have HR := hid' hr
  have HP := hid' h
  have HS := hid' (Step.refl W.heap.size B pb W vl vs)
  have HLO := hid' h.lowB
  clear hr h
  rw [runF] at HR
  unfold bodyF at HR
  dsimp only at HR
  have hnot : ∀ (x : Bool) (w : World), (Op.unary .not (.bool x)).run Tryz.prog w = .ok (.bool (!x)) w := fun _ _ => rfl
  have hfk := tok_kind
  have hfp := tok_pos
  unfold ptr plV
  go_enter Tryz.func73, Tryz.ntmps73
  go_wp2_with fail
  have hp := HP.out.alloc (.cells #[.bool p.inner, .bool p.d, .bool p.l] 75)
  replace HS := hid' (HS.out.alloc (.cells #[.bool p.inner, .bool p.d, .bool p.l] 75) HLO.out)
  have BX := hid' (row_new W 75 [.bool p.inner, .bool p.d, .bool p.l])
  generalize hw0 : W.alloc (.cells #[.bool p.inner, .bool p.d, .bool p.l] 75) = w0 at hp HS
  have HW0 := hid' hw0
  clear hw0
  replace BX : Hid (RowV w0 W.heap.size 75 [.bool p.inner, .bool p.d, .bool p.l]) := hid' (by rw [← HW0.out]; exact BX.out)
  clear HW0
  replace HP := hid' hp
  clear hp
  rw [enterF, needF] at HR
  generalize ht1 : ts[PS.at_ s]? = o1 at HR
  rcases o1 with _ | t1
  · exact absurd HR.out.symm hnr
  try dsimp only at HR
  by_cases hl2 : ¬ sg t1 = [58]
  · rw [if_neg hl2] at HR
    go_wp2_with fail
    · refine Calls.mono (enter_miss HP.out t1 ht1 [58] hl2) ?_
      rintro e wb hp
      have HF := hid' (FaultP.of_below hp HS.out.below)
      obtain ⟨gb, rfl, _⟩ := hp
      obtain rfl : R.bad false t1.pos = r := HR.out
      go_wp2
      exact ⟨rfl, HF.out⟩
  rw [Decidable.not_not] at hl2
  rw [if_pos hl2] at HR
  try dsimp only at HR
  by_cases hd4 : PS.deep s = 60
  · rw [if_pos hd4] at HR
    go_wp2_with fail
    · refine Calls.mono (enter_deep HP.out t1 ht1 [58] hl2 hd4) ?_
      rintro e wb hp
      have HF := hid' (FaultP.of_below hp HS.out.below)
      obtain ⟨gb, rfl, _⟩ := hp
      obtain rfl : R.bad true t1.pos = r := HR.out
      go_wp2
      exact ⟨rfl, HF.out⟩
  rw [if_neg hd4] at HR
  go_wp2_with fail
  refine Calls.mono (enter_hit HP.out t1 ht1 [58] hl2 hd4) ?_
  rintro e w6 ⟨rfl, hp, hst⟩
  have hs := hst.step w0.heap.size vl vs
  clear hst
  replace BX := hid' (BX.out.stepR (by decide) (by decide) HP.out hs)
  replace HS := hid' (HS.out.then (Nat.le_refl _) hs)
  replace HP := hid' hp
  clear hp hs
  generalize (PS.mk (PS.at_ s + 1) (PS.nodes s) (PS.deep s + 1)) = s6 at HP HR
  rw [kindF] at HR
  generalize ht7 : ts[PS.at_ s6]? = o7 at HR
  rcases o7 with _ | t7
  · exact absurd HR.out.symm hnr
  try dsimp only at HR
  have hbx := BX.out
  have hbo := hbx.open_ 0
  have hbc0 := hbx.cell (j := 0) rfl
  have hbc1 := hbx.cell (j := 1) rfl
  have hbc2 := hbx.cell (j := 2) rfl
  have hbl := hbx.lt
  go_wp2_with fail
  replace HP := hid' (HP.out.setBox hbx (by decide) (by decide) (by decide) HLO.out 0 (.bool true))
  replace HS := hid' (HS.out.set ⟨W.heap.size, 0, none⟩ (.bool true) (.inl (Nat.le_refl _)) HLO.out HP.out.high)
  replace BX : Hid (RowV (w6.setCell ⟨W.heap.size, 0, none⟩ (.bool true)) W.heap.size 75 [.bool true, .bool p.d, .bool p.l]) := hid' (hbx.set 0 (.bool true))
  clear hbx hbo hbc0 hbc1 hbc2 hbl
  go_wp2_with fail
  refine Calls.mono (p_token_any HP.out t7 ht7) ?_
  rintro e w8 ⟨rfl, b⟩
  have hp := HP.out.low b
  have hs := Step.low (n := (w6.setCell ⟨W.heap.size, 0, none⟩ (.bool true)).heap.size) HP.out b
  clear b
  replace BX := hid' (BX.out.stepR (by decide) (by decide) HP.out hs)
  replace HS := hid' (HS.out.then (Nat.le_refl _) hs)
  replace HP := hid' hp
  clear hp hs
  by_cases h5 : t7.kind = 5
  · rw [if_pos h5] at HR
    have q5 : ((t7.kind : Int) == 5) = true := by rw [h5]; rfl
    clear h5
    have bx0 := BX.out.cell (j := 0) rfl
    have bx1 := BX.out.cell (j := 1) rfl
    have bx2 := BX.out.cell (j := 2) rfl
    have bxl := BX.out.lt
    go_wp2_with fail
    generalize hq9 : runF ts m (.lines { p with inner := true }) s6 = r9 at HR
    rcases r9 with _ | ⟨l9, p9⟩ | ⟨z9, y9, c9, s9⟩
    · exact absurd HR.out.symm hnr
    clear bxl bx0 bx1 bx2
    · refine Calls.mono (H.lines { p with inner := true } _ _ _ _ _ HP.out hq9 (by simp)) ?_
      rintro e wb hp
      have HF := hid' (FaultP.of_below hp HS.out.below)
      obtain ⟨gb, rfl, _⟩ := hp
      obtain rfl : R.bad l9 p9 = r := HR.out
      go_wp2
      exact ⟨rfl, HF.out⟩
    refine Calls.mono (H.lines { p with inner := true } _ _ _ _ _ HP.out hq9 (by simp)) ?_
    rintro e w9 ⟨v9, vl9, vs9, rfl, hp, hs, ho, hv, hf⟩
    have HOZ := hid' ho
    have hle := HS.out.below.size
    have HV := hid' (fun k hk => Nat.le_trans hle (hv k hk) : ∀ k, _ → W.heap.size ≤ k)
    have HOFF := hid' hf
    clear ho hv hf hle BX
    replace HS := hid' (HS.out.then (Nat.le_refl _) hs)
    replace HP := hid' hp
    clear hp hs
    try dsimp only [R.bind] at HR
    clear hq9
    rw [leaveF] at HR
    by_cases hd11 : PS.deep s9 = 0
    · rw [if_pos hd11] at HR
      exact absurd HR.out.symm hnr
    rw [if_neg hd11] at HR
    go_wp2_with fail
    refine Calls.mono (leave_any HP.out hd11) ?_
    rintro e w12 ⟨rfl, hp, hst⟩
    have hs := hst.step w9.heap.size vl9 vs9
    clear hst
    have hoz := HOZ.out.step HP.out hs
    replace HOFF := hid' (HOFF.out.step hs (fun k hk => (World.ownsRow.lt HOZ.out k hk).2))
    replace HOZ := hid' hoz
    clear hoz
    replace HS := hid' (HS.out.then (Nat.le_refl _) hs)
    replace HP := hid' hp
    clear hp hs
    generalize (PS.mk (PS.at_ s9) (PS.nodes s9) (PS.deep s9 - 1)) = s12 at HP HR
    rcases y9 with _ | ⟨z0, zr0⟩
    · exact absurd HR.out.symm hnr
    unfold blockF at HR
    try dsimp only at HR
    go_wp2_with fail
    refine Calls.mono (addBlock_any HP.out _ z0 zr0 HOZ.out HOFF.out _ HR.out hnr W.heap.size HV.out) ?_
    rintro e we ⟨zb, sb, vle, vse, rfl, rfl, hp, hs⟩
    have HS2 := hid' (HS.out.trans hs)
    have HP2 := hid' hp
    clear hp hs
    go_wp2
    go_returns
    exact ⟨_, _, rfl, HP2.out, HS2.out⟩
  rw [if_neg h5] at HR
  have q5 : ((t7.kind : Int) == 5) = false := by simp; omega
  clear h5
  have bx0 := BX.out.cell (j := 0) rfl
  have bx1 := BX.out.cell (j := 1) rfl
  have bx2 := BX.out.cell (j := 2) rfl
  have bxl := BX.out.lt
  go_wp2_with fail
  generalize hq14 : runF ts m (.line { p with inner := true }) s6 = r14 at HR
  rcases r14 with _ | ⟨l14, p14⟩ | ⟨z14, y14, c14, s14⟩
  · exact absurd HR.out.symm hnr
  · refine Calls.mono (H.line { p with inner := true } _ _ _ _ _ HP.out hq14 (by simp)) ?_
    rintro e wb hp
    have HF := hid' (FaultP.of_below hp HS.out.below)
    obtain ⟨gb, rfl, _⟩ := hp
    obtain rfl : R.bad l14 p14 = r := HR.out
    go_wp2
    exact ⟨rfl, HF.out⟩
  refine Calls.mono (H.line { p with inner := true } _ _ _ _ _ HP.out hq14 (by simp)) ?_
  rintro e w14 ⟨vl14, vs14, rfl, hp, hs⟩
  have hle14 := HS.out.below.size
  replace BX := hid' (BX.out.stepR (by decide) (by decide) HP.out hs)
  replace HS := hid' (HS.out.then (Nat.le_refl _) hs)
  replace HP := hid' hp
  clear hp hs
  dsimp only [R.bind] at HR
  clear hq14
  clear bxl bx0 bx1 bx2
  have HOZ := hid' (OwnZ.nil w14 B)
  have HOFF := hid' (off_nil vs14 0 0)
  have HV := hid' (fun _ e => by simp [Value.ownBlock] at e : ∀ k, (Value.slice none 0 0).ownBlock = some k → W.heap.size ≤ k)
  go_wp2_with (at_builtin; refine num_plain HOZ.out z14 1 rfl HP.out.lowB (by simp) rfl (.tmp 16) (.tmp 20) (by rfl) (by rfl) (by rfl) ?_; intro g5 cap5 w5 q1 q2 q3 q4 q5; have HQ := hid' (row_push (m := 1) HP.out HS.out HOZ.out HOFF.out HV.out q2 q3 g5 cap5 q4); have HZ5 := hid' q1; clear q1 q2 q3 q4 q5)
  have HP9 := hid' HQ.out.1
  have HS9 := hid' HQ.out.2.1
  have HF9 := hid' HQ.out.2.2.1
  have HV9 := hid' HQ.out.2.2.2
  clear HP HS HOZ HOFF HV HQ BX
  have HP := HP9
  have HS := HS9
  have HOZ := HZ5
  have HOFF := HF9
  have HV := HV9
  clear HP9 HS9 HF9 HV9 HZ5
  rw [leaveF] at HR
  by_cases hd16 : PS.deep s14 = 0
  · rw [if_pos hd16] at HR
    exact absurd HR.out.symm hnr
  rw [if_neg hd16] at HR
  go_wp2_with fail
  refine Calls.mono (leave_any HP.out hd16) ?_
  rintro e w17 ⟨rfl, hp, hst⟩
  have hs := hst.step w5.heap.size vl14 vs14
  clear hst
  have hoz := HOZ.out.step HP.out hs
  replace HOFF := hid' (HOFF.out.step hs (fun k hk => (World.ownsRow.lt HOZ.out k hk).2))
  replace HOZ := hid' hoz
  clear hoz
  replace HS := hid' (HS.out.then (Nat.le_refl _) hs)
  replace HP := hid' hp
  clear hp hs
  generalize (PS.mk (PS.at_ s14) (PS.nodes s14) (PS.deep s14 - 1)) = s17 at HP HR
  unfold blockF at HR
  try dsimp only at HR
  go_wp2_with fail
  refine Calls.mono (addBlock_any HP.out _ z14 [] HOZ.out HOFF.out _ HR.out hnr W.heap.size HV.out) ?_
  rintro e we ⟨zb, sb, vle, vse, rfl, rfl, hp, hs⟩
  have HS2 := hid' (HS.out.trans hs)
  have HP2 := hid' hp
  clear hp hs
  go_wp2
  go_returns
  exact ⟨_, _, rfl, HP2.out, HS2.out⟩

theorem own_apart_box {W : World} {B b0 : Nat} {v : Value} {zs : List Int} {cs : List Value} (h : OwnZ W B v zs) (hb : RowV W b0 75 cs) : v.ownBlock ≠ some b0 := fun e => ne_kind h hb (by decide) b0 e rfl

set_option maxRecDepth 10000 in
set_option maxHeartbeats 6400000 in
theorem lines_step {A : Nat → Addr} {B pb : Nat} {ts : List Tok} {tv : Value} {m : Nat} (p : Pl) (H : ∀ j, j ≤ m → All A B pb ts tv j) : DoesL A B pb ts tv 103 #[ptr pb, plV p] (.lines p) (m + 1) := by
  intro W s vl vs r h hr hnr
  have HR := hid' hr
  have HP := hid' h
  have HS := hid' (Step.refl W.heap.size B pb W vl vs)
  have HLO := hid' h.lowB
  clear hr h
  rw [runF] at HR
  unfold bodyF at HR
  dsimp only at HR
  have hnot : ∀ (x : Bool) (w : World), (Op.unary .not (.bool x)).run Tryz.prog w = .ok (.bool (!x)) w := fun _ _ => rfl
  have hfk := tok_kind
  have hfp := tok_pos
  unfold ptr plV
  go_enter Tryz.func103, Tryz.ntmps103
  go_wp2_with fail
  have hp := HP.out.alloc (.cells #[.bool p.inner, .bool p.d, .bool p.l] 75)
  replace HS := hid' (HS.out.alloc (.cells #[.bool p.inner, .bool p.d, .bool p.l] 75) HLO.out)
  have BX := hid' (row_new W 75 [.bool p.inner, .bool p.d, .bool p.l])
  generalize hw0 : W.alloc (.cells #[.bool p.inner, .bool p.d, .bool p.l] 75) = w0 at hp HS
  have HW0 := hid' hw0
  clear hw0
  replace BX : Hid (RowV w0 W.heap.size 75 [.bool p.inner, .bool p.d, .bool p.l]) := hid' (by rw [← HW0.out]; exact BX.out)
  clear HW0
  replace HP := hid' hp
  clear hp
  rw [takeKF] at HR
  generalize ht1 : ts[PS.at_ s]? = o1 at HR
  rcases o1 with _ | t1
  · exact absurd HR.out.symm hnr
  try dsimp only at HR
  by_cases hl2 : ¬ t1.kind = 5
  · rw [if_neg hl2] at HR
    go_wp2_with fail
    · refine Calls.mono (take_miss HP.out t1 ht1 5 hl2) ?_
      rintro e wb hp
      have HF := hid' (FaultP.of_below hp HS.out.below)
      obtain ⟨gb, rfl, _⟩ := hp
      obtain rfl : R.bad false t1.pos = r := HR.out
      go_wp2
      exact ⟨rfl, HF.out⟩
  rw [Decidable.not_not] at hl2
  rw [if_pos hl2] at HR
  go_wp2_with fail
  refine Calls.mono (take_hit HP.out t1 ht1 5 hl2) ?_
  rintro e w4 ⟨rfl, hp, hst⟩
  have hs := hst.step w0.heap.size vl vs
  clear hst
  replace BX := hid' (BX.out.stepR (by decide) (by decide) HP.out hs)
  replace HS := hid' (HS.out.then (Nat.le_refl _) hs)
  replace HP := hid' hp
  clear hp hs
  generalize (PS.mk (PS.at_ s + 1) (PS.nodes s) (PS.deep s)) = s4 at HP HR
  clear hl2
  rw [takeKF] at HR
  generalize ht5 : ts[PS.at_ s4]? = o5 at HR
  rcases o5 with _ | t5
  · exact absurd HR.out.symm hnr
  try dsimp only at HR
  by_cases hl6 : ¬ t5.kind = 6
  · rw [if_neg hl6] at HR
    go_wp2_with fail
    · refine Calls.mono (take_miss HP.out t5 ht5 6 hl6) ?_
      rintro e wb hp
      have HF := hid' (FaultP.of_below hp HS.out.below)
      obtain ⟨gb, rfl, _⟩ := hp
      obtain rfl : R.bad false t5.pos = r := HR.out
      go_wp2
      exact ⟨rfl, HF.out⟩
  rw [Decidable.not_not] at hl6
  rw [if_pos hl6] at HR
  go_wp2_with fail
  refine Calls.mono (take_hit HP.out t5 ht5 6 hl6) ?_
  rintro e w8 ⟨rfl, hp, hst⟩
  have hs := hst.step w4.heap.size vl vs
  clear hst
  replace BX := hid' (BX.out.stepR (by decide) (by decide) HP.out hs)
  replace HS := hid' (HS.out.then (Nat.le_refl _) hs)
  replace HP := hid' hp
  clear hp hs
  generalize (PS.mk (PS.at_ s4 + 1) (PS.nodes s4) (PS.deep s4)) = s8 at HP HR
  clear hl6
  have bx0 := BX.out.cell (j := 0) rfl
  have bx1 := BX.out.cell (j := 1) rfl
  have bx2 := BX.out.cell (j := 2) rfl
  have bxl := BX.out.lt
  go_wp2_with fail
  generalize hq9 : runF ts m (.statement p) s8 = r9 at HR
  rcases r9 with _ | ⟨l9, p9⟩ | ⟨z9, y9, c9, s9⟩
  · exact absurd HR.out.symm hnr
  · refine Calls.mono ((H m (Nat.le_refl _)).statement p _ _ _ _ _ HP.out hq9 (by simp)) ?_
    rintro e wb hp
    have HF := hid' (FaultP.of_below hp HS.out.below)
    obtain ⟨gb, rfl, _⟩ := hp
    obtain rfl : R.bad l9 p9 = r := HR.out
    go_wp2
    exact ⟨rfl, HF.out⟩
  refine Calls.mono ((H m (Nat.le_refl _)).statement p _ _ _ _ _ HP.out hq9 (by simp)) ?_
  rintro e w9 ⟨vl9, vs9, rfl, hp, hs⟩
  have hle9 := HS.out.below.size
  replace BX := hid' (BX.out.stepR (by decide) (by decide) HP.out hs)
  replace HS := hid' (HS.out.then (Nat.le_refl _) hs)
  replace HP := hid' hp
  clear hp hs
  dsimp only [R.bind] at HR
  clear hq9
  clear bxl bx0 bx1 bx2
  replace BX := hid' (row_alloc BX.out (.cells #[.int .i64 z9] 3))
  have hol := own_new w9 B HP.out.lowB [z9] (by simp) #[.int .i64 z9] rfl 1 rfl
  have hle := HS.out.below.size
  have HV := hid' (fun k hk => Nat.le_trans hle (hol.2 k hk) : ∀ k, _ → W.heap.size ≤ k)
  have HOFF := hid' (Off.new HP.out hol.2)
  have HOZ := hid' hol.1
  clear hol hle
  replace HS := hid' (HS.out.alloc (.cells #[.int .i64 z9] 3) HLO.out)
  replace HP := hid' (HP.out.alloc (.cells #[.int .i64 z9] 3))
  go_wp2_with fail
  go_loopg [5] m (fun gk u5 wr => ∃ (v : Value) (zs : List Int) (sr : PS) (vlr : Value) (vsr : List Value), gk ≤ m ∧ u5 = v ∧ zs.length < 900001 ∧ Hid (PV A B pb ts tv wr sr vlr vsr) ∧ Hid (Step W.heap.size B pb W vl vs wr vlr vsr) ∧ Hid (OwnZ wr B v zs) ∧ Hid (Off v vsr) ∧ Hid (∀ k, v.ownBlock = some k → W.heap.size ≤ k) ∧ Hid (RowV wr W.heap.size 75 [.bool p.inner, .bool p.d, .bool p.l]) ∧ Hid (runF ts gk (.linesLoop p zs) sr = r))
  case atStart => exact ⟨_, [z9], s9, vl9, vs9, Nat.le_refl _, rfl, by simp, HP, HS, HOZ, HOFF, HV, BX, HR⟩
  case round =>
    obtain ⟨v, zs, sr, vlr, vsr, hgk, rfl, hzl, HPr, HSr, HOZr, HOFFr, HVr, BXr, HRr⟩ := hrel
    clear HP HS HR HOZ HOFF HV BX
    have HP := HPr
    have HS := HSr
    have HR := HRr
    have HOZ := HOZr
    have HOFF := HOFFr
    have HV := HVr
    have BX := BXr
    clear HPr HSr HRr HOZr HOFFr HVr BXr
    rcases gk with _ | j
    · exact absurd HR.out.symm hnr
    rw [runF] at HR
    unfold bodyF at HR
    try dsimp only at HR
    rw [kindF] at HR
    generalize ht11 : ts[PS.at_ sr]? = o11 at HR
    rcases o11 with _ | t11
    · exact absurd HR.out.symm hnr
    try dsimp only at HR
    go_wp2_with fail
    refine Calls.mono (p_token_any HP.out t11 ht11) ?_
    rintro e w12 ⟨rfl, b⟩
    have hp := HP.out.low b
    have hs := Step.low (n := wr.heap.size) HP.out b
    clear b
    replace BX := hid' (BX.out.stepR (by decide) (by decide) HP.out hs)
    have hoz := HOZ.out.step HP.out hs
    replace HOFF := hid' (HOFF.out.step hs (fun k hk => (World.ownsRow.lt HOZ.out k hk).2))
    replace HOZ := hid' hoz
    clear hoz
    replace HS := hid' (HS.out.then (Nat.le_refl _) hs)
    replace HP := hid' hp
    clear hp hs
    by_cases h7 : t11.kind = 7
    · rw [if_pos h7] at HR
      have q7 : ((t11.kind : Int) != 7) = false := by rw [h7]; rfl
      clear h7 BX
      rw [takeKF] at HR
      generalize ht13 : ts[PS.at_ sr]? = o13 at HR
      rcases o13 with _ | t13
      · exact absurd HR.out.symm hnr
      try dsimp only at HR
      by_cases hl14 : ¬ t13.kind = 7
      · rw [if_neg hl14] at HR
        go_wp2_with fail
        · refine Calls.mono (take_miss HP.out t13 ht13 7 hl14) ?_
          rintro e wb hp
          have HF := hid' (FaultP.of_below hp HS.out.below)
          obtain ⟨gb, rfl, _⟩ := hp
          obtain rfl : R.bad false t13.pos = r := HR.out
          go_wp2
          exact ⟨rfl, HF.out⟩
      rw [Decidable.not_not] at hl14
      rw [if_pos hl14] at HR
      go_wp2_with fail
      refine Calls.mono (take_hit HP.out t13 ht13 7 hl14) ?_
      rintro e w16 ⟨rfl, hp, hst⟩
      have hs := hst.step w12.heap.size vlr vsr
      clear hst
      have hoz := HOZ.out.step HP.out hs
      replace HOFF := hid' (HOFF.out.step hs (fun k hk => (World.ownsRow.lt HOZ.out k hk).2))
      replace HOZ := hid' hoz
      clear hoz
      replace HS := hid' (HS.out.then (Nat.le_refl _) hs)
      replace HP := hid' hp
      clear hp hs
      generalize (PS.mk (PS.at_ sr + 1) (PS.nodes sr) (PS.deep sr)) = s16 at HP HR
      clear hl14
      obtain rfl := HR.out
      go_wp2
      go_returns
      exact ⟨_, _, _, rfl, HP.out, HS.out, HOZ.out, HV.out, HOFF.out⟩
    rw [if_neg h7] at HR
    have q7 : ((t11.kind : Int) != 7) = true := by simp; omega
    clear h7
    have bx0 := BX.out.cell (j := 0) rfl
    have bx1 := BX.out.cell (j := 1) rfl
    have bx2 := BX.out.cell (j := 2) rfl
    have bxl := BX.out.lt
    go_wp2_with fail
    generalize hq17 : runF ts j (.statement p) sr = r17 at HR
    rcases r17 with _ | ⟨l17, p17⟩ | ⟨z17, y17, c17, s17⟩
    · exact absurd HR.out.symm hnr
    · refine Calls.mono ((H j (by omega)).statement p _ _ _ _ _ HP.out hq17 (by simp)) ?_
      rintro e wb hp
      have HF := hid' (FaultP.of_below hp HS.out.below)
      obtain ⟨gb, rfl, _⟩ := hp
      obtain rfl : R.bad l17 p17 = r := HR.out
      go_wp2
      exact ⟨rfl, HF.out⟩
    refine Calls.mono ((H j (by omega)).statement p _ _ _ _ _ HP.out hq17 (by simp)) ?_
    rintro e w17 ⟨vl17, vs17, rfl, hp, hs⟩
    have hle17 := HS.out.below.size
    replace BX := hid' (BX.out.stepR (by decide) (by decide) HP.out hs)
    have hoz := HOZ.out.step HP.out hs
    replace HOFF := hid' (HOFF.out.step hs (fun k hk => (World.ownsRow.lt HOZ.out k hk).2))
    replace HOZ := hid' hoz
    clear hoz
    replace HS := hid' (HS.out.then (Nat.le_refl _) hs)
    replace HP := hid' hp
    clear hp hs
    dsimp only [R.bind] at HR
    clear hq17
    clear bxl bx0 bx1 bx2
    by_cases hzz : ¬ zs.length < 900000
    · rw [if_neg hzz] at HR
      exact absurd HR.out.symm hnr
    rw [Decidable.not_not] at hzz
    rw [if_pos hzz] at HR
    have HOZB := hid' (own_apart_box HOZ.out BX.out)
    go_wp2_with (at_builtin; refine num_plain HOZ.out z17 (zs.length + 1) rfl HP.out.lowB (by omega) rfl (.tmp 18) (.tmp 22) (by rfl) (by rfl) (by rfl) ?_; intro g5 cap5 w5 q1 q2 q3 q4 q5; have HQ := hid' (row_push (m := (zs.length + 1)) HP.out HS.out HOZ.out HOFF.out HV.out q2 q3 g5 cap5 q4); have HZ5 := hid' q1; have BX5 := hid' (RowV.far BX.out (q3 _ BX.out.lt HOZB.out)); clear q1 q2 q3 q4 q5)
    go_wp2
    go_roundg j
    case measure => omega
    case rel => exact ⟨_, zs ++ [z17], s17, vl17, vs17, by omega, rfl, by rw [List.length_append, List.length_singleton]; omega, HQ.out.1, HQ.out.2.1, HZ5, HQ.out.2.2.1, HQ.out.2.2.2, BX5, HR⟩
end Go.Proofs.YtnfnlcahlgnahaaGreatDoor
