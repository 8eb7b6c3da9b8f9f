/- What the law NumRings answers. Conditions: the table of internal/strconv as the program's text lays it; api.ErrShape lies in its variable. -/
import Derived.Test.YtapdkibiegeijaaDoorNumFi
import Derived.Test.YtapdkibiegeijaaDoorNumPr
namespace Go.Proofs.YtapdkibiegeijaaDoor
open Go.RowKit
namespace Nm

theorem Blk.held {W : World} {b : Nat} {c0 c1 : Value} (h : Blk W b c0 c1) (W' : World) (hb : Below W.heap.size W W') : W'.cell? ⟨b, 0, none⟩ = some c0 ∧ W'.cell? ⟨b, 1, none⟩ = some c1 := ⟨(h.below hb h.lt).facts.1, (h.below hb h.lt).facts.2.1⟩
theorem cmp_same (a b : Value) (x y : Int) (k m : Nat) (w : World) (h : x = y) (ha : NumAt w a x k) (hb : NumAt w b y m) (hk : k < 100000000) (hm : m < 100000000) :
    Calls Tryd.prog 27 #[a, b] w fun e w' => e = .returned (.int .i64 0) ∧ Below w.heap.size w w' := by
  have := cmp_any a b x y k m w ha hb hk hm
  rwa [sgz_eq h] at this
/-- Two Nums' cells, one of which is stored. -/
theorem NumAt.stored {W : World} {B : Nat} {v d0 d1 : Value} {z : Int} {k : Nat} {b0 : Bool} {p : Option Addr} {q r : Nat} (hB : Blk W B (.bool b0) (.slice p q r)) (h : NumAt W v z k) : NumAt ((W.setCell ⟨B, 0, none⟩ d0).setCell ⟨B, 1, none⟩ d1) v z k :=
  h.turn hB (((Turn.refl B W).setCell 0 d0).setCell 1 d1)
theorem dm_back (x : Int) {y : Int} (h : y ≠ 0) : DM (x * y) y x 0 := ⟨by omega, by omega⟩
set_option maxRecDepth 100000 in
set_option maxHeartbeats 51200000 in
theorem numRings_any (s t u : ByteArray) (a : Addr) (w : World) (hT : Tab w) (hE : w.cell? ⟨0, 0, none⟩ = some (.iface 129 (.pointer (some a)))) :
    Calls Tryd.prog 5 #[.string s, .string t, .string u] w fun e w' => e = .returned (.bool true) ∧ Below w.heap.size w w' := by
  have HT := hidden hT
  have HB := hidden (Below.refl w.heap.size w)
  have HE := hidden hE
  clear hT hE
  go_enter Tryd.func5, Tryd.ntmps5
  go_wp2_with fail
  refine (first_any _ HT.out).mono ?_
  rintro e w1 ⟨rfl, hb⟩
  replace HE := hidden ((hb.cell (World.block_lt_of_cell? _ _ HE.out)).trans HE.out)
  replace HB := hidden (HB.out.trans (hb.mono HB.out.size))
  replace HT := hidden (HT.out.below hb)
  clear hb
  by_cases hs : 200 < s.size
  · go_wp2
    go_ret
    exact ⟨rfl, HB.out⟩
  by_cases ht : 200 < t.size
  · go_wp2
    go_ret
    exact ⟨rfl, HB.out⟩
  by_cases hu : 200 < u.size
  · go_wp2
    go_ret
    exact ⟨rfl, HB.out⟩
  go_wp2_with fail
  refine (parse_num s a _ (by omega) HE.out).mono ?_
  rintro e w2 ⟨va, ua, za, rfl, hua, hv, hb⟩
  replace HE := hidden ((hb.cell (World.block_lt_of_cell? _ _ HE.out)).trans HE.out)
  have HUa := hidden hua
  clear hua
  replace HB := hidden (HB.out.trans (hb.mono HB.out.size))
  replace HT := hidden (HT.out.below hb)
  clear hb
  have Na := hidden hv
  obtain ⟨na, aa, ca, la, rfl, hrest⟩ := hv
  clear hrest
  replace HE := hidden ((((Below.refl w2.heap.size w2).alloc (Nat.le_refl _) (.cells #[(.bool na), (.slice aa la.length ca)] 25)).cell (World.block_lt_of_cell? _ _ HE.out)).trans HE.out)
  have hbw := (Below.refl w2.heap.size w2).alloc (Nat.le_refl _) (.cells #[(.bool na), (.slice aa la.length ca)] 25)
  replace Na := hidden (Na.out.below hbw)
  have Ka := hidden (blk_new w2 (.bool na) (.slice aa la.length ca))
  replace HB := hidden (HB.out.alloc HB.out.size (.cells #[(.bool na), (.slice aa la.length ca)] 25))
  replace HT := hidden (HT.out.below hbw)
  clear hbw
  have fa0 := Ka.out.facts.1
  have fa1 := Ka.out.facts.2.1
  go_wp2_with fail
  generalize w2.alloc (.cells #[(.bool na), (.slice aa la.length ca)] 25) = w3 at Na Ka HB HT fa0 fa1 HE ⊢
  generalize w2.heap.size = ia at Ka fa0 fa1 ⊢
  refine (parse_num t a _ (by omega) HE.out).mono ?_
  rintro e w4 ⟨vb, ub, zb, rfl, hub, hv, hb⟩
  replace HE := hidden ((hb.cell (World.block_lt_of_cell? _ _ HE.out)).trans HE.out)
  have HUb := hidden hub
  clear hub
  clear fa0 fa1
  replace Na := hidden (Na.out.below hb)
  replace Ka := hidden (Ka.out.below hb Ka.out.lt)
  replace HB := hidden (HB.out.trans (hb.mono HB.out.size))
  replace HT := hidden (HT.out.below hb)
  clear hb
  have fa0 := Ka.out.facts.1
  have fa1 := Ka.out.facts.2.1
  have Nb := hidden hv
  obtain ⟨nb, ab, cb, lb, rfl, hrest⟩ := hv
  clear hrest
  replace HE := hidden ((((Below.refl w4.heap.size w4).alloc (Nat.le_refl _) (.cells #[(.bool nb), (.slice ab lb.length cb)] 25)).cell (World.block_lt_of_cell? _ _ HE.out)).trans HE.out)
  have hbw := (Below.refl w4.heap.size w4).alloc (Nat.le_refl _) (.cells #[(.bool nb), (.slice ab lb.length cb)] 25)
  clear fa0 fa1
  replace Na := hidden (Na.out.below hbw)
  replace Nb := hidden (Nb.out.below hbw)
  replace Ka := hidden (Ka.out.below hbw Ka.out.lt)
  have Kb := hidden (blk_new w4 (.bool nb) (.slice ab lb.length cb))
  replace HB := hidden (HB.out.alloc HB.out.size (.cells #[(.bool nb), (.slice ab lb.length cb)] 25))
  replace HT := hidden (HT.out.below hbw)
  clear hbw
  have fa0 := Ka.out.facts.1
  have fa1 := Ka.out.facts.2.1
  have fb0 := Kb.out.facts.1
  have fb1 := Kb.out.facts.2.1
  go_wp2_with fail
  generalize w4.alloc (.cells #[(.bool nb), (.slice ab lb.length cb)] 25) = w5 at Na Nb Ka Kb HB HT fa0 fa1 fb0 fb1 HE ⊢
  generalize w4.heap.size = ib at Kb fb0 fb1 ⊢
  refine (parse_num u a _ (by omega) HE.out).mono ?_
  rintro e w6 ⟨vc, uc, zc, rfl, huc, hv, hb⟩
  replace HE := hidden ((hb.cell (World.block_lt_of_cell? _ _ HE.out)).trans HE.out)
  have HUc := hidden huc
  clear huc
  clear fa0 fa1 fb0 fb1
  replace Na := hidden (Na.out.below hb)
  replace Nb := hidden (Nb.out.below hb)
  replace Ka := hidden (Ka.out.below hb Ka.out.lt)
  replace Kb := hidden (Kb.out.below hb Kb.out.lt)
  replace HB := hidden (HB.out.trans (hb.mono HB.out.size))
  replace HT := hidden (HT.out.below hb)
  clear hb
  have fa0 := Ka.out.facts.1
  have fa1 := Ka.out.facts.2.1
  have fb0 := Kb.out.facts.1
  have fb1 := Kb.out.facts.2.1
  have Nc := hidden hv
  obtain ⟨nc, ac, cc, lc, rfl, hrest⟩ := hv
  clear hrest
  replace HE := hidden ((((Below.refl w6.heap.size w6).alloc (Nat.le_refl _) (.cells #[(.bool nc), (.slice ac lc.length cc)] 25)).cell (World.block_lt_of_cell? _ _ HE.out)).trans HE.out)
  have hbw := (Below.refl w6.heap.size w6).alloc (Nat.le_refl _) (.cells #[(.bool nc), (.slice ac lc.length cc)] 25)
  clear fa0 fa1 fb0 fb1
  replace Na := hidden (Na.out.below hbw)
  replace Nb := hidden (Nb.out.below hbw)
  replace Nc := hidden (Nc.out.below hbw)
  replace Ka := hidden (Ka.out.below hbw Ka.out.lt)
  replace Kb := hidden (Kb.out.below hbw Kb.out.lt)
  have Kc := hidden (blk_new w6 (.bool nc) (.slice ac lc.length cc))
  replace HB := hidden (HB.out.alloc HB.out.size (.cells #[(.bool nc), (.slice ac lc.length cc)] 25))
  replace HT := hidden (HT.out.below hbw)
  clear hbw
  have fa0 := Ka.out.facts.1
  have fa1 := Ka.out.facts.2.1
  have fb0 := Kb.out.facts.1
  have fb1 := Kb.out.facts.2.1
  have fc0 := Kc.out.facts.1
  have fc1 := Kc.out.facts.2.1
  rcases HUa.out with rfl | rfl
  rotate_left
  · go_wp2
    go_ret
    exact ⟨rfl, HB.out⟩
  rcases HUb.out with rfl | rfl
  rotate_left
  · go_wp2
    go_ret
    exact ⟨rfl, HB.out⟩
  rcases HUc.out with rfl | rfl
  rotate_left
  · go_wp2
    go_ret
    exact ⟨rfl, HB.out⟩
  clear hs ht hu
  go_wp2_with fail
  generalize w6.alloc (.cells #[(.bool nc), (.slice ac lc.length cc)] 25) = w7 at Na Nb Nc Ka Kb Kc HB HT fa0 fa1 fb0 fb1 fc0 fc1 HE ⊢
  generalize w6.heap.size = ic at Kc fc0 fc1 ⊢
  refine wp_region_held_drew (S := fun W => Below w7.heap.size w7 W) (by kernel_rfl) (Below.refl _ _).drew (fun hH0 => ?_)
  have HS := hidden (show Below w7.heap.size w7 w7.drew from (Below.refl _ _).drew)
  obtain ⟨L1, hL1⟩ : ∃ l, txt (za + zb) = l := ⟨_, rfl⟩
  obtain ⟨L2, hL2⟩ : ∃ l, txt (za * zb) = l := ⟨_, rfl⟩
  obtain ⟨L3, hL3⟩ : ∃ l, txt ((za + zb) * zc) = l := ⟨_, rfl⟩
  have H1 := hidden hL1
  have H2 := hidden hL2
  have H3 := hidden hL3
  clear hL1 hL2 hL3
  refine take_val' (i := 0) (v := .agg #[.bool na, .slice aa la.length ca]) rfl (by kernel_rfl) (by kernel_rfl) (by kernel_rfl) (some 66) rfl (fun _ _ _ h => h) (Or.inl ⟨by rfl, fun W hW => by obtain ⟨k0, k1⟩ := Ka.out.held W hW; go_simp⟩) hH0 ?_
  try simp only [Act.put, List.setIfInBounds_toArray, List.set_cons_zero, List.set_cons_succ]
  refine take_val' (i := 1) (v := .agg #[.bool nb, .slice ab lb.length cb]) rfl (by kernel_rfl) (by kernel_rfl) (by kernel_rfl) (some 67) rfl (fun _ _ _ h => h) (Or.inl ⟨by rfl, fun W hW => by obtain ⟨k0, k1⟩ := Kb.out.held W hW; go_simp⟩) hH0 ?_
  try simp only [Act.put, List.setIfInBounds_toArray, List.set_cons_zero, List.set_cons_succ]
  refine take_val' (i := 4) (v := .agg #[.bool nb, .slice ab lb.length cb]) rfl (by kernel_rfl) (by kernel_rfl) (by kernel_rfl) (some 70) rfl (fun _ _ _ h => h) (Or.inl ⟨by rfl, fun W hW => by obtain ⟨k0, k1⟩ := Kb.out.held W hW; go_simp⟩) hH0 ?_
  try simp only [Act.put, List.setIfInBounds_toArray, List.set_cons_zero, List.set_cons_succ]
  refine take_val' (i := 5) (v := .agg #[.bool na, .slice aa la.length ca]) rfl (by kernel_rfl) (by kernel_rfl) (by kernel_rfl) (some 71) rfl (fun _ _ _ h => h) (Or.inl ⟨by rfl, fun W hW => by obtain ⟨k0, k1⟩ := Ka.out.held W hW; go_simp⟩) hH0 ?_
  try simp only [Act.put, List.setIfInBounds_toArray, List.set_cons_zero, List.set_cons_succ]
  refine wpAnyH_ready (rs := [2]) (by kernel_rfl) (by simp) ?_
  refine AllReadyH.cons rfl (fun K hK => ?_) AllReadyH.nil
  go_simp
  refine (add_any _ _ (za) (zb) (267) (267) _ (Na.out.below HS.out) (Nb.out.below HS.out) (by omega) (by omega)).mono ?_
  rintro e w8 ⟨vm1, rfl, hv, hb⟩
  replace HS := hidden (HS.out.trans (hb.mono HS.out.size))
  clear hb
  have m1 := hidden hv
  clear hv
  refine hK.out _ _ HS.out (fun hH1 => ?_)
  clear hK K
  try simp only [Act.put, List.setIfInBounds_toArray, List.set_cons_zero, List.set_cons_succ]
  refine wpAnyH_ready (rs := [3]) (by kernel_rfl) (by simp) ?_
  refine AllReadyH.cons rfl (fun K hK => ?_) AllReadyH.nil
  go_simp
  refine (text_is (l := L1) (H1.out) _ (max (267) (267) + 1) _ m1.out (by omega) (HT.out.below HS.out)).mono ?_
  rintro e w9 ⟨rfl, hb⟩
  replace m1 := hidden (m1.out.below hb)
  replace HS := hidden (HS.out.trans (hb.mono HS.out.size))
  clear hb
  refine hK.out _ _ HS.out (fun hH2 => ?_)
  clear hK K
  try simp only [Act.put, List.setIfInBounds_toArray, List.set_cons_zero, List.set_cons_succ]
  clear m1
  refine wpAnyH_ready (rs := [6]) (by kernel_rfl) (by simp) ?_
  refine AllReadyH.cons rfl (fun K hK => ?_) AllReadyH.nil
  go_simp
  refine (add_any _ _ (zb) (za) (267) (267) _ (Nb.out.below HS.out) (Na.out.below HS.out) (by omega) (by omega)).mono ?_
  rintro e w10 ⟨vm2, rfl, hv, hb⟩
  replace HS := hidden (HS.out.trans (hb.mono HS.out.size))
  clear hb
  have m2 := hidden hv
  clear hv
  refine hK.out _ _ HS.out (fun hH3 => ?_)
  clear hK K
  try simp only [Act.put, List.setIfInBounds_toArray, List.set_cons_zero, List.set_cons_succ]
  refine wpAnyH_ready (rs := [7]) (by kernel_rfl) (by simp) ?_
  refine AllReadyH.cons rfl (fun K hK => ?_) AllReadyH.nil
  go_simp
  refine (text_is (l := L1) ((congrArg txt (by omega)).trans H1.out) _ (max (267) (267) + 1) _ m2.out (by omega) (HT.out.below HS.out)).mono ?_
  rintro e w11 ⟨rfl, hb⟩
  replace m2 := hidden (m2.out.below hb)
  replace HS := hidden (HS.out.trans (hb.mono HS.out.size))
  clear hb
  refine hK.out _ _ HS.out (fun hH4 => ?_)
  clear hK K
  try simp only [Act.put, List.setIfInBounds_toArray, List.set_cons_zero, List.set_cons_succ]
  clear m2
  refine take_val' (i := 8) (v := .bool false) rfl (by kernel_rfl) (by kernel_rfl) (by kernel_rfl) (some 74) rfl (fun _ _ _ h => h) (Or.inl ⟨by rfl, fun W hW => by go_simp⟩) hH4 ?_
  try simp only [Act.put, List.setIfInBounds_toArray, List.set_cons_zero, List.set_cons_succ]
  refine take_val' (i := 9) (v := .bool false) rfl (by kernel_rfl) (by kernel_rfl) (by kernel_rfl) (some 75) rfl (fun _ _ _ h => h) (Or.inl ⟨by rfl, fun W hW => by go_simp⟩) hH4 ?_
  try simp only [Act.put, List.setIfInBounds_toArray, List.set_cons_zero, List.set_cons_succ]
  refine take_val' (i := 10) (v := .agg #[.bool na, .slice aa la.length ca]) rfl (by kernel_rfl) (by kernel_rfl) (by kernel_rfl) (some 76) rfl (fun _ _ _ h => h) (Or.inl ⟨by rfl, fun W hW => by obtain ⟨k0, k1⟩ := Ka.out.held W hW; go_simp⟩) hH4 ?_
  try simp only [Act.put, List.setIfInBounds_toArray, List.set_cons_zero, List.set_cons_succ]
  refine take_val' (i := 11) (v := .agg #[.bool nb, .slice ab lb.length cb]) rfl (by kernel_rfl) (by kernel_rfl) (by kernel_rfl) (some 77) rfl (fun _ _ _ h => h) (Or.inl ⟨by rfl, fun W hW => by obtain ⟨k0, k1⟩ := Kb.out.held W hW; go_simp⟩) hH4 ?_
  try simp only [Act.put, List.setIfInBounds_toArray, List.set_cons_zero, List.set_cons_succ]
  refine take_val' (i := 14) (v := .agg #[.bool nb, .slice ab lb.length cb]) rfl (by kernel_rfl) (by kernel_rfl) (by kernel_rfl) (some 80) rfl (fun _ _ _ h => h) (Or.inl ⟨by rfl, fun W hW => by obtain ⟨k0, k1⟩ := Kb.out.held W hW; go_simp⟩) hH4 ?_
  try simp only [Act.put, List.setIfInBounds_toArray, List.set_cons_zero, List.set_cons_succ]
  refine take_val' (i := 15) (v := .agg #[.bool na, .slice aa la.length ca]) rfl (by kernel_rfl) (by kernel_rfl) (by kernel_rfl) (some 81) rfl (fun _ _ _ h => h) (Or.inl ⟨by rfl, fun W hW => by obtain ⟨k0, k1⟩ := Ka.out.held W hW; go_simp⟩) hH4 ?_
  try simp only [Act.put, List.setIfInBounds_toArray, List.set_cons_zero, List.set_cons_succ]
  refine wpAnyH_ready (rs := [12]) (by kernel_rfl) (by simp) ?_
  refine AllReadyH.cons rfl (fun K hK => ?_) AllReadyH.nil
  go_simp
  refine (mul_any _ _ (za) (zb) (267) (267) _ (Na.out.below HS.out) (Nb.out.below HS.out) (by omega) (by omega)).mono ?_
  rintro e w12 ⟨vm1, rfl, hv, hb⟩
  replace HS := hidden (HS.out.trans (hb.mono HS.out.size))
  clear hb
  have m1 := hidden hv
  clear hv
  refine hK.out _ _ HS.out (fun hH5 => ?_)
  clear hK K
  try simp only [Act.put, List.setIfInBounds_toArray, List.set_cons_zero, List.set_cons_succ]
  refine wpAnyH_ready (rs := [13]) (by kernel_rfl) (by simp) ?_
  refine AllReadyH.cons rfl (fun K hK => ?_) AllReadyH.nil
  go_simp
  refine (text_is (l := L2) (H2.out) _ ((267) + (267)) _ m1.out (by omega) (HT.out.below HS.out)).mono ?_
  rintro e w13 ⟨rfl, hb⟩
  replace m1 := hidden (m1.out.below hb)
  replace HS := hidden (HS.out.trans (hb.mono HS.out.size))
  clear hb
  refine hK.out _ _ HS.out (fun hH6 => ?_)
  clear hK K
  try simp only [Act.put, List.setIfInBounds_toArray, List.set_cons_zero, List.set_cons_succ]
  clear m1
  refine wpAnyH_ready (rs := [16]) (by kernel_rfl) (by simp) ?_
  refine AllReadyH.cons rfl (fun K hK => ?_) AllReadyH.nil
  go_simp
  refine (mul_any _ _ (zb) (za) (267) (267) _ (Nb.out.below HS.out) (Na.out.below HS.out) (by omega) (by omega)).mono ?_
  rintro e w14 ⟨vm2, rfl, hv, hb⟩
  replace HS := hidden (HS.out.trans (hb.mono HS.out.size))
  clear hb
  have m2 := hidden hv
  clear hv
  refine hK.out _ _ HS.out (fun hH7 => ?_)
  clear hK K
  try simp only [Act.put, List.setIfInBounds_toArray, List.set_cons_zero, List.set_cons_succ]
  refine wpAnyH_ready (rs := [17]) (by kernel_rfl) (by simp) ?_
  refine AllReadyH.cons rfl (fun K hK => ?_) AllReadyH.nil
  go_simp
  refine (text_is (l := L2) ((congrArg txt (by grind)).trans H2.out) _ ((267) + (267)) _ m2.out (by omega) (HT.out.below HS.out)).mono ?_
  rintro e w15 ⟨rfl, hb⟩
  replace m2 := hidden (m2.out.below hb)
  replace HS := hidden (HS.out.trans (hb.mono HS.out.size))
  clear hb
  refine hK.out _ _ HS.out (fun hH8 => ?_)
  clear hK K
  try simp only [Act.put, List.setIfInBounds_toArray, List.set_cons_zero, List.set_cons_succ]
  clear m2
  refine take_val' (i := 18) (v := .bool false) rfl (by kernel_rfl) (by kernel_rfl) (by kernel_rfl) (some 84) rfl (fun _ _ _ h => h) (Or.inl ⟨by rfl, fun W hW => by go_simp⟩) hH8 ?_
  try simp only [Act.put, List.setIfInBounds_toArray, List.set_cons_zero, List.set_cons_succ]
  refine take_val' (i := 19) (v := .bool false) rfl (by kernel_rfl) (by kernel_rfl) (by kernel_rfl) (some 85) rfl (fun _ _ _ h => h) (Or.inl ⟨by rfl, fun W hW => by go_simp⟩) hH8 ?_
  try simp only [Act.put, List.setIfInBounds_toArray, List.set_cons_zero, List.set_cons_succ]
  refine take_val' (i := 20) (v := .bool false) rfl (by kernel_rfl) (by kernel_rfl) (by kernel_rfl) (some 86) rfl (fun _ _ _ h => h) (Or.inl ⟨by rfl, fun W hW => by go_simp⟩) hH8 ?_
  try simp only [Act.put, List.setIfInBounds_toArray, List.set_cons_zero, List.set_cons_succ]
  refine take_val' (i := 21) (v := .agg #[.bool na, .slice aa la.length ca]) rfl (by kernel_rfl) (by kernel_rfl) (by kernel_rfl) (some 87) rfl (fun _ _ _ h => h) (Or.inl ⟨by rfl, fun W hW => by obtain ⟨k0, k1⟩ := Ka.out.held W hW; go_simp⟩) hH8 ?_
  try simp only [Act.put, List.setIfInBounds_toArray, List.set_cons_zero, List.set_cons_succ]
  refine take_val' (i := 22) (v := .agg #[.bool nb, .slice ab lb.length cb]) rfl (by kernel_rfl) (by kernel_rfl) (by kernel_rfl) (some 88) rfl (fun _ _ _ h => h) (Or.inl ⟨by rfl, fun W hW => by obtain ⟨k0, k1⟩ := Kb.out.held W hW; go_simp⟩) hH8 ?_
  try simp only [Act.put, List.setIfInBounds_toArray, List.set_cons_zero, List.set_cons_succ]
  refine take_val' (i := 24) (v := .agg #[.bool nb, .slice ab lb.length cb]) rfl (by kernel_rfl) (by kernel_rfl) (by kernel_rfl) (some 90) rfl (fun _ _ _ h => h) (Or.inl ⟨by rfl, fun W hW => by obtain ⟨k0, k1⟩ := Kb.out.held W hW; go_simp⟩) hH8 ?_
  try simp only [Act.put, List.setIfInBounds_toArray, List.set_cons_zero, List.set_cons_succ]
  refine take_val' (i := 26) (v := .agg #[.bool na, .slice aa la.length ca]) rfl (by kernel_rfl) (by kernel_rfl) (by kernel_rfl) (some 92) rfl (fun _ _ _ h => h) (Or.inl ⟨by rfl, fun W hW => by obtain ⟨k0, k1⟩ := Ka.out.held W hW; go_simp⟩) hH8 ?_
  try simp only [Act.put, List.setIfInBounds_toArray, List.set_cons_zero, List.set_cons_succ]
  refine wpAnyH_ready (rs := [23]) (by kernel_rfl) (by simp) ?_
  refine AllReadyH.cons rfl (fun K hK => ?_) AllReadyH.nil
  go_simp
  refine (add_any _ _ (za) (zb) (267) (267) _ (Na.out.below HS.out) (Nb.out.below HS.out) (by omega) (by omega)).mono ?_
  rintro e w16 ⟨vm1, rfl, hv, hb⟩
  replace HS := hidden (HS.out.trans (hb.mono HS.out.size))
  clear hb
  have m1 := hidden hv
  clear hv
  refine hK.out _ _ HS.out (fun hH9 => ?_)
  clear hK K
  try simp only [Act.put, List.setIfInBounds_toArray, List.set_cons_zero, List.set_cons_succ]
  refine wpAnyH_ready (rs := [25]) (by kernel_rfl) (by simp) ?_
  refine AllReadyH.cons rfl (fun K hK => ?_) AllReadyH.nil
  go_simp
  refine (sub_any _ _ ((za) + (zb)) (zb) (max (267) (267) + 1) (267) _ m1.out (Nb.out.below HS.out) (by omega) (by omega)).mono ?_
  rintro e w17 ⟨vm2, rfl, hv, hb⟩
  replace m1 := hidden (m1.out.below hb)
  replace HS := hidden (HS.out.trans (hb.mono HS.out.size))
  clear hb
  have m2 := hidden hv
  clear hv
  refine hK.out _ _ HS.out (fun hH10 => ?_)
  clear hK K
  try simp only [Act.put, List.setIfInBounds_toArray, List.set_cons_zero, List.set_cons_succ]
  clear m1
  refine wpAnyH_ready (rs := [27]) (by kernel_rfl) (by simp) ?_
  refine AllReadyH.cons rfl (fun K hK => ?_) AllReadyH.nil
  go_simp
  refine (cmp_same _ _ (((za) + (zb)) - (zb)) (za) (max (max (267) (267) + 1) (267) + 1) (267) _ (by omega) m2.out (Na.out.below HS.out) (by omega) (by omega)).mono ?_
  rintro e w18 ⟨rfl, hb⟩
  replace m2 := hidden (m2.out.below hb)
  replace HS := hidden (HS.out.trans (hb.mono HS.out.size))
  clear hb
  refine hK.out _ _ HS.out (fun hH11 => ?_)
  clear hK K
  try simp only [Act.put, List.setIfInBounds_toArray, List.set_cons_zero, List.set_cons_succ]
  clear m2
  refine take_val' (i := 28) (v := .bool false) rfl (by kernel_rfl) (by kernel_rfl) (by kernel_rfl) (some 94) rfl (fun _ _ _ h => h) (Or.inl ⟨by rfl, fun W hW => by go_simp⟩) hH11 ?_
  try simp only [Act.put, List.setIfInBounds_toArray, List.set_cons_zero, List.set_cons_succ]
  refine take_val' (i := 29) (v := .bool false) rfl (by kernel_rfl) (by kernel_rfl) (by kernel_rfl) (some 95) rfl (fun _ _ _ h => h) (Or.inl ⟨by rfl, fun W hW => by go_simp⟩) hH11 ?_
  try simp only [Act.put, List.setIfInBounds_toArray, List.set_cons_zero, List.set_cons_succ]
  refine take_val' (i := 30) (v := .bool false) rfl (by kernel_rfl) (by kernel_rfl) (by kernel_rfl) (some 96) rfl (fun _ _ _ h => h) (Or.inl ⟨by rfl, fun W hW => by go_simp⟩) hH11 ?_
  try simp only [Act.put, List.setIfInBounds_toArray, List.set_cons_zero, List.set_cons_succ]
  refine take_val' (i := 31) (v := .agg #[.bool na, .slice aa la.length ca]) rfl (by kernel_rfl) (by kernel_rfl) (by kernel_rfl) (some 97) rfl (fun _ _ _ h => h) (Or.inl ⟨by rfl, fun W hW => by obtain ⟨k0, k1⟩ := Ka.out.held W hW; go_simp⟩) hH11 ?_
  try simp only [Act.put, List.setIfInBounds_toArray, List.set_cons_zero, List.set_cons_succ]
  refine take_val' (i := 32) (v := .agg #[.bool nb, .slice ab lb.length cb]) rfl (by kernel_rfl) (by kernel_rfl) (by kernel_rfl) (some 98) rfl (fun _ _ _ h => h) (Or.inl ⟨by rfl, fun W hW => by obtain ⟨k0, k1⟩ := Kb.out.held W hW; go_simp⟩) hH11 ?_
  try simp only [Act.put, List.setIfInBounds_toArray, List.set_cons_zero, List.set_cons_succ]
  refine take_val' (i := 34) (v := .agg #[.bool nc, .slice ac lc.length cc]) rfl (by kernel_rfl) (by kernel_rfl) (by kernel_rfl) (some 100) rfl (fun _ _ _ h => h) (Or.inl ⟨by rfl, fun W hW => by obtain ⟨k0, k1⟩ := Kc.out.held W hW; go_simp⟩) hH11 ?_
  try simp only [Act.put, List.setIfInBounds_toArray, List.set_cons_zero, List.set_cons_succ]
  refine take_val' (i := 37) (v := .agg #[.bool na, .slice aa la.length ca]) rfl (by kernel_rfl) (by kernel_rfl) (by kernel_rfl) (some 103) rfl (fun _ _ _ h => h) (Or.inl ⟨by rfl, fun W hW => by obtain ⟨k0, k1⟩ := Ka.out.held W hW; go_simp⟩) hH11 ?_
  try simp only [Act.put, List.setIfInBounds_toArray, List.set_cons_zero, List.set_cons_succ]
  refine take_val' (i := 38) (v := .agg #[.bool nc, .slice ac lc.length cc]) rfl (by kernel_rfl) (by kernel_rfl) (by kernel_rfl) (some 104) rfl (fun _ _ _ h => h) (Or.inl ⟨by rfl, fun W hW => by obtain ⟨k0, k1⟩ := Kc.out.held W hW; go_simp⟩) hH11 ?_
  try simp only [Act.put, List.setIfInBounds_toArray, List.set_cons_zero, List.set_cons_succ]
  refine take_val' (i := 40) (v := .agg #[.bool nb, .slice ab lb.length cb]) rfl (by kernel_rfl) (by kernel_rfl) (by kernel_rfl) (some 106) rfl (fun _ _ _ h => h) (Or.inl ⟨by rfl, fun W hW => by obtain ⟨k0, k1⟩ := Kb.out.held W hW; go_simp⟩) hH11 ?_
  try simp only [Act.put, List.setIfInBounds_toArray, List.set_cons_zero, List.set_cons_succ]
  refine take_val' (i := 41) (v := .agg #[.bool nc, .slice ac lc.length cc]) rfl (by kernel_rfl) (by kernel_rfl) (by kernel_rfl) (some 107) rfl (fun _ _ _ h => h) (Or.inl ⟨by rfl, fun W hW => by obtain ⟨k0, k1⟩ := Kc.out.held W hW; go_simp⟩) hH11 ?_
  try simp only [Act.put, List.setIfInBounds_toArray, List.set_cons_zero, List.set_cons_succ]
  refine wpAnyH_ready (rs := [33]) (by kernel_rfl) (by simp) ?_
  refine AllReadyH.cons rfl (fun K hK => ?_) AllReadyH.nil
  go_simp
  refine (add_any _ _ (za) (zb) (267) (267) _ (Na.out.below HS.out) (Nb.out.below HS.out) (by omega) (by omega)).mono ?_
  rintro e w19 ⟨vm1, rfl, hv, hb⟩
  replace HS := hidden (HS.out.trans (hb.mono HS.out.size))
  clear hb
  have m1 := hidden hv
  clear hv
  refine hK.out _ _ HS.out (fun hH12 => ?_)
  clear hK K
  try simp only [Act.put, List.setIfInBounds_toArray, List.set_cons_zero, List.set_cons_succ]
  refine wpAnyH_ready (rs := [35]) (by kernel_rfl) (by simp) ?_
  refine AllReadyH.cons rfl (fun K hK => ?_) AllReadyH.nil
  go_simp
  refine (mul_any _ _ ((za) + (zb)) (zc) (max (267) (267) + 1) (267) _ m1.out (Nc.out.below HS.out) (by omega) (by omega)).mono ?_
  rintro e w20 ⟨vm2, rfl, hv, hb⟩
  replace m1 := hidden (m1.out.below hb)
  replace HS := hidden (HS.out.trans (hb.mono HS.out.size))
  clear hb
  have m2 := hidden hv
  clear hv
  refine hK.out _ _ HS.out (fun hH13 => ?_)
  clear hK K
  try simp only [Act.put, List.setIfInBounds_toArray, List.set_cons_zero, List.set_cons_succ]
  clear m1
  refine wpAnyH_ready (rs := [36]) (by kernel_rfl) (by simp) ?_
  refine AllReadyH.cons rfl (fun K hK => ?_) AllReadyH.nil
  go_simp
  refine (text_is (l := L3) (H3.out) _ ((max (267) (267) + 1) + (267)) _ m2.out (by omega) (HT.out.below HS.out)).mono ?_
  rintro e w21 ⟨rfl, hb⟩
  replace m2 := hidden (m2.out.below hb)
  replace HS := hidden (HS.out.trans (hb.mono HS.out.size))
  clear hb
  refine hK.out _ _ HS.out (fun hH14 => ?_)
  clear hK K
  try simp only [Act.put, List.setIfInBounds_toArray, List.set_cons_zero, List.set_cons_succ]
  clear m2
  refine wpAnyH_ready (rs := [39]) (by kernel_rfl) (by simp) ?_
  refine AllReadyH.cons rfl (fun K hK => ?_) AllReadyH.nil
  go_simp
  refine (mul_any _ _ (za) (zc) (267) (267) _ (Na.out.below HS.out) (Nc.out.below HS.out) (by omega) (by omega)).mono ?_
  rintro e w22 ⟨vm1, rfl, hv, hb⟩
  replace HS := hidden (HS.out.trans (hb.mono HS.out.size))
  clear hb
  have m1 := hidden hv
  clear hv
  refine hK.out _ _ HS.out (fun hH15 => ?_)
  clear hK K
  try simp only [Act.put, List.setIfInBounds_toArray, List.set_cons_zero, List.set_cons_succ]
  refine wpAnyH_ready (rs := [42]) (by kernel_rfl) (by simp) ?_
  refine AllReadyH.cons rfl (fun K hK => ?_) AllReadyH.nil
  go_simp
  refine (mul_any _ _ (zb) (zc) (267) (267) _ (Nb.out.below HS.out) (Nc.out.below HS.out) (by omega) (by omega)).mono ?_
  rintro e w23 ⟨vm2, rfl, hv, hb⟩
  replace m1 := hidden (m1.out.below hb)
  replace HS := hidden (HS.out.trans (hb.mono HS.out.size))
  clear hb
  have m2 := hidden hv
  clear hv
  refine hK.out _ _ HS.out (fun hH16 => ?_)
  clear hK K
  try simp only [Act.put, List.setIfInBounds_toArray, List.set_cons_zero, List.set_cons_succ]
  refine wpAnyH_ready (rs := [43]) (by kernel_rfl) (by simp) ?_
  refine AllReadyH.cons rfl (fun K hK => ?_) AllReadyH.nil
  go_simp
  refine (add_any _ _ ((za) * (zc)) ((zb) * (zc)) ((267) + (267)) ((267) + (267)) _ m1.out m2.out (by omega) (by omega)).mono ?_
  rintro e w24 ⟨vm3, rfl, hv, hb⟩
  replace m1 := hidden (m1.out.below hb)
  replace m2 := hidden (m2.out.below hb)
  replace HS := hidden (HS.out.trans (hb.mono HS.out.size))
  clear hb
  have m3 := hidden hv
  clear hv
  refine hK.out _ _ HS.out (fun hH17 => ?_)
  clear hK K
  try simp only [Act.put, List.setIfInBounds_toArray, List.set_cons_zero, List.set_cons_succ]
  clear m1
  clear m2
  refine wpAnyH_ready (rs := [44]) (by kernel_rfl) (by simp) ?_
  refine AllReadyH.cons rfl (fun K hK => ?_) AllReadyH.nil
  go_simp
  refine (text_is (l := L3) ((congrArg txt (by grind)).trans H3.out) _ (max ((267) + (267)) ((267) + (267)) + 1) _ m3.out (by omega) (HT.out.below HS.out)).mono ?_
  rintro e w25 ⟨rfl, hb⟩
  replace m3 := hidden (m3.out.below hb)
  replace HS := hidden (HS.out.trans (hb.mono HS.out.size))
  clear hb
  refine hK.out _ _ HS.out (fun hH18 => ?_)
  clear hK K
  try simp only [Act.put, List.setIfInBounds_toArray, List.set_cons_zero, List.set_cons_succ]
  clear m3
  refine take_val' (i := 45) (v := .bool false) rfl (by kernel_rfl) (by kernel_rfl) (by kernel_rfl) (some 111) rfl (fun _ _ _ h => h) (Or.inl ⟨by rfl, fun W hW => by go_simp⟩) hH18 ?_
  try simp only [Act.put, List.setIfInBounds_toArray, List.set_cons_zero, List.set_cons_succ]
  refine take_val' (i := 46) (v := .bool false) rfl (by kernel_rfl) (by kernel_rfl) (by kernel_rfl) (some 112) rfl (fun _ _ _ h => h) (Or.inl ⟨by rfl, fun W hW => by go_simp⟩) hH18 ?_
  try simp only [Act.put, List.setIfInBounds_toArray, List.set_cons_zero, List.set_cons_succ]
  refine take_val' (i := 47) (v := .bool false) rfl (by kernel_rfl) (by kernel_rfl) (by kernel_rfl) (some 113) rfl (fun _ _ _ h => h) (Or.inl ⟨by rfl, fun W hW => by go_simp⟩) hH18 ?_
  try simp only [Act.put, List.setIfInBounds_toArray, List.set_cons_zero, List.set_cons_succ]
  refine take_val' (i := 48) (v := .agg #[.bool na, .slice aa la.length ca]) rfl (by kernel_rfl) (by kernel_rfl) (by kernel_rfl) (some 114) rfl (fun _ _ _ h => h) (Or.inl ⟨by rfl, fun W hW => by obtain ⟨k0, k1⟩ := Ka.out.held W hW; go_simp⟩) hH18 ?_
  try simp only [Act.put, List.setIfInBounds_toArray, List.set_cons_zero, List.set_cons_succ]
  refine take_val' (i := 49) (v := .agg #[.bool nb, .slice ab lb.length cb]) rfl (by kernel_rfl) (by kernel_rfl) (by kernel_rfl) (some 115) rfl (fun _ _ _ h => h) (Or.inl ⟨by rfl, fun W hW => by obtain ⟨k0, k1⟩ := Kb.out.held W hW; go_simp⟩) hH18 ?_
  try simp only [Act.put, List.setIfInBounds_toArray, List.set_cons_zero, List.set_cons_succ]
  refine take_val' (i := 51) (v := .agg #[.bool nc, .slice ac lc.length cc]) rfl (by kernel_rfl) (by kernel_rfl) (by kernel_rfl) (some 117) rfl (fun _ _ _ h => h) (Or.inl ⟨by rfl, fun W hW => by obtain ⟨k0, k1⟩ := Kc.out.held W hW; go_simp⟩) hH18 ?_
  try simp only [Act.put, List.setIfInBounds_toArray, List.set_cons_zero, List.set_cons_succ]
  refine take_val' (i := 53) (v := .agg #[.bool na, .slice aa la.length ca]) rfl (by kernel_rfl) (by kernel_rfl) (by kernel_rfl) (some 119) rfl (fun _ _ _ h => h) (Or.inl ⟨by rfl, fun W hW => by obtain ⟨k0, k1⟩ := Ka.out.held W hW; go_simp⟩) hH18 ?_
  try simp only [Act.put, List.setIfInBounds_toArray, List.set_cons_zero, List.set_cons_succ]
  refine take_val' (i := 54) (v := .agg #[.bool nb, .slice ab lb.length cb]) rfl (by kernel_rfl) (by kernel_rfl) (by kernel_rfl) (some 120) rfl (fun _ _ _ h => h) (Or.inl ⟨by rfl, fun W hW => by obtain ⟨k0, k1⟩ := Kb.out.held W hW; go_simp⟩) hH18 ?_
  try simp only [Act.put, List.setIfInBounds_toArray, List.set_cons_zero, List.set_cons_succ]
  refine take_val' (i := 55) (v := .agg #[.bool nc, .slice ac lc.length cc]) rfl (by kernel_rfl) (by kernel_rfl) (by kernel_rfl) (some 121) rfl (fun _ _ _ h => h) (Or.inl ⟨by rfl, fun W hW => by obtain ⟨k0, k1⟩ := Kc.out.held W hW; go_simp⟩) hH18 ?_
  try simp only [Act.put, List.setIfInBounds_toArray, List.set_cons_zero, List.set_cons_succ]
  refine wpAnyH_ready (rs := [50]) (by kernel_rfl) (by simp) ?_
  refine AllReadyH.cons rfl (fun K hK => ?_) AllReadyH.nil
  go_simp
  refine (mul_any _ _ (za) (zb) (267) (267) _ (Na.out.below HS.out) (Nb.out.below HS.out) (by omega) (by omega)).mono ?_
  rintro e w26 ⟨vm1, rfl, hv, hb⟩
  replace HS := hidden (HS.out.trans (hb.mono HS.out.size))
  clear hb
  have m1 := hidden hv
  clear hv
  refine hK.out _ _ HS.out (fun hH19 => ?_)
  clear hK K
  try simp only [Act.put, List.setIfInBounds_toArray, List.set_cons_zero, List.set_cons_succ]
  refine wpAnyH_ready (rs := [52]) (by kernel_rfl) (by simp) ?_
  refine AllReadyH.cons rfl (fun K hK => ?_) AllReadyH.nil
  go_simp
  refine (mul_any _ _ ((za) * (zb)) (zc) ((267) + (267)) (267) _ m1.out (Nc.out.below HS.out) (by omega) (by omega)).mono ?_
  rintro e w27 ⟨vm2, rfl, hv, hb⟩
  replace m1 := hidden (m1.out.below hb)
  replace HS := hidden (HS.out.trans (hb.mono HS.out.size))
  clear hb
  have m2 := hidden hv
  clear hv
  refine hK.out _ _ HS.out (fun hH20 => ?_)
  clear hK K
  try simp only [Act.put, List.setIfInBounds_toArray, List.set_cons_zero, List.set_cons_succ]
  clear m1
  refine wpAnyH_ready (rs := [56]) (by kernel_rfl) (by simp) ?_
  refine AllReadyH.cons rfl (fun K hK => ?_) AllReadyH.nil
  go_simp
  refine (mul_any _ _ (zb) (zc) (267) (267) _ (Nb.out.below HS.out) (Nc.out.below HS.out) (by omega) (by omega)).mono ?_
  rintro e w28 ⟨vm3, rfl, hv, hb⟩
  replace m2 := hidden (m2.out.below hb)
  replace HS := hidden (HS.out.trans (hb.mono HS.out.size))
  clear hb
  have m3 := hidden hv
  clear hv
  refine hK.out _ _ HS.out (fun hH21 => ?_)
  clear hK K
  try simp only [Act.put, List.setIfInBounds_toArray, List.set_cons_zero, List.set_cons_succ]
  refine wpAnyH_ready (rs := [57]) (by kernel_rfl) (by simp) ?_
  refine AllReadyH.cons rfl (fun K hK => ?_) AllReadyH.nil
  go_simp
  refine (mul_any _ _ (za) ((zb) * (zc)) (267) ((267) + (267)) _ (Na.out.below HS.out) m3.out (by omega) (by omega)).mono ?_
  rintro e w29 ⟨vm4, rfl, hv, hb⟩
  replace m2 := hidden (m2.out.below hb)
  replace m3 := hidden (m3.out.below hb)
  replace HS := hidden (HS.out.trans (hb.mono HS.out.size))
  clear hb
  have m4 := hidden hv
  clear hv
  refine hK.out _ _ HS.out (fun hH22 => ?_)
  clear hK K
  try simp only [Act.put, List.setIfInBounds_toArray, List.set_cons_zero, List.set_cons_succ]
  clear m3
  refine wpAnyH_ready (rs := [58]) (by kernel_rfl) (by simp) ?_
  refine AllReadyH.cons rfl (fun K hK => ?_) AllReadyH.nil
  go_simp
  refine (cmp_same _ _ (((za) * (zb)) * (zc)) ((za) * ((zb) * (zc))) (((267) + (267)) + (267)) ((267) + ((267) + (267))) _ (by grind) m2.out m4.out (by omega) (by omega)).mono ?_
  rintro e w30 ⟨rfl, hb⟩
  replace m2 := hidden (m2.out.below hb)
  replace m4 := hidden (m4.out.below hb)
  replace HS := hidden (HS.out.trans (hb.mono HS.out.size))
  clear hb
  refine hK.out _ _ HS.out (fun hH23 => ?_)
  clear hK K
  try simp only [Act.put, List.setIfInBounds_toArray, List.set_cons_zero, List.set_cons_succ]
  clear m2
  clear m4
  refine take_val' (i := 59) (v := .bool false) rfl (by kernel_rfl) (by kernel_rfl) (by kernel_rfl) (some 125) rfl (fun _ _ _ h => h) (Or.inl ⟨by rfl, fun W hW => by go_simp⟩) hH23 ?_
  try simp only [Act.put, List.setIfInBounds_toArray, List.set_cons_zero, List.set_cons_succ]
  refine take_val' (i := 60) (v := .bool false) rfl (by kernel_rfl) (by kernel_rfl) (by kernel_rfl) (some 126) rfl (fun _ _ _ h => h) (Or.inl ⟨by rfl, fun W hW => by go_simp⟩) hH23 ?_
  try simp only [Act.put, List.setIfInBounds_toArray, List.set_cons_zero, List.set_cons_succ]
  refine wpAnyH_done (by kernel_rfl) ?_ _
  clear fa0 fa1 fb0 fb1 fc0 fc1
  replace Na := hidden (Na.out.below HS.out)
  replace Nb := hidden (Nb.out.below HS.out)
  replace Nc := hidden (Nc.out.below HS.out)
  replace Ka := hidden (Ka.out.below HS.out Ka.out.lt)
  replace Kb := hidden (Kb.out.below HS.out Kb.out.lt)
  replace Kc := hidden (Kc.out.below HS.out Kc.out.lt)
  replace HB := hidden (HB.out.trans (HS.out.mono HB.out.size))
  replace HT := hidden (HT.out.below HS.out)
  clear HS
  have fa0 := Ka.out.facts.1
  have fa1 := Ka.out.facts.2.1
  have fb0 := Kb.out.facts.1
  have fb1 := Kb.out.facts.2.1
  have fc0 := Kc.out.facts.1
  have fc1 := Kc.out.facts.2.1
  clear H1 H2 H3
  by_cases hy : zb = 0
  · subst hy
    go_wp2_with fail
    refine (div_zero _ _ za 267 267 _ Na.out Nb.out).mono ?_
    rintro e w31 ⟨rfl, hb⟩
    clear fa0 fa1 fb0 fb1 fc0 fc1
    replace Na := hidden (Na.out.below hb)
    replace Nb := hidden (Nb.out.below hb)
    replace Nc := hidden (Nc.out.below hb)
    replace Ka := hidden (Ka.out.below hb Ka.out.lt)
    replace Kb := hidden (Kb.out.below hb Kb.out.lt)
    replace Kc := hidden (Kc.out.below hb Kc.out.lt)
    replace HB := hidden (HB.out.trans (hb.mono HB.out.size))
    replace HT := hidden (HT.out.below hb)
    clear hb
    have fa0 := Ka.out.facts.1
    have fa1 := Ka.out.facts.2.1
    have fb0 := Kb.out.facts.1
    have fb1 := Kb.out.facts.2.1
    have fc0 := Kc.out.facts.1
    have fc1 := Kc.out.facts.2.1
    have hbw := (Below.refl w31.heap.size w31).alloc (Nat.le_refl _) (.cells #[(.bool false), (.slice none 0 0)] 25)
    clear fa0 fa1 fb0 fb1 fc0 fc1
    replace Na := hidden (Na.out.below hbw)
    replace Nb := hidden (Nb.out.below hbw)
    replace Nc := hidden (Nc.out.below hbw)
    replace Ka := hidden (Ka.out.below hbw Ka.out.lt)
    replace Kb := hidden (Kb.out.below hbw Kb.out.lt)
    replace Kc := hidden (Kc.out.below hbw Kc.out.lt)
    have Kq := hidden (blk_new w31 (.bool false) (.slice none 0 0))
    replace HB := hidden (HB.out.alloc HB.out.size (.cells #[(.bool false), (.slice none 0 0)] 25))
    replace HT := hidden (HT.out.below hbw)
    clear hbw
    have fa0 := Ka.out.facts.1
    have fa1 := Ka.out.facts.2.1
    have fb0 := Kb.out.facts.1
    have fb1 := Kb.out.facts.2.1
    have fc0 := Kc.out.facts.1
    have fc1 := Kc.out.facts.2.1
    have fq0 := Kq.out.facts.1
    have fq1 := Kq.out.facts.2.1
    go_wp2_with fail
    generalize w31.alloc (.cells #[(.bool false), (.slice none 0 0)] 25) = w32 at Na Nb Nc Ka Kb Kc Kq HB HT fa0 fa1 fb0 fb1 fc0 fc1 fq0 fq1 ⊢
    generalize w31.heap.size = iq at Kq fq0 fq1 ⊢
    refine (mod_zero _ _ za 267 267 _ Na.out Nb.out).mono ?_
    rintro e w33 ⟨rfl, hb⟩
    clear fa0 fa1 fb0 fb1 fc0 fc1 fq0 fq1
    replace Na := hidden (Na.out.below hb)
    replace Nb := hidden (Nb.out.below hb)
    replace Nc := hidden (Nc.out.below hb)
    replace Ka := hidden (Ka.out.below hb Ka.out.lt)
    replace Kb := hidden (Kb.out.below hb Kb.out.lt)
    replace Kc := hidden (Kc.out.below hb Kc.out.lt)
    replace Kq := hidden (Kq.out.below hb Kq.out.lt)
    replace HB := hidden (HB.out.trans (hb.mono HB.out.size))
    replace HT := hidden (HT.out.below hb)
    clear hb
    have fa0 := Ka.out.facts.1
    have fa1 := Ka.out.facts.2.1
    have fb0 := Kb.out.facts.1
    have fb1 := Kb.out.facts.2.1
    have fc0 := Kc.out.facts.1
    have fc1 := Kc.out.facts.2.1
    have fq0 := Kq.out.facts.1
    have fq1 := Kq.out.facts.2.1
    have hbw := (Below.refl w33.heap.size w33).alloc (Nat.le_refl _) (.cells #[(.bool false), (.slice none 0 0)] 25)
    clear fa0 fa1 fb0 fb1 fc0 fc1 fq0 fq1
    replace Na := hidden (Na.out.below hbw)
    replace Nb := hidden (Nb.out.below hbw)
    replace Nc := hidden (Nc.out.below hbw)
    replace Ka := hidden (Ka.out.below hbw Ka.out.lt)
    replace Kb := hidden (Kb.out.below hbw Kb.out.lt)
    replace Kc := hidden (Kc.out.below hbw Kc.out.lt)
    replace Kq := hidden (Kq.out.below hbw Kq.out.lt)
    have Kr := hidden (blk_new w33 (.bool false) (.slice none 0 0))
    replace HB := hidden (HB.out.alloc HB.out.size (.cells #[(.bool false), (.slice none 0 0)] 25))
    replace HT := hidden (HT.out.below hbw)
    clear hbw
    have fa0 := Ka.out.facts.1
    have fa1 := Ka.out.facts.2.1
    have fb0 := Kb.out.facts.1
    have fb1 := Kb.out.facts.2.1
    have fc0 := Kc.out.facts.1
    have fc1 := Kc.out.facts.2.1
    have fq0 := Kq.out.facts.1
    have fq1 := Kq.out.facts.2.1
    have fr0 := Kr.out.facts.1
    have fr1 := Kr.out.facts.2.1
    go_wp2_with fail
    generalize w33.alloc (.cells #[(.bool false), (.slice none 0 0)] 25) = w34 at Na Nb Nc Ka Kb Kc Kq Kr HB HT fa0 fa1 fb0 fb1 fc0 fc1 fq0 fq1 fr0 fr1 ⊢
    generalize w33.heap.size = ir at Kr fr0 fr1 ⊢
    refine (text_is (l := [48]) (by decide +kernel) _ 267 _ Nb.out (by omega) HT.out).mono ?_
    rintro e w35 ⟨rfl, hb⟩
    clear fa0 fa1 fb0 fb1 fc0 fc1 fq0 fq1 fr0 fr1
    replace Na := hidden (Na.out.below hb)
    replace Nb := hidden (Nb.out.below hb)
    replace Nc := hidden (Nc.out.below hb)
    replace Ka := hidden (Ka.out.below hb Ka.out.lt)
    replace Kb := hidden (Kb.out.below hb Kb.out.lt)
    replace Kc := hidden (Kc.out.below hb Kc.out.lt)
    replace Kq := hidden (Kq.out.below hb Kq.out.lt)
    replace Kr := hidden (Kr.out.below hb Kr.out.lt)
    replace HB := hidden (HB.out.trans (hb.mono HB.out.size))
    replace HT := hidden (HT.out.below hb)
    clear hb
    have fa0 := Ka.out.facts.1
    have fa1 := Ka.out.facts.2.1
    have fb0 := Kb.out.facts.1
    have fb1 := Kb.out.facts.2.1
    have fc0 := Kc.out.facts.1
    have fc1 := Kc.out.facts.2.1
    have fq0 := Kq.out.facts.1
    have fq1 := Kq.out.facts.2.1
    have fr0 := Kr.out.facts.1
    have fr1 := Kr.out.facts.2.1
    go_wp2
    go_ret
    exact ⟨rfl, HB.out⟩
  have HY := hidden hy
  clear hy
  go_wp2_with fail
  refine (div_any _ _ za zb 267 267 _ Na.out Nb.out (by omega) (by omega) HY.out).mono ?_
  rintro e w36 ⟨vq, zq, zr, rfl, hv, hdm, hb⟩
  have HDM := hidden hdm
  clear hdm
  clear fa0 fa1 fb0 fb1 fc0 fc1
  replace Na := hidden (Na.out.below hb)
  replace Nb := hidden (Nb.out.below hb)
  replace Nc := hidden (Nc.out.below hb)
  replace Ka := hidden (Ka.out.below hb Ka.out.lt)
  replace Kb := hidden (Kb.out.below hb Kb.out.lt)
  replace Kc := hidden (Kc.out.below hb Kc.out.lt)
  replace HB := hidden (HB.out.trans (hb.mono HB.out.size))
  replace HT := hidden (HT.out.below hb)
  clear hb
  have fa0 := Ka.out.facts.1
  have fa1 := Ka.out.facts.2.1
  have fb0 := Kb.out.facts.1
  have fb1 := Kb.out.facts.2.1
  have fc0 := Kc.out.facts.1
  have fc1 := Kc.out.facts.2.1
  have Nq := hidden hv
  obtain ⟨nq, aq, cq, lq, rfl, hrest⟩ := hv
  clear hrest
  have hbw := (Below.refl w36.heap.size w36).alloc (Nat.le_refl _) (.cells #[(.bool nq), (.slice aq lq.length cq)] 25)
  clear fa0 fa1 fb0 fb1 fc0 fc1
  replace Na := hidden (Na.out.below hbw)
  replace Nb := hidden (Nb.out.below hbw)
  replace Nc := hidden (Nc.out.below hbw)
  replace Nq := hidden (Nq.out.below hbw)
  replace Ka := hidden (Ka.out.below hbw Ka.out.lt)
  replace Kb := hidden (Kb.out.below hbw Kb.out.lt)
  replace Kc := hidden (Kc.out.below hbw Kc.out.lt)
  have Kq := hidden (blk_new w36 (.bool nq) (.slice aq lq.length cq))
  replace HB := hidden (HB.out.alloc HB.out.size (.cells #[(.bool nq), (.slice aq lq.length cq)] 25))
  replace HT := hidden (HT.out.below hbw)
  clear hbw
  have fa0 := Ka.out.facts.1
  have fa1 := Ka.out.facts.2.1
  have fb0 := Kb.out.facts.1
  have fb1 := Kb.out.facts.2.1
  have fc0 := Kc.out.facts.1
  have fc1 := Kc.out.facts.2.1
  have fq0 := Kq.out.facts.1
  have fq1 := Kq.out.facts.2.1
  go_wp2_with fail
  generalize w36.alloc (.cells #[(.bool nq), (.slice aq lq.length cq)] 25) = w37 at Na Nb Nc Nq Ka Kb Kc Kq HB HT fa0 fa1 fb0 fb1 fc0 fc1 fq0 fq1 ⊢
  generalize w36.heap.size = iq at Kq fq0 fq1 ⊢
  refine (mod_any _ _ za zb 267 267 _ Na.out Nb.out (by omega) (by omega) HY.out).mono ?_
  rintro e w38 ⟨vr, q2, r2, rfl, hv, hdm, hb⟩
  obtain ⟨hq2, hr2⟩ := dm_unique hdm HDM.out
  subst hq2 hr2
  clear hdm
  clear fa0 fa1 fb0 fb1 fc0 fc1 fq0 fq1
  replace Na := hidden (Na.out.below hb)
  replace Nb := hidden (Nb.out.below hb)
  replace Nc := hidden (Nc.out.below hb)
  replace Nq := hidden (Nq.out.below hb)
  replace Ka := hidden (Ka.out.below hb Ka.out.lt)
  replace Kb := hidden (Kb.out.below hb Kb.out.lt)
  replace Kc := hidden (Kc.out.below hb Kc.out.lt)
  replace Kq := hidden (Kq.out.below hb Kq.out.lt)
  replace HB := hidden (HB.out.trans (hb.mono HB.out.size))
  replace HT := hidden (HT.out.below hb)
  clear hb
  have fa0 := Ka.out.facts.1
  have fa1 := Ka.out.facts.2.1
  have fb0 := Kb.out.facts.1
  have fb1 := Kb.out.facts.2.1
  have fc0 := Kc.out.facts.1
  have fc1 := Kc.out.facts.2.1
  have fq0 := Kq.out.facts.1
  have fq1 := Kq.out.facts.2.1
  have Nr := hidden hv
  obtain ⟨nr, ar, cr, lr, rfl, hrest⟩ := hv
  clear hrest
  have hbw := (Below.refl w38.heap.size w38).alloc (Nat.le_refl _) (.cells #[(.bool nr), (.slice ar lr.length cr)] 25)
  clear fa0 fa1 fb0 fb1 fc0 fc1 fq0 fq1
  replace Na := hidden (Na.out.below hbw)
  replace Nb := hidden (Nb.out.below hbw)
  replace Nc := hidden (Nc.out.below hbw)
  replace Nq := hidden (Nq.out.below hbw)
  replace Nr := hidden (Nr.out.below hbw)
  replace Ka := hidden (Ka.out.below hbw Ka.out.lt)
  replace Kb := hidden (Kb.out.below hbw Kb.out.lt)
  replace Kc := hidden (Kc.out.below hbw Kc.out.lt)
  replace Kq := hidden (Kq.out.below hbw Kq.out.lt)
  have Kr := hidden (blk_new w38 (.bool nr) (.slice ar lr.length cr))
  replace HB := hidden (HB.out.alloc HB.out.size (.cells #[(.bool nr), (.slice ar lr.length cr)] 25))
  replace HT := hidden (HT.out.below hbw)
  clear hbw
  have fa0 := Ka.out.facts.1
  have fa1 := Ka.out.facts.2.1
  have fb0 := Kb.out.facts.1
  have fb1 := Kb.out.facts.2.1
  have fc0 := Kc.out.facts.1
  have fc1 := Kc.out.facts.2.1
  have fq0 := Kq.out.facts.1
  have fq1 := Kq.out.facts.2.1
  have fr0 := Kr.out.facts.1
  have fr1 := Kr.out.facts.2.1
  have HPQ := hidden (dm_back za HY.out)
  go_wp2_with fail
  generalize w38.alloc (.cells #[(.bool nr), (.slice ar lr.length cr)] 25) = w39 at Na Nb Nc Nq Nr Ka Kb Kc Kq Kr HB HT fa0 fa1 fb0 fb1 fc0 fc1 fq0 fq1 fr0 fr1 ⊢
  generalize w38.heap.size = ir at Kr fr0 fr1 ⊢
  refine wp_region_held_drew (S := fun W => Below w39.heap.size w39 W) (by kernel_rfl) (Below.refl _ _).drew (fun hH0 => ?_)
  have HS := hidden (show Below w39.heap.size w39 w39.drew from (Below.refl _ _).drew)
  refine take_val' (i := 0) (v := .agg #[.bool na, .slice aa la.length ca]) rfl (by kernel_rfl) (by kernel_rfl) (by kernel_rfl) (some 149) rfl (fun _ _ _ h => h) (Or.inl ⟨by rfl, fun W hW => by obtain ⟨k0, k1⟩ := Ka.out.held W hW; go_simp⟩) hH0 ?_
  try simp only [Act.put, List.setIfInBounds_toArray, List.set_cons_zero, List.set_cons_succ]
  refine take_val' (i := 1) (v := .agg #[.bool nb, .slice ab lb.length cb]) rfl (by kernel_rfl) (by kernel_rfl) (by kernel_rfl) (some 150) rfl (fun _ _ _ h => h) (Or.inl ⟨by rfl, fun W hW => by obtain ⟨k0, k1⟩ := Kb.out.held W hW; go_simp⟩) hH0 ?_
  try simp only [Act.put, List.setIfInBounds_toArray, List.set_cons_zero, List.set_cons_succ]
  refine take_val' (i := 3) (v := .agg #[.bool nb, .slice ab lb.length cb]) rfl (by kernel_rfl) (by kernel_rfl) (by kernel_rfl) (some 152) rfl (fun _ _ _ h => h) (Or.inl ⟨by rfl, fun W hW => by obtain ⟨k0, k1⟩ := Kb.out.held W hW; go_simp⟩) hH0 ?_
  try simp only [Act.put, List.setIfInBounds_toArray, List.set_cons_zero, List.set_cons_succ]
  refine wpAnyH_ready (rs := [2, 8]) (by kernel_rfl) (by simp) ?_
  refine AllReadyH.cons rfl (fun K hK => ?_) (AllReadyH.cons rfl (fun K hK => ?_) AllReadyH.nil)
  · go_simp
    refine (mul_any _ _ za zb 267 267 _ (Na.out.below HS.out) (Nb.out.below HS.out) (by omega) (by omega)).mono ?_
    rintro e w40 ⟨vm1, rfl, hv, hb⟩
    replace HS := hidden (HS.out.trans (hb.mono HS.out.size))
    clear hb
    have m1 := hidden hv
    clear hv
    refine hK.out _ _ HS.out (fun hH1 => ?_)
    clear hK K
    try simp only [Act.put, List.setIfInBounds_toArray, List.set_cons_zero, List.set_cons_succ]
    refine wpAnyH_ready (rs := [4, 8]) (by kernel_rfl) (by simp) ?_
    refine AllReadyH.cons rfl (fun K hK => ?_) (AllReadyH.cons rfl (fun K hK => ?_) AllReadyH.nil)
    · go_simp
      refine (div_any _ _ (za * zb) zb (267 + 267) 267 _ m1.out (Nb.out.below HS.out) (by omega) (by omega) HY.out).mono ?_
      rintro e w41 ⟨vp, q3, r3, rfl, hv, hdm, hb⟩
      replace HS := hidden (HS.out.trans (hb.mono HS.out.size))
      clear hb
      obtain ⟨hq3, hr3⟩ := dm_unique hdm HPQ.out
      replace hq3 := hq3.symm
      subst hq3
      subst hr3
      clear hdm
      have Np := hidden hv
      obtain ⟨np, ap, cp, lp, rfl, hrest⟩ := hv
      clear hrest m1
      refine hK.out _ _ HS.out (fun hH2 => ?_)
      clear hK K
      try simp only [Act.put, List.setIfInBounds_toArray, List.set_cons_zero, List.set_cons_succ]
      refine take_val' (i := 5) (v := .tuple #[.agg #[.bool np, .slice ap lp.length cp], .bool true]) rfl (by kernel_rfl) (by kernel_rfl) (by kernel_rfl) (some 148) rfl (fun _ _ _ h => h) (Or.inl ⟨by rfl, fun W hW => by go_simp⟩) hH2 ?_
      try simp only [Act.put, List.setIfInBounds_toArray, List.set_cons_zero, List.set_cons_succ]
      refine take_val' (i := 6) (v := .agg #[.bool np, .slice ap lp.length cp]) rfl (by kernel_rfl) (by kernel_rfl) (by kernel_rfl) (some 154) rfl (fun _ _ _ h => h) (Or.inl ⟨by rfl, fun W hW => by go_simp⟩) hH2 ?_
      try simp only [Act.put, List.setIfInBounds_toArray, List.set_cons_zero, List.set_cons_succ]
      refine take_val' (i := 7) (v := .bool true) rfl (by kernel_rfl) (by kernel_rfl) (by kernel_rfl) (some 155) rfl (fun _ _ _ h => h) (Or.inl ⟨by rfl, fun W hW => by go_simp⟩) hH2 ?_
      try simp only [Act.put, List.setIfInBounds_toArray, List.set_cons_zero, List.set_cons_succ]
      refine wpAnyH_ready (rs := [8]) (by kernel_rfl) (by simp) ?_
      refine AllReadyH.cons rfl (fun K hK => ?_) AllReadyH.nil
      have hip : w39.heap.size ≤ w41.heap.size := HS.out.size
      have hbw := (Below.refl w41.heap.size w41).alloc (Nat.le_refl _) (.cells #[.bool false, .slice none 0 0] 25)
      replace Np := hidden (Np.out.below hbw)
      have Kp := hidden (show Blk (w41.alloc (.cells #[.bool false, .slice none 0 0] 25)) w41.heap.size _ _ from blk_new w41 (.bool false) (.slice none 0 0))
      replace HS := hidden (show Below w39.heap.size w39 (w41.alloc (.cells #[.bool false, .slice none 0 0] 25)) from HS.out.trans (hbw.mono HS.out.size))
      clear hbw
      go_simp
      refine hK.out _ _ HS.out (fun hH3 => ?_)
      clear hK K
      try simp only [Act.put, List.setIfInBounds_toArray, List.set_cons_zero, List.set_cons_succ]
      generalize w41.alloc (.cells #[.bool false, .slice none 0 0] 25) = w42 at HS Kp Np hH3 ⊢
      generalize w41.heap.size = ip at Kp hip ⊢
      refine wpAnyH_ready (rs := [9]) (by kernel_rfl) (by simp) ?_
      refine AllReadyH.cons rfl (fun K hK => ?_) AllReadyH.nil
      obtain ⟨f0, f1, f2, f3⟩ := Kp.out.facts
      go_simp
      clear f0 f1 f2 f3
      replace Np := hidden (show NumAt ((w42.setCell ⟨ip, 0, none⟩ (.bool np)).setCell ⟨ip, 1, none⟩ (.slice ap lp.length cp)) _ _ _ from Np.out.stored Kp.out)
      replace Kp := hidden (show Blk ((w42.setCell ⟨ip, 0, none⟩ (.bool np)).setCell ⟨ip, 1, none⟩ (.slice ap lp.length cp)) (ip) (.bool np) (.slice ap lp.length cp) from Kp.out.set (.bool np) (.slice ap lp.length cp))
      replace HS := hidden (show Below w39.heap.size w39 ((w42.setCell ⟨ip, 0, none⟩ (.bool np)).setCell ⟨ip, 1, none⟩ (.slice ap lp.length cp)) from (HS.out.setCell hip _).setCell hip _)
      refine hK.out _ _ HS.out (fun hH4 => ?_)
      clear hK K
      try simp only [Act.put, List.setIfInBounds_toArray, List.set_cons_zero, List.set_cons_succ]
      generalize ((w42.setCell ⟨ip, 0, none⟩ (.bool np)).setCell ⟨ip, 1, none⟩ (.slice ap lp.length cp)) = w43 at HS Kp Np hH4 ⊢
      refine take_val' (i := 10) (v := .bool true) rfl (by kernel_rfl) (by kernel_rfl) (by kernel_rfl) (some 19) rfl (fun _ _ _ h => h) (Or.inl ⟨by rfl, fun W hW => by go_simp⟩) hH4 ?_
      try simp only [Act.put, List.setIfInBounds_toArray, List.set_cons_zero, List.set_cons_succ]
      refine wpAnyH_done (by kernel_rfl) ?_ _
      clear fa0 fa1 fb0 fb1 fc0 fc1 fq0 fq1 fr0 fr1
      replace Na := hidden (Na.out.below HS.out)
      replace Nb := hidden (Nb.out.below HS.out)
      replace Nc := hidden (Nc.out.below HS.out)
      replace Nq := hidden (Nq.out.below HS.out)
      replace Nr := hidden (Nr.out.below HS.out)
      replace Ka := hidden (Ka.out.below HS.out Ka.out.lt)
      replace Kb := hidden (Kb.out.below HS.out Kb.out.lt)
      replace Kc := hidden (Kc.out.below HS.out Kc.out.lt)
      replace Kq := hidden (Kq.out.below HS.out Kq.out.lt)
      replace Kr := hidden (Kr.out.below HS.out Kr.out.lt)
      replace HB := hidden (HB.out.trans (HS.out.mono HB.out.size))
      replace HT := hidden (HT.out.below HS.out)
      clear HS
      have fa0 := Ka.out.facts.1
      have fa1 := Ka.out.facts.2.1
      have fb0 := Kb.out.facts.1
      have fb1 := Kb.out.facts.2.1
      have fc0 := Kc.out.facts.1
      have fc1 := Kc.out.facts.2.1
      have fq0 := Kq.out.facts.1
      have fq1 := Kq.out.facts.2.1
      have fr0 := Kr.out.facts.1
      have fr1 := Kr.out.facts.2.1
      clear hip
      have fp0 := Kp.out.facts.1
      have fp1 := Kp.out.facts.2.1
      go_wp2_with fail
      refine wp_region_held_drew (S := fun W => Below w43.heap.size w43 W) (by kernel_rfl) (Below.refl _ _).drew (fun hH0 => ?_)
      have HS := hidden (show Below w43.heap.size w43 w43.drew from (Below.refl _ _).drew)
      refine take_val' (i := 0) (v := .agg #[.bool nq, .slice aq lq.length cq]) rfl (by kernel_rfl) (by kernel_rfl) (by kernel_rfl) (some 156) rfl (fun _ _ _ h => h) (Or.inl ⟨by rfl, fun W hW => by obtain ⟨k0, k1⟩ := Kq.out.held W hW; go_simp⟩) hH0 ?_
      try simp only [Act.put, List.setIfInBounds_toArray, List.set_cons_zero, List.set_cons_succ]
      refine take_val' (i := 1) (v := .agg #[.bool nb, .slice ab lb.length cb]) rfl (by kernel_rfl) (by kernel_rfl) (by kernel_rfl) (some 157) rfl (fun _ _ _ h => h) (Or.inl ⟨by rfl, fun W hW => by obtain ⟨k0, k1⟩ := Kb.out.held W hW; go_simp⟩) hH0 ?_
      try simp only [Act.put, List.setIfInBounds_toArray, List.set_cons_zero, List.set_cons_succ]
      refine take_val' (i := 3) (v := .agg #[.bool nr, .slice ar lr.length cr]) rfl (by kernel_rfl) (by kernel_rfl) (by kernel_rfl) (some 159) rfl (fun _ _ _ h => h) (Or.inl ⟨by rfl, fun W hW => by obtain ⟨k0, k1⟩ := Kr.out.held W hW; go_simp⟩) hH0 ?_
      try simp only [Act.put, List.setIfInBounds_toArray, List.set_cons_zero, List.set_cons_succ]
      refine take_val' (i := 5) (v := .agg #[.bool na, .slice aa la.length ca]) rfl (by kernel_rfl) (by kernel_rfl) (by kernel_rfl) (some 161) rfl (fun _ _ _ h => h) (Or.inl ⟨by rfl, fun W hW => by obtain ⟨k0, k1⟩ := Ka.out.held W hW; go_simp⟩) hH0 ?_
      try simp only [Act.put, List.setIfInBounds_toArray, List.set_cons_zero, List.set_cons_succ]
      refine wpAnyH_ready (rs := [2]) (by kernel_rfl) (by simp) ?_
      refine AllReadyH.cons rfl (fun K hK => ?_) AllReadyH.nil
      go_simp
      refine (mul_any _ _ (q2) (zb) (max 267 3 + 1) (267) _ (Nq.out.below HS.out) (Nb.out.below HS.out) (by omega) (by omega)).mono ?_
      rintro e w44 ⟨vm1, rfl, hv, hb⟩
      replace HS := hidden (HS.out.trans (hb.mono HS.out.size))
      clear hb
      have m1 := hidden hv
      clear hv
      refine hK.out _ _ HS.out (fun hH1 => ?_)
      clear hK K
      try simp only [Act.put, List.setIfInBounds_toArray, List.set_cons_zero, List.set_cons_succ]
      refine wpAnyH_ready (rs := [4]) (by kernel_rfl) (by simp) ?_
      refine AllReadyH.cons rfl (fun K hK => ?_) AllReadyH.nil
      go_simp
      refine (add_any _ _ ((q2) * (zb)) (r2) ((max 267 3 + 1) + (267)) (267 + 1) _ m1.out (Nr.out.below HS.out) (by omega) (by omega)).mono ?_
      rintro e w45 ⟨vm2, rfl, hv, hb⟩
      replace m1 := hidden (m1.out.below hb)
      replace HS := hidden (HS.out.trans (hb.mono HS.out.size))
      clear hb
      have m2 := hidden hv
      clear hv
      refine hK.out _ _ HS.out (fun hH2 => ?_)
      clear hK K
      try simp only [Act.put, List.setIfInBounds_toArray, List.set_cons_zero, List.set_cons_succ]
      clear m1
      refine wpAnyH_ready (rs := [6]) (by kernel_rfl) (by simp) ?_
      refine AllReadyH.cons rfl (fun K hK => ?_) AllReadyH.nil
      go_simp
      refine (cmp_same _ _ (((q2) * (zb)) + (r2)) (za) (max ((max 267 3 + 1) + (267)) (267 + 1) + 1) (267) _ (HDM.out.1.symm) m2.out (Na.out.below HS.out) (by omega) (by omega)).mono ?_
      rintro e w46 ⟨rfl, hb⟩
      replace m2 := hidden (m2.out.below hb)
      replace HS := hidden (HS.out.trans (hb.mono HS.out.size))
      clear hb
      refine hK.out _ _ HS.out (fun hH3 => ?_)
      clear hK K
      try simp only [Act.put, List.setIfInBounds_toArray, List.set_cons_zero, List.set_cons_succ]
      clear m2
      refine take_val' (i := 7) (v := .bool true) rfl (by kernel_rfl) (by kernel_rfl) (by kernel_rfl) (some 163) rfl (fun _ _ _ h => h) (Or.inl ⟨by rfl, fun W hW => by go_simp⟩) hH3 ?_
      try simp only [Act.put, List.setIfInBounds_toArray, List.set_cons_zero, List.set_cons_succ]
      refine take_val' (i := 8) (v := .bool true) rfl (by kernel_rfl) (by kernel_rfl) (by kernel_rfl) (some 164) rfl (fun _ _ _ h => h) (Or.inl ⟨by rfl, fun W hW => by go_simp⟩) hH3 ?_
      try simp only [Act.put, List.setIfInBounds_toArray, List.set_cons_zero, List.set_cons_succ]
      refine take_val' (i := 9) (v := .bool true) rfl (by kernel_rfl) (by kernel_rfl) (by kernel_rfl) (some 165) rfl (fun _ _ _ h => h) (Or.inl ⟨by rfl, fun W hW => by go_simp⟩) hH3 ?_
      try simp only [Act.put, List.setIfInBounds_toArray, List.set_cons_zero, List.set_cons_succ]
      refine take_val' (i := 10) (v := .bool true) rfl (by kernel_rfl) (by kernel_rfl) (by kernel_rfl) (some 166) rfl (fun _ _ _ h => h) (Or.inl ⟨by rfl, fun W hW => by go_simp⟩) hH3 ?_
      try simp only [Act.put, List.setIfInBounds_toArray, List.set_cons_zero, List.set_cons_succ]
      refine take_val' (i := 11) (v := .bool true) rfl (by kernel_rfl) (by kernel_rfl) (by kernel_rfl) (some 167) rfl (fun _ _ _ h => h) (Or.inl ⟨by rfl, fun W hW => by go_simp⟩) hH3 ?_
      try simp only [Act.put, List.setIfInBounds_toArray, List.set_cons_zero, List.set_cons_succ]
      refine take_val' (i := 12) (v := .agg #[.bool np, .slice ap lp.length cp]) rfl (by kernel_rfl) (by kernel_rfl) (by kernel_rfl) (some 168) rfl (fun _ _ _ h => h) (Or.inl ⟨by rfl, fun W hW => by obtain ⟨k0, k1⟩ := Kp.out.held W hW; go_simp⟩) hH3 ?_
      try simp only [Act.put, List.setIfInBounds_toArray, List.set_cons_zero, List.set_cons_succ]
      refine take_val' (i := 13) (v := .agg #[.bool na, .slice aa la.length ca]) rfl (by kernel_rfl) (by kernel_rfl) (by kernel_rfl) (some 169) rfl (fun _ _ _ h => h) (Or.inl ⟨by rfl, fun W hW => by obtain ⟨k0, k1⟩ := Ka.out.held W hW; go_simp⟩) hH3 ?_
      try simp only [Act.put, List.setIfInBounds_toArray, List.set_cons_zero, List.set_cons_succ]
      refine wpAnyH_ready (rs := [14]) (by kernel_rfl) (by simp) ?_
      refine AllReadyH.cons rfl (fun K hK => ?_) AllReadyH.nil
      go_simp
      refine (cmp_same _ _ (za) (za) (max (267 + 267) 3 + 1) (267) _ (rfl) (Np.out.below HS.out) (Na.out.below HS.out) (by omega) (by omega)).mono ?_
      rintro e w47 ⟨rfl, hb⟩
      replace HS := hidden (HS.out.trans (hb.mono HS.out.size))
      clear hb
      refine hK.out _ _ HS.out (fun hH4 => ?_)
      clear hK K
      try simp only [Act.put, List.setIfInBounds_toArray, List.set_cons_zero, List.set_cons_succ]
      refine take_val' (i := 15) (v := .bool true) rfl (by kernel_rfl) (by kernel_rfl) (by kernel_rfl) (some 171) rfl (fun _ _ _ h => h) (Or.inl ⟨by rfl, fun W hW => by go_simp⟩) hH4 ?_
      try simp only [Act.put, List.setIfInBounds_toArray, List.set_cons_zero, List.set_cons_succ]
      refine take_val' (i := 16) (v := .bool true) rfl (by kernel_rfl) (by kernel_rfl) (by kernel_rfl) (some 172) rfl (fun _ _ _ h => h) (Or.inl ⟨by rfl, fun W hW => by go_simp⟩) hH4 ?_
      try simp only [Act.put, List.setIfInBounds_toArray, List.set_cons_zero, List.set_cons_succ]
      refine take_val' (i := 17) (v := .bool true) rfl (by kernel_rfl) (by kernel_rfl) (by kernel_rfl) (some 173) rfl (fun _ _ _ h => h) (Or.inl ⟨by rfl, fun W hW => by go_simp⟩) hH4 ?_
      try simp only [Act.put, List.setIfInBounds_toArray, List.set_cons_zero, List.set_cons_succ]
      refine take_val' (i := 18) (v := .agg #[.bool na, .slice aa la.length ca]) rfl (by kernel_rfl) (by kernel_rfl) (by kernel_rfl) (some 174) rfl (fun _ _ _ h => h) (Or.inl ⟨by rfl, fun W hW => by obtain ⟨k0, k1⟩ := Ka.out.held W hW; go_simp⟩) hH4 ?_
      try simp only [Act.put, List.setIfInBounds_toArray, List.set_cons_zero, List.set_cons_succ]
      refine take_val' (i := 21) (v := .agg #[.bool na, .slice aa la.length ca]) rfl (by kernel_rfl) (by kernel_rfl) (by kernel_rfl) (some 177) rfl (fun _ _ _ h => h) (Or.inl ⟨by rfl, fun W hW => by obtain ⟨k0, k1⟩ := Ka.out.held W hW; go_simp⟩) hH4 ?_
      try simp only [Act.put, List.setIfInBounds_toArray, List.set_cons_zero, List.set_cons_succ]
      refine wpAnyH_ready (rs := [19]) (by kernel_rfl) (by simp) ?_
      refine AllReadyH.cons rfl (fun K hK => ?_) AllReadyH.nil
      go_simp
      refine (neg_any _ za 267 _ (Na.out.below HS.out) (by omega)).mono ?_
      rintro e w48 ⟨vm1, rfl, hv, hb⟩
      replace HS := hidden (HS.out.trans (hb.mono HS.out.size))
      clear hb
      have m1 := hidden hv
      clear hv
      refine hK.out _ _ HS.out (fun hH5 => ?_)
      clear hK K
      try simp only [Act.put, List.setIfInBounds_toArray, List.set_cons_zero, List.set_cons_succ]
      refine wpAnyH_ready (rs := [20]) (by kernel_rfl) (by simp) ?_
      refine AllReadyH.cons rfl (fun K hK => ?_) AllReadyH.nil
      go_simp
      refine (neg_any _ (-za) 267 _ m1.out (by omega)).mono ?_
      rintro e w49 ⟨vm2, rfl, hv, hb⟩
      replace m1 := hidden (m1.out.below hb)
      replace HS := hidden (HS.out.trans (hb.mono HS.out.size))
      clear hb
      have m2 := hidden hv
      clear hv
      refine hK.out _ _ HS.out (fun hH6 => ?_)
      clear hK K
      try simp only [Act.put, List.setIfInBounds_toArray, List.set_cons_zero, List.set_cons_succ]
      clear m1
      refine wpAnyH_ready (rs := [22]) (by kernel_rfl) (by simp) ?_
      refine AllReadyH.cons rfl (fun K hK => ?_) AllReadyH.nil
      go_simp
      refine (cmp_same _ _ (- -za) (za) (267) (267) _ (by omega) m2.out (Na.out.below HS.out) (by omega) (by omega)).mono ?_
      rintro e w50 ⟨rfl, hb⟩
      replace m2 := hidden (m2.out.below hb)
      replace HS := hidden (HS.out.trans (hb.mono HS.out.size))
      clear hb
      refine hK.out _ _ HS.out (fun hH7 => ?_)
      clear hK K
      try simp only [Act.put, List.setIfInBounds_toArray, List.set_cons_zero, List.set_cons_succ]
      clear m2
      refine take_val' (i := 23) (v := .bool true) rfl (by kernel_rfl) (by kernel_rfl) (by kernel_rfl) (some 179) rfl (fun _ _ _ h => h) (Or.inl ⟨by rfl, fun W hW => by go_simp⟩) hH7 ?_
      try simp only [Act.put, List.setIfInBounds_toArray, List.set_cons_zero, List.set_cons_succ]
      refine take_val' (i := 24) (v := .bool true) rfl (by kernel_rfl) (by kernel_rfl) (by kernel_rfl) (some 180) rfl (fun _ _ _ h => h) (Or.inl ⟨by rfl, fun W hW => by go_simp⟩) hH7 ?_
      try simp only [Act.put, List.setIfInBounds_toArray, List.set_cons_zero, List.set_cons_succ]
      refine take_val' (i := 25) (v := .bool true) rfl (by kernel_rfl) (by kernel_rfl) (by kernel_rfl) (some 181) rfl (fun _ _ _ h => h) (Or.inl ⟨by rfl, fun W hW => by go_simp⟩) hH7 ?_
      try simp only [Act.put, List.setIfInBounds_toArray, List.set_cons_zero, List.set_cons_succ]
      refine take_val' (i := 26) (v := .agg #[.bool na, .slice aa la.length ca]) rfl (by kernel_rfl) (by kernel_rfl) (by kernel_rfl) (some 182) rfl (fun _ _ _ h => h) (Or.inl ⟨by rfl, fun W hW => by obtain ⟨k0, k1⟩ := Ka.out.held W hW; go_simp⟩) hH7 ?_
      try simp only [Act.put, List.setIfInBounds_toArray, List.set_cons_zero, List.set_cons_succ]
      refine take_val' (i := 27) (v := .agg #[.bool na, .slice aa la.length ca]) rfl (by kernel_rfl) (by kernel_rfl) (by kernel_rfl) (some 183) rfl (fun _ _ _ h => h) (Or.inl ⟨by rfl, fun W hW => by obtain ⟨k0, k1⟩ := Ka.out.held W hW; go_simp⟩) hH7 ?_
      try simp only [Act.put, List.setIfInBounds_toArray, List.set_cons_zero, List.set_cons_succ]
      refine wpAnyH_ready (rs := [28]) (by kernel_rfl) (by simp) ?_
      refine AllReadyH.cons rfl (fun K hK => ?_) AllReadyH.nil
      go_simp
      refine (sub_any _ _ (za) (za) (267) (267) _ (Na.out.below HS.out) (Na.out.below HS.out) (by omega) (by omega)).mono ?_
      rintro e w51 ⟨vm1, rfl, hv, hb⟩
      replace HS := hidden (HS.out.trans (hb.mono HS.out.size))
      clear hb
      have m1 := hidden hv
      clear hv
      refine hK.out _ _ HS.out (fun hH8 => ?_)
      clear hK K
      try simp only [Act.put, List.setIfInBounds_toArray, List.set_cons_zero, List.set_cons_succ]
      refine wpAnyH_ready (rs := [29]) (by kernel_rfl) (by simp) ?_
      refine AllReadyH.cons rfl (fun K hK => ?_) AllReadyH.nil
      go_simp
      refine (text_is (l := [48]) ((congrArg txt (show za - za = 0 by omega)).trans (by decide +kernel)) _ (max (267) (267) + 1) _ m1.out (by omega) (HT.out.below HS.out)).mono ?_
      rintro e w52 ⟨rfl, hb⟩
      replace m1 := hidden (m1.out.below hb)
      replace HS := hidden (HS.out.trans (hb.mono HS.out.size))
      clear hb
      refine hK.out _ _ HS.out (fun hH9 => ?_)
      clear hK K
      try simp only [Act.put, List.setIfInBounds_toArray, List.set_cons_zero, List.set_cons_succ]
      clear m1
      refine take_val' (i := 30) (v := .bool true) rfl (by kernel_rfl) (by kernel_rfl) (by kernel_rfl) (some 186) rfl (fun _ _ _ h => h) (Or.inl ⟨by rfl, fun W hW => by go_simp⟩) hH9 ?_
      try simp only [Act.put, List.setIfInBounds_toArray, List.set_cons_zero, List.set_cons_succ]
      refine take_val' (i := 31) (v := .bool true) rfl (by kernel_rfl) (by kernel_rfl) (by kernel_rfl) (some 187) rfl (fun _ _ _ h => h) (Or.inl ⟨by rfl, fun W hW => by go_simp⟩) hH9 ?_
      try simp only [Act.put, List.setIfInBounds_toArray, List.set_cons_zero, List.set_cons_succ]
      refine take_val' (i := 32) (v := .bool true) rfl (by kernel_rfl) (by kernel_rfl) (by kernel_rfl) (some 6) rfl (fun _ _ _ h => h) (Or.inl ⟨by rfl, fun W hW => by go_simp⟩) hH9 ?_
      try simp only [Act.put, List.setIfInBounds_toArray, List.set_cons_zero, List.set_cons_succ]
      refine wpAnyH_done (by kernel_rfl) ?_ _
      clear fa0 fa1 fb0 fb1 fc0 fc1 fq0 fq1 fr0 fr1 fp0 fp1
      replace Na := hidden (Na.out.below HS.out)
      replace Nb := hidden (Nb.out.below HS.out)
      replace Nc := hidden (Nc.out.below HS.out)
      replace Nq := hidden (Nq.out.below HS.out)
      replace Nr := hidden (Nr.out.below HS.out)
      replace Np := hidden (Np.out.below HS.out)
      replace Ka := hidden (Ka.out.below HS.out Ka.out.lt)
      replace Kb := hidden (Kb.out.below HS.out Kb.out.lt)
      replace Kc := hidden (Kc.out.below HS.out Kc.out.lt)
      replace Kq := hidden (Kq.out.below HS.out Kq.out.lt)
      replace Kr := hidden (Kr.out.below HS.out Kr.out.lt)
      replace Kp := hidden (Kp.out.below HS.out Kp.out.lt)
      replace HB := hidden (HB.out.trans (HS.out.mono HB.out.size))
      replace HT := hidden (HT.out.below HS.out)
      clear HS
      have fa0 := Ka.out.facts.1
      have fa1 := Ka.out.facts.2.1
      have fb0 := Kb.out.facts.1
      have fb1 := Kb.out.facts.2.1
      have fc0 := Kc.out.facts.1
      have fc1 := Kc.out.facts.2.1
      have fq0 := Kq.out.facts.1
      have fq1 := Kq.out.facts.2.1
      have fr0 := Kr.out.facts.1
      have fr1 := Kr.out.facts.2.1
      have fp0 := Kp.out.facts.1
      have fp1 := Kp.out.facts.2.1
      go_wp2
      go_ret
      exact ⟨rfl, HB.out⟩
    · have hip : w39.heap.size ≤ w40.heap.size := HS.out.size
      have hbw := (Below.refl w40.heap.size w40).alloc (Nat.le_refl _) (.cells #[.bool false, .slice none 0 0] 25)
      replace m1 := hidden (m1.out.below hbw)
      have Kp := hidden (show Blk (w40.alloc (.cells #[.bool false, .slice none 0 0] 25)) w40.heap.size _ _ from blk_new w40 (.bool false) (.slice none 0 0))
      replace HS := hidden (show Below w39.heap.size w39 (w40.alloc (.cells #[.bool false, .slice none 0 0] 25)) from HS.out.trans (hbw.mono HS.out.size))
      clear hbw
      go_simp
      refine hK.out _ _ HS.out (fun hH2 => ?_)
      clear hK K
      try simp only [Act.put, List.setIfInBounds_toArray, List.set_cons_zero, List.set_cons_succ]
      generalize w40.alloc (.cells #[.bool false, .slice none 0 0] 25) = w53 at HS Kp m1 hH2 ⊢
      generalize w40.heap.size = ip at Kp hip ⊢
      refine wpAnyH_ready (rs := [4]) (by kernel_rfl) (by simp) ?_
      refine AllReadyH.cons rfl (fun K hK => ?_) AllReadyH.nil
      go_simp
      refine (div_any _ _ (za * zb) zb (267 + 267) 267 _ m1.out (Nb.out.below HS.out) (by omega) (by omega) HY.out).mono ?_
      rintro e w54 ⟨vp, q3, r3, rfl, hv, hdm, hb⟩
      replace Kp := hidden (Kp.out.below hb Kp.out.lt)
      replace HS := hidden (HS.out.trans (hb.mono HS.out.size))
      clear hb
      obtain ⟨hq3, hr3⟩ := dm_unique hdm HPQ.out
      replace hq3 := hq3.symm
      subst hq3
      subst hr3
      clear hdm
      have Np := hidden hv
      obtain ⟨np, ap, cp, lp, rfl, hrest⟩ := hv
      clear hrest m1
      refine hK.out _ _ HS.out (fun hH3 => ?_)
      clear hK K
      try simp only [Act.put, List.setIfInBounds_toArray, List.set_cons_zero, List.set_cons_succ]
      refine take_val' (i := 5) (v := .tuple #[.agg #[.bool np, .slice ap lp.length cp], .bool true]) rfl (by kernel_rfl) (by kernel_rfl) (by kernel_rfl) (some 148) rfl (fun _ _ _ h => h) (Or.inl ⟨by rfl, fun W hW => by go_simp⟩) hH3 ?_
      try simp only [Act.put, List.setIfInBounds_toArray, List.set_cons_zero, List.set_cons_succ]
      refine take_val' (i := 6) (v := .agg #[.bool np, .slice ap lp.length cp]) rfl (by kernel_rfl) (by kernel_rfl) (by kernel_rfl) (some 154) rfl (fun _ _ _ h => h) (Or.inl ⟨by rfl, fun W hW => by go_simp⟩) hH3 ?_
      try simp only [Act.put, List.setIfInBounds_toArray, List.set_cons_zero, List.set_cons_succ]
      refine take_val' (i := 7) (v := .bool true) rfl (by kernel_rfl) (by kernel_rfl) (by kernel_rfl) (some 155) rfl (fun _ _ _ h => h) (Or.inl ⟨by rfl, fun W hW => by go_simp⟩) hH3 ?_
      try simp only [Act.put, List.setIfInBounds_toArray, List.set_cons_zero, List.set_cons_succ]
      refine wpAnyH_ready (rs := [9]) (by kernel_rfl) (by simp) ?_
      refine AllReadyH.cons rfl (fun K hK => ?_) AllReadyH.nil
      obtain ⟨f0, f1, f2, f3⟩ := Kp.out.facts
      go_simp
      clear f0 f1 f2 f3
      replace Np := hidden (show NumAt ((w54.setCell ⟨ip, 0, none⟩ (.bool np)).setCell ⟨ip, 1, none⟩ (.slice ap lp.length cp)) _ _ _ from Np.out.stored Kp.out)
      replace Kp := hidden (show Blk ((w54.setCell ⟨ip, 0, none⟩ (.bool np)).setCell ⟨ip, 1, none⟩ (.slice ap lp.length cp)) (ip) (.bool np) (.slice ap lp.length cp) from Kp.out.set (.bool np) (.slice ap lp.length cp))
      replace HS := hidden (show Below w39.heap.size w39 ((w54.setCell ⟨ip, 0, none⟩ (.bool np)).setCell ⟨ip, 1, none⟩ (.slice ap lp.length cp)) from (HS.out.setCell hip _).setCell hip _)
      refine hK.out _ _ HS.out (fun hH4 => ?_)
      clear hK K
      try simp only [Act.put, List.setIfInBounds_toArray, List.set_cons_zero, List.set_cons_succ]
      generalize ((w54.setCell ⟨ip, 0, none⟩ (.bool np)).setCell ⟨ip, 1, none⟩ (.slice ap lp.length cp)) = w55 at HS Kp Np hH4 ⊢
      refine take_val' (i := 10) (v := .bool true) rfl (by kernel_rfl) (by kernel_rfl) (by kernel_rfl) (some 19) rfl (fun _ _ _ h => h) (Or.inl ⟨by rfl, fun W hW => by go_simp⟩) hH4 ?_
      try simp only [Act.put, List.setIfInBounds_toArray, List.set_cons_zero, List.set_cons_succ]
      refine wpAnyH_done (by kernel_rfl) ?_ _
      clear fa0 fa1 fb0 fb1 fc0 fc1 fq0 fq1 fr0 fr1
      replace Na := hidden (Na.out.below HS.out)
      replace Nb := hidden (Nb.out.below HS.out)
      replace Nc := hidden (Nc.out.below HS.out)
      replace Nq := hidden (Nq.out.below HS.out)
      replace Nr := hidden (Nr.out.below HS.out)
      replace Ka := hidden (Ka.out.below HS.out Ka.out.lt)
      replace Kb := hidden (Kb.out.below HS.out Kb.out.lt)
      replace Kc := hidden (Kc.out.below HS.out Kc.out.lt)
      replace Kq := hidden (Kq.out.below HS.out Kq.out.lt)
      replace Kr := hidden (Kr.out.below HS.out Kr.out.lt)
      replace HB := hidden (HB.out.trans (HS.out.mono HB.out.size))
      replace HT := hidden (HT.out.below HS.out)
      clear HS
      have fa0 := Ka.out.facts.1
      have fa1 := Ka.out.facts.2.1
      have fb0 := Kb.out.facts.1
      have fb1 := Kb.out.facts.2.1
      have fc0 := Kc.out.facts.1
      have fc1 := Kc.out.facts.2.1
      have fq0 := Kq.out.facts.1
      have fq1 := Kq.out.facts.2.1
      have fr0 := Kr.out.facts.1
      have fr1 := Kr.out.facts.2.1
      clear hip
      have fp0 := Kp.out.facts.1
      have fp1 := Kp.out.facts.2.1
      go_wp2_with fail
      refine wp_region_held_drew (S := fun W => Below w55.heap.size w55 W) (by kernel_rfl) (Below.refl _ _).drew (fun hH0 => ?_)
      have HS := hidden (show Below w55.heap.size w55 w55.drew from (Below.refl _ _).drew)
      refine take_val' (i := 0) (v := .agg #[.bool nq, .slice aq lq.length cq]) rfl (by kernel_rfl) (by kernel_rfl) (by kernel_rfl) (some 156) rfl (fun _ _ _ h => h) (Or.inl ⟨by rfl, fun W hW => by obtain ⟨k0, k1⟩ := Kq.out.held W hW; go_simp⟩) hH0 ?_
      try simp only [Act.put, List.setIfInBounds_toArray, List.set_cons_zero, List.set_cons_succ]
      refine take_val' (i := 1) (v := .agg #[.bool nb, .slice ab lb.length cb]) rfl (by kernel_rfl) (by kernel_rfl) (by kernel_rfl) (some 157) rfl (fun _ _ _ h => h) (Or.inl ⟨by rfl, fun W hW => by obtain ⟨k0, k1⟩ := Kb.out.held W hW; go_simp⟩) hH0 ?_
      try simp only [Act.put, List.setIfInBounds_toArray, List.set_cons_zero, List.set_cons_succ]
      refine take_val' (i := 3) (v := .agg #[.bool nr, .slice ar lr.length cr]) rfl (by kernel_rfl) (by kernel_rfl) (by kernel_rfl) (some 159) rfl (fun _ _ _ h => h) (Or.inl ⟨by rfl, fun W hW => by obtain ⟨k0, k1⟩ := Kr.out.held W hW; go_simp⟩) hH0 ?_
      try simp only [Act.put, List.setIfInBounds_toArray, List.set_cons_zero, List.set_cons_succ]
      refine take_val' (i := 5) (v := .agg #[.bool na, .slice aa la.length ca]) rfl (by kernel_rfl) (by kernel_rfl) (by kernel_rfl) (some 161) rfl (fun _ _ _ h => h) (Or.inl ⟨by rfl, fun W hW => by obtain ⟨k0, k1⟩ := Ka.out.held W hW; go_simp⟩) hH0 ?_
      try simp only [Act.put, List.setIfInBounds_toArray, List.set_cons_zero, List.set_cons_succ]
      refine wpAnyH_ready (rs := [2]) (by kernel_rfl) (by simp) ?_
      refine AllReadyH.cons rfl (fun K hK => ?_) AllReadyH.nil
      go_simp
      refine (mul_any _ _ (q2) (zb) (max 267 3 + 1) (267) _ (Nq.out.below HS.out) (Nb.out.below HS.out) (by omega) (by omega)).mono ?_
      rintro e w56 ⟨vm1, rfl, hv, hb⟩
      replace HS := hidden (HS.out.trans (hb.mono HS.out.size))
      clear hb
      have m1 := hidden hv
      clear hv
      refine hK.out _ _ HS.out (fun hH1 => ?_)
      clear hK K
      try simp only [Act.put, List.setIfInBounds_toArray, List.set_cons_zero, List.set_cons_succ]
      refine wpAnyH_ready (rs := [4]) (by kernel_rfl) (by simp) ?_
      refine AllReadyH.cons rfl (fun K hK => ?_) AllReadyH.nil
      go_simp
      refine (add_any _ _ ((q2) * (zb)) (r2) ((max 267 3 + 1) + (267)) (267 + 1) _ m1.out (Nr.out.below HS.out) (by omega) (by omega)).mono ?_
      rintro e w57 ⟨vm2, rfl, hv, hb⟩
      replace m1 := hidden (m1.out.below hb)
      replace HS := hidden (HS.out.trans (hb.mono HS.out.size))
      clear hb
      have m2 := hidden hv
      clear hv
      refine hK.out _ _ HS.out (fun hH2 => ?_)
      clear hK K
      try simp only [Act.put, List.setIfInBounds_toArray, List.set_cons_zero, List.set_cons_succ]
      clear m1
      refine wpAnyH_ready (rs := [6]) (by kernel_rfl) (by simp) ?_
      refine AllReadyH.cons rfl (fun K hK => ?_) AllReadyH.nil
      go_simp
      refine (cmp_same _ _ (((q2) * (zb)) + (r2)) (za) (max ((max 267 3 + 1) + (267)) (267 + 1) + 1) (267) _ (HDM.out.1.symm) m2.out (Na.out.below HS.out) (by omega) (by omega)).mono ?_
      rintro e w58 ⟨rfl, hb⟩
      replace m2 := hidden (m2.out.below hb)
      replace HS := hidden (HS.out.trans (hb.mono HS.out.size))
      clear hb
      refine hK.out _ _ HS.out (fun hH3 => ?_)
      clear hK K
      try simp only [Act.put, List.setIfInBounds_toArray, List.set_cons_zero, List.set_cons_succ]
      clear m2
      refine take_val' (i := 7) (v := .bool true) rfl (by kernel_rfl) (by kernel_rfl) (by kernel_rfl) (some 163) rfl (fun _ _ _ h => h) (Or.inl ⟨by rfl, fun W hW => by go_simp⟩) hH3 ?_
      try simp only [Act.put, List.setIfInBounds_toArray, List.set_cons_zero, List.set_cons_succ]
      refine take_val' (i := 8) (v := .bool true) rfl (by kernel_rfl) (by kernel_rfl) (by kernel_rfl) (some 164) rfl (fun _ _ _ h => h) (Or.inl ⟨by rfl, fun W hW => by go_simp⟩) hH3 ?_
      try simp only [Act.put, List.setIfInBounds_toArray, List.set_cons_zero, List.set_cons_succ]
      refine take_val' (i := 9) (v := .bool true) rfl (by kernel_rfl) (by kernel_rfl) (by kernel_rfl) (some 165) rfl (fun _ _ _ h => h) (Or.inl ⟨by rfl, fun W hW => by go_simp⟩) hH3 ?_
      try simp only [Act.put, List.setIfInBounds_toArray, List.set_cons_zero, List.set_cons_succ]
      refine take_val' (i := 10) (v := .bool true) rfl (by kernel_rfl) (by kernel_rfl) (by kernel_rfl) (some 166) rfl (fun _ _ _ h => h) (Or.inl ⟨by rfl, fun W hW => by go_simp⟩) hH3 ?_
      try simp only [Act.put, List.setIfInBounds_toArray, List.set_cons_zero, List.set_cons_succ]
      refine take_val' (i := 11) (v := .bool true) rfl (by kernel_rfl) (by kernel_rfl) (by kernel_rfl) (some 167) rfl (fun _ _ _ h => h) (Or.inl ⟨by rfl, fun W hW => by go_simp⟩) hH3 ?_
      try simp only [Act.put, List.setIfInBounds_toArray, List.set_cons_zero, List.set_cons_succ]
      refine take_val' (i := 12) (v := .agg #[.bool np, .slice ap lp.length cp]) rfl (by kernel_rfl) (by kernel_rfl) (by kernel_rfl) (some 168) rfl (fun _ _ _ h => h) (Or.inl ⟨by rfl, fun W hW => by obtain ⟨k0, k1⟩ := Kp.out.held W hW; go_simp⟩) hH3 ?_
      try simp only [Act.put, List.setIfInBounds_toArray, List.set_cons_zero, List.set_cons_succ]
      refine take_val' (i := 13) (v := .agg #[.bool na, .slice aa la.length ca]) rfl (by kernel_rfl) (by kernel_rfl) (by kernel_rfl) (some 169) rfl (fun _ _ _ h => h) (Or.inl ⟨by rfl, fun W hW => by obtain ⟨k0, k1⟩ := Ka.out.held W hW; go_simp⟩) hH3 ?_
      try simp only [Act.put, List.setIfInBounds_toArray, List.set_cons_zero, List.set_cons_succ]
      refine wpAnyH_ready (rs := [14]) (by kernel_rfl) (by simp) ?_
      refine AllReadyH.cons rfl (fun K hK => ?_) AllReadyH.nil
      go_simp
      refine (cmp_same _ _ (za) (za) (max (267 + 267) 3 + 1) (267) _ (rfl) (Np.out.below HS.out) (Na.out.below HS.out) (by omega) (by omega)).mono ?_
      rintro e w59 ⟨rfl, hb⟩
      replace HS := hidden (HS.out.trans (hb.mono HS.out.size))
      clear hb
      refine hK.out _ _ HS.out (fun hH4 => ?_)
      clear hK K
      try simp only [Act.put, List.setIfInBounds_toArray, List.set_cons_zero, List.set_cons_succ]
      refine take_val' (i := 15) (v := .bool true) rfl (by kernel_rfl) (by kernel_rfl) (by kernel_rfl) (some 171) rfl (fun _ _ _ h => h) (Or.inl ⟨by rfl, fun W hW => by go_simp⟩) hH4 ?_
      try simp only [Act.put, List.setIfInBounds_toArray, List.set_cons_zero, List.set_cons_succ]
      refine take_val' (i := 16) (v := .bool true) rfl (by kernel_rfl) (by kernel_rfl) (by kernel_rfl) (some 172) rfl (fun _ _ _ h => h) (Or.inl ⟨by rfl, fun W hW => by go_simp⟩) hH4 ?_
      try simp only [Act.put, List.setIfInBounds_toArray, List.set_cons_zero, List.set_cons_succ]
      refine take_val' (i := 17) (v := .bool true) rfl (by kernel_rfl) (by kernel_rfl) (by kernel_rfl) (some 173) rfl (fun _ _ _ h => h) (Or.inl ⟨by rfl, fun W hW => by go_simp⟩) hH4 ?_
      try simp only [Act.put, List.setIfInBounds_toArray, List.set_cons_zero, List.set_cons_succ]
      refine take_val' (i := 18) (v := .agg #[.bool na, .slice aa la.length ca]) rfl (by kernel_rfl) (by kernel_rfl) (by kernel_rfl) (some 174) rfl (fun _ _ _ h => h) (Or.inl ⟨by rfl, fun W hW => by obtain ⟨k0, k1⟩ := Ka.out.held W hW; go_simp⟩) hH4 ?_
      try simp only [Act.put, List.setIfInBounds_toArray, List.set_cons_zero, List.set_cons_succ]
      refine take_val' (i := 21) (v := .agg #[.bool na, .slice aa la.length ca]) rfl (by kernel_rfl) (by kernel_rfl) (by kernel_rfl) (some 177) rfl (fun _ _ _ h => h) (Or.inl ⟨by rfl, fun W hW => by obtain ⟨k0, k1⟩ := Ka.out.held W hW; go_simp⟩) hH4 ?_
      try simp only [Act.put, List.setIfInBounds_toArray, List.set_cons_zero, List.set_cons_succ]
      refine wpAnyH_ready (rs := [19]) (by kernel_rfl) (by simp) ?_
      refine AllReadyH.cons rfl (fun K hK => ?_) AllReadyH.nil
      go_simp
      refine (neg_any _ za 267 _ (Na.out.below HS.out) (by omega)).mono ?_
      rintro e w60 ⟨vm1, rfl, hv, hb⟩
      replace HS := hidden (HS.out.trans (hb.mono HS.out.size))
      clear hb
      have m1 := hidden hv
      clear hv
      refine hK.out _ _ HS.out (fun hH5 => ?_)
      clear hK K
      try simp only [Act.put, List.setIfInBounds_toArray, List.set_cons_zero, List.set_cons_succ]
      refine wpAnyH_ready (rs := [20]) (by kernel_rfl) (by simp) ?_
      refine AllReadyH.cons rfl (fun K hK => ?_) AllReadyH.nil
      go_simp
      refine (neg_any _ (-za) 267 _ m1.out (by omega)).mono ?_
      rintro e w61 ⟨vm2, rfl, hv, hb⟩
      replace m1 := hidden (m1.out.below hb)
      replace HS := hidden (HS.out.trans (hb.mono HS.out.size))
      clear hb
      have m2 := hidden hv
      clear hv
      refine hK.out _ _ HS.out (fun hH6 => ?_)
      clear hK K
      try simp only [Act.put, List.setIfInBounds_toArray, List.set_cons_zero, List.set_cons_succ]
      clear m1
      refine wpAnyH_ready (rs := [22]) (by kernel_rfl) (by simp) ?_
      refine AllReadyH.cons rfl (fun K hK => ?_) AllReadyH.nil
      go_simp
      refine (cmp_same _ _ (- -za) (za) (267) (267) _ (by omega) m2.out (Na.out.below HS.out) (by omega) (by omega)).mono ?_
      rintro e w62 ⟨rfl, hb⟩
      replace m2 := hidden (m2.out.below hb)
      replace HS := hidden (HS.out.trans (hb.mono HS.out.size))
      clear hb
      refine hK.out _ _ HS.out (fun hH7 => ?_)
      clear hK K
      try simp only [Act.put, List.setIfInBounds_toArray, List.set_cons_zero, List.set_cons_succ]
      clear m2
      refine take_val' (i := 23) (v := .bool true) rfl (by kernel_rfl) (by kernel_rfl) (by kernel_rfl) (some 179) rfl (fun _ _ _ h => h) (Or.inl ⟨by rfl, fun W hW => by go_simp⟩) hH7 ?_
      try simp only [Act.put, List.setIfInBounds_toArray, List.set_cons_zero, List.set_cons_succ]
      refine take_val' (i := 24) (v := .bool true) rfl (by kernel_rfl) (by kernel_rfl) (by kernel_rfl) (some 180) rfl (fun _ _ _ h => h) (Or.inl ⟨by rfl, fun W hW => by go_simp⟩) hH7 ?_
      try simp only [Act.put, List.setIfInBounds_toArray, List.set_cons_zero, List.set_cons_succ]
      refine take_val' (i := 25) (v := .bool true) rfl (by kernel_rfl) (by kernel_rfl) (by kernel_rfl) (some 181) rfl (fun _ _ _ h => h) (Or.inl ⟨by rfl, fun W hW => by go_simp⟩) hH7 ?_
      try simp only [Act.put, List.setIfInBounds_toArray, List.set_cons_zero, List.set_cons_succ]
      refine take_val' (i := 26) (v := .agg #[.bool na, .slice aa la.length ca]) rfl (by kernel_rfl) (by kernel_rfl) (by kernel_rfl) (some 182) rfl (fun _ _ _ h => h) (Or.inl ⟨by rfl, fun W hW => by obtain ⟨k0, k1⟩ := Ka.out.held W hW; go_simp⟩) hH7 ?_
      try simp only [Act.put, List.setIfInBounds_toArray, List.set_cons_zero, List.set_cons_succ]
      refine take_val' (i := 27) (v := .agg #[.bool na, .slice aa la.length ca]) rfl (by kernel_rfl) (by kernel_rfl) (by kernel_rfl) (some 183) rfl (fun _ _ _ h => h) (Or.inl ⟨by rfl, fun W hW => by obtain ⟨k0, k1⟩ := Ka.out.held W hW; go_simp⟩) hH7 ?_
      try simp only [Act.put, List.setIfInBounds_toArray, List.set_cons_zero, List.set_cons_succ]
      refine wpAnyH_ready (rs := [28]) (by kernel_rfl) (by simp) ?_
      refine AllReadyH.cons rfl (fun K hK => ?_) AllReadyH.nil
      go_simp
      refine (sub_any _ _ (za) (za) (267) (267) _ (Na.out.below HS.out) (Na.out.below HS.out) (by omega) (by omega)).mono ?_
      rintro e w63 ⟨vm1, rfl, hv, hb⟩
      replace HS := hidden (HS.out.trans (hb.mono HS.out.size))
      clear hb
      have m1 := hidden hv
      clear hv
      refine hK.out _ _ HS.out (fun hH8 => ?_)
      clear hK K
      try simp only [Act.put, List.setIfInBounds_toArray, List.set_cons_zero, List.set_cons_succ]
      refine wpAnyH_ready (rs := [29]) (by kernel_rfl) (by simp) ?_
      refine AllReadyH.cons rfl (fun K hK => ?_) AllReadyH.nil
      go_simp
      refine (text_is (l := [48]) ((congrArg txt (show za - za = 0 by omega)).trans (by decide +kernel)) _ (max (267) (267) + 1) _ m1.out (by omega) (HT.out.below HS.out)).mono ?_
      rintro e w64 ⟨rfl, hb⟩
      replace m1 := hidden (m1.out.below hb)
      replace HS := hidden (HS.out.trans (hb.mono HS.out.size))
      clear hb
      refine hK.out _ _ HS.out (fun hH9 => ?_)
      clear hK K
      try simp only [Act.put, List.setIfInBounds_toArray, List.set_cons_zero, List.set_cons_succ]
      clear m1
      refine take_val' (i := 30) (v := .bool true) rfl (by kernel_rfl) (by kernel_rfl) (by kernel_rfl) (some 186) rfl (fun _ _ _ h => h) (Or.inl ⟨by rfl, fun W hW => by go_simp⟩) hH9 ?_
      try simp only [Act.put, List.setIfInBounds_toArray, List.set_cons_zero, List.set_cons_succ]
      refine take_val' (i := 31) (v := .bool true) rfl (by kernel_rfl) (by kernel_rfl) (by kernel_rfl) (some 187) rfl (fun _ _ _ h => h) (Or.inl ⟨by rfl, fun W hW => by go_simp⟩) hH9 ?_
      try simp only [Act.put, List.setIfInBounds_toArray, List.set_cons_zero, List.set_cons_succ]
      refine take_val' (i := 32) (v := .bool true) rfl (by kernel_rfl) (by kernel_rfl) (by kernel_rfl) (some 6) rfl (fun _ _ _ h => h) (Or.inl ⟨by rfl, fun W hW => by go_simp⟩) hH9 ?_
      try simp only [Act.put, List.setIfInBounds_toArray, List.set_cons_zero, List.set_cons_succ]
      refine wpAnyH_done (by kernel_rfl) ?_ _
      clear fa0 fa1 fb0 fb1 fc0 fc1 fq0 fq1 fr0 fr1 fp0 fp1
      replace Na := hidden (Na.out.below HS.out)
      replace Nb := hidden (Nb.out.below HS.out)
      replace Nc := hidden (Nc.out.below HS.out)
      replace Nq := hidden (Nq.out.below HS.out)
      replace Nr := hidden (Nr.out.below HS.out)
      replace Np := hidden (Np.out.below HS.out)
      replace Ka := hidden (Ka.out.below HS.out Ka.out.lt)
      replace Kb := hidden (Kb.out.below HS.out Kb.out.lt)
      replace Kc := hidden (Kc.out.below HS.out Kc.out.lt)
      replace Kq := hidden (Kq.out.below HS.out Kq.out.lt)
      replace Kr := hidden (Kr.out.below HS.out Kr.out.lt)
      replace Kp := hidden (Kp.out.below HS.out Kp.out.lt)
      replace HB := hidden (HB.out.trans (HS.out.mono HB.out.size))
      replace HT := hidden (HT.out.below HS.out)
      clear HS
      have fa0 := Ka.out.facts.1
      have fa1 := Ka.out.facts.2.1
      have fb0 := Kb.out.facts.1
      have fb1 := Kb.out.facts.2.1
      have fc0 := Kc.out.facts.1
      have fc1 := Kc.out.facts.2.1
      have fq0 := Kq.out.facts.1
      have fq1 := Kq.out.facts.2.1
      have fr0 := Kr.out.facts.1
      have fr1 := Kr.out.facts.2.1
      have fp0 := Kp.out.facts.1
      have fp1 := Kp.out.facts.2.1
      go_wp2
      go_ret
      exact ⟨rfl, HB.out⟩
  · have hip : w39.heap.size ≤ w39.heap.size := HS.out.size
    have hbw := (Below.refl w39.drew.heap.size w39.drew).alloc (Nat.le_refl _) (.cells #[.bool false, .slice none 0 0] 25)
    have Kp := hidden (show Blk ((w39.alloc (.cells #[.bool false, .slice none 0 0] 25)).drew) w39.heap.size _ _ from blk_new w39.drew (.bool false) (.slice none 0 0))
    replace HS := hidden (show Below w39.heap.size w39 ((w39.alloc (.cells #[.bool false, .slice none 0 0] 25)).drew) from HS.out.trans (hbw.mono HS.out.size))
    clear hbw
    go_simp
    refine hK.out _ _ HS.out (fun hH1 => ?_)
    clear hK K
    try simp only [Act.put, List.setIfInBounds_toArray, List.set_cons_zero, List.set_cons_succ]
    generalize (w39.alloc (.cells #[.bool false, .slice none 0 0] 25)).drew = w65 at HS Kp  hH1 ⊢
    refine wpAnyH_ready (rs := [2]) (by kernel_rfl) (by simp) ?_
    refine AllReadyH.cons rfl (fun K hK => ?_) AllReadyH.nil
    go_simp
    refine (mul_any _ _ za zb 267 267 _ (Na.out.below HS.out) (Nb.out.below HS.out) (by omega) (by omega)).mono ?_
    rintro e w66 ⟨vm1, rfl, hv, hb⟩
    replace Kp := hidden (Kp.out.below hb Kp.out.lt)
    replace HS := hidden (HS.out.trans (hb.mono HS.out.size))
    clear hb
    have m1 := hidden hv
    clear hv
    refine hK.out _ _ HS.out (fun hH2 => ?_)
    clear hK K
    try simp only [Act.put, List.setIfInBounds_toArray, List.set_cons_zero, List.set_cons_succ]
    refine wpAnyH_ready (rs := [4]) (by kernel_rfl) (by simp) ?_
    refine AllReadyH.cons rfl (fun K hK => ?_) AllReadyH.nil
    go_simp
    refine (div_any _ _ (za * zb) zb (267 + 267) 267 _ m1.out (Nb.out.below HS.out) (by omega) (by omega) HY.out).mono ?_
    rintro e w67 ⟨vp, q3, r3, rfl, hv, hdm, hb⟩
    replace Kp := hidden (Kp.out.below hb Kp.out.lt)
    replace HS := hidden (HS.out.trans (hb.mono HS.out.size))
    clear hb
    obtain ⟨hq3, hr3⟩ := dm_unique hdm HPQ.out
    replace hq3 := hq3.symm
    subst hq3
    subst hr3
    clear hdm
    have Np := hidden hv
    obtain ⟨np, ap, cp, lp, rfl, hrest⟩ := hv
    clear hrest m1
    refine hK.out _ _ HS.out (fun hH3 => ?_)
    clear hK K
    try simp only [Act.put, List.setIfInBounds_toArray, List.set_cons_zero, List.set_cons_succ]
    refine take_val' (i := 5) (v := .tuple #[.agg #[.bool np, .slice ap lp.length cp], .bool true]) rfl (by kernel_rfl) (by kernel_rfl) (by kernel_rfl) (some 148) rfl (fun _ _ _ h => h) (Or.inl ⟨by rfl, fun W hW => by go_simp⟩) hH3 ?_
    try simp only [Act.put, List.setIfInBounds_toArray, List.set_cons_zero, List.set_cons_succ]
    refine take_val' (i := 6) (v := .agg #[.bool np, .slice ap lp.length cp]) rfl (by kernel_rfl) (by kernel_rfl) (by kernel_rfl) (some 154) rfl (fun _ _ _ h => h) (Or.inl ⟨by rfl, fun W hW => by go_simp⟩) hH3 ?_
    try simp only [Act.put, List.setIfInBounds_toArray, List.set_cons_zero, List.set_cons_succ]
    refine take_val' (i := 7) (v := .bool true) rfl (by kernel_rfl) (by kernel_rfl) (by kernel_rfl) (some 155) rfl (fun _ _ _ h => h) (Or.inl ⟨by rfl, fun W hW => by go_simp⟩) hH3 ?_
    try simp only [Act.put, List.setIfInBounds_toArray, List.set_cons_zero, List.set_cons_succ]
    refine wpAnyH_ready (rs := [9]) (by kernel_rfl) (by simp) ?_
    refine AllReadyH.cons rfl (fun K hK => ?_) AllReadyH.nil
    obtain ⟨f0, f1, f2, f3⟩ := Kp.out.facts
    go_simp
    clear f0 f1 f2 f3
    replace Np := hidden (show NumAt ((w67.setCell ⟨w39.heap.size, 0, none⟩ (.bool np)).setCell ⟨w39.heap.size, 1, none⟩ (.slice ap lp.length cp)) _ _ _ from Np.out.stored Kp.out)
    replace Kp := hidden (show Blk ((w67.setCell ⟨w39.heap.size, 0, none⟩ (.bool np)).setCell ⟨w39.heap.size, 1, none⟩ (.slice ap lp.length cp)) (w39.heap.size) (.bool np) (.slice ap lp.length cp) from Kp.out.set (.bool np) (.slice ap lp.length cp))
    replace HS := hidden (show Below w39.heap.size w39 ((w67.setCell ⟨w39.heap.size, 0, none⟩ (.bool np)).setCell ⟨w39.heap.size, 1, none⟩ (.slice ap lp.length cp)) from (HS.out.setCell hip _).setCell hip _)
    refine hK.out _ _ HS.out (fun hH4 => ?_)
    clear hK K
    try simp only [Act.put, List.setIfInBounds_toArray, List.set_cons_zero, List.set_cons_succ]
    generalize ((w67.setCell ⟨w39.heap.size, 0, none⟩ (.bool np)).setCell ⟨w39.heap.size, 1, none⟩ (.slice ap lp.length cp)) = w68 at HS Kp Np hH4 ⊢
    refine take_val' (i := 10) (v := .bool true) rfl (by kernel_rfl) (by kernel_rfl) (by kernel_rfl) (some 19) rfl (fun _ _ _ h => h) (Or.inl ⟨by rfl, fun W hW => by go_simp⟩) hH4 ?_
    try simp only [Act.put, List.setIfInBounds_toArray, List.set_cons_zero, List.set_cons_succ]
    refine wpAnyH_done (by kernel_rfl) ?_ _
    clear fa0 fa1 fb0 fb1 fc0 fc1 fq0 fq1 fr0 fr1
    replace Na := hidden (Na.out.below HS.out)
    replace Nb := hidden (Nb.out.below HS.out)
    replace Nc := hidden (Nc.out.below HS.out)
    replace Nq := hidden (Nq.out.below HS.out)
    replace Nr := hidden (Nr.out.below HS.out)
    replace Ka := hidden (Ka.out.below HS.out Ka.out.lt)
    replace Kb := hidden (Kb.out.below HS.out Kb.out.lt)
    replace Kc := hidden (Kc.out.below HS.out Kc.out.lt)
    replace Kq := hidden (Kq.out.below HS.out Kq.out.lt)
    replace Kr := hidden (Kr.out.below HS.out Kr.out.lt)
    replace HB := hidden (HB.out.trans (HS.out.mono HB.out.size))
    replace HT := hidden (HT.out.below HS.out)
    clear HS
    have fa0 := Ka.out.facts.1
    have fa1 := Ka.out.facts.2.1
    have fb0 := Kb.out.facts.1
    have fb1 := Kb.out.facts.2.1
    have fc0 := Kc.out.facts.1
    have fc1 := Kc.out.facts.2.1
    have fq0 := Kq.out.facts.1
    have fq1 := Kq.out.facts.2.1
    have fr0 := Kr.out.facts.1
    have fr1 := Kr.out.facts.2.1
    clear hip
    have fp0 := Kp.out.facts.1
    have fp1 := Kp.out.facts.2.1
    go_wp2_with fail
    refine wp_region_held_drew (S := fun W => Below w68.heap.size w68 W) (by kernel_rfl) (Below.refl _ _).drew (fun hH0 => ?_)
    have HS := hidden (show Below w68.heap.size w68 w68.drew from (Below.refl _ _).drew)
    refine take_val' (i := 0) (v := .agg #[.bool nq, .slice aq lq.length cq]) rfl (by kernel_rfl) (by kernel_rfl) (by kernel_rfl) (some 156) rfl (fun _ _ _ h => h) (Or.inl ⟨by rfl, fun W hW => by obtain ⟨k0, k1⟩ := Kq.out.held W hW; go_simp⟩) hH0 ?_
    try simp only [Act.put, List.setIfInBounds_toArray, List.set_cons_zero, List.set_cons_succ]
    refine take_val' (i := 1) (v := .agg #[.bool nb, .slice ab lb.length cb]) rfl (by kernel_rfl) (by kernel_rfl) (by kernel_rfl) (some 157) rfl (fun _ _ _ h => h) (Or.inl ⟨by rfl, fun W hW => by obtain ⟨k0, k1⟩ := Kb.out.held W hW; go_simp⟩) hH0 ?_
    try simp only [Act.put, List.setIfInBounds_toArray, List.set_cons_zero, List.set_cons_succ]
    refine take_val' (i := 3) (v := .agg #[.bool nr, .slice ar lr.length cr]) rfl (by kernel_rfl) (by kernel_rfl) (by kernel_rfl) (some 159) rfl (fun _ _ _ h => h) (Or.inl ⟨by rfl, fun W hW => by obtain ⟨k0, k1⟩ := Kr.out.held W hW; go_simp⟩) hH0 ?_
    try simp only [Act.put, List.setIfInBounds_toArray, List.set_cons_zero, List.set_cons_succ]
    refine take_val' (i := 5) (v := .agg #[.bool na, .slice aa la.length ca]) rfl (by kernel_rfl) (by kernel_rfl) (by kernel_rfl) (some 161) rfl (fun _ _ _ h => h) (Or.inl ⟨by rfl, fun W hW => by obtain ⟨k0, k1⟩ := Ka.out.held W hW; go_simp⟩) hH0 ?_
    try simp only [Act.put, List.setIfInBounds_toArray, List.set_cons_zero, List.set_cons_succ]
    refine wpAnyH_ready (rs := [2]) (by kernel_rfl) (by simp) ?_
    refine AllReadyH.cons rfl (fun K hK => ?_) AllReadyH.nil
    go_simp
    refine (mul_any _ _ (q2) (zb) (max 267 3 + 1) (267) _ (Nq.out.below HS.out) (Nb.out.below HS.out) (by omega) (by omega)).mono ?_
    rintro e w69 ⟨vm1, rfl, hv, hb⟩
    replace HS := hidden (HS.out.trans (hb.mono HS.out.size))
    clear hb
    have m1 := hidden hv
    clear hv
    refine hK.out _ _ HS.out (fun hH1 => ?_)
    clear hK K
    try simp only [Act.put, List.setIfInBounds_toArray, List.set_cons_zero, List.set_cons_succ]
    refine wpAnyH_ready (rs := [4]) (by kernel_rfl) (by simp) ?_
    refine AllReadyH.cons rfl (fun K hK => ?_) AllReadyH.nil
    go_simp
    refine (add_any _ _ ((q2) * (zb)) (r2) ((max 267 3 + 1) + (267)) (267 + 1) _ m1.out (Nr.out.below HS.out) (by omega) (by omega)).mono ?_
    rintro e w70 ⟨vm2, rfl, hv, hb⟩
    replace m1 := hidden (m1.out.below hb)
    replace HS := hidden (HS.out.trans (hb.mono HS.out.size))
    clear hb
    have m2 := hidden hv
    clear hv
    refine hK.out _ _ HS.out (fun hH2 => ?_)
    clear hK K
    try simp only [Act.put, List.setIfInBounds_toArray, List.set_cons_zero, List.set_cons_succ]
    clear m1
    refine wpAnyH_ready (rs := [6]) (by kernel_rfl) (by simp) ?_
    refine AllReadyH.cons rfl (fun K hK => ?_) AllReadyH.nil
    go_simp
    refine (cmp_same _ _ (((q2) * (zb)) + (r2)) (za) (max ((max 267 3 + 1) + (267)) (267 + 1) + 1) (267) _ (HDM.out.1.symm) m2.out (Na.out.below HS.out) (by omega) (by omega)).mono ?_
    rintro e w71 ⟨rfl, hb⟩
    replace m2 := hidden (m2.out.below hb)
    replace HS := hidden (HS.out.trans (hb.mono HS.out.size))
    clear hb
    refine hK.out _ _ HS.out (fun hH3 => ?_)
    clear hK K
    try simp only [Act.put, List.setIfInBounds_toArray, List.set_cons_zero, List.set_cons_succ]
    clear m2
    refine take_val' (i := 7) (v := .bool true) rfl (by kernel_rfl) (by kernel_rfl) (by kernel_rfl) (some 163) rfl (fun _ _ _ h => h) (Or.inl ⟨by rfl, fun W hW => by go_simp⟩) hH3 ?_
    try simp only [Act.put, List.setIfInBounds_toArray, List.set_cons_zero, List.set_cons_succ]
    refine take_val' (i := 8) (v := .bool true) rfl (by kernel_rfl) (by kernel_rfl) (by kernel_rfl) (some 164) rfl (fun _ _ _ h => h) (Or.inl ⟨by rfl, fun W hW => by go_simp⟩) hH3 ?_
    try simp only [Act.put, List.setIfInBounds_toArray, List.set_cons_zero, List.set_cons_succ]
    refine take_val' (i := 9) (v := .bool true) rfl (by kernel_rfl) (by kernel_rfl) (by kernel_rfl) (some 165) rfl (fun _ _ _ h => h) (Or.inl ⟨by rfl, fun W hW => by go_simp⟩) hH3 ?_
    try simp only [Act.put, List.setIfInBounds_toArray, List.set_cons_zero, List.set_cons_succ]
    refine take_val' (i := 10) (v := .bool true) rfl (by kernel_rfl) (by kernel_rfl) (by kernel_rfl) (some 166) rfl (fun _ _ _ h => h) (Or.inl ⟨by rfl, fun W hW => by go_simp⟩) hH3 ?_
    try simp only [Act.put, List.setIfInBounds_toArray, List.set_cons_zero, List.set_cons_succ]
    refine take_val' (i := 11) (v := .bool true) rfl (by kernel_rfl) (by kernel_rfl) (by kernel_rfl) (some 167) rfl (fun _ _ _ h => h) (Or.inl ⟨by rfl, fun W hW => by go_simp⟩) hH3 ?_
    try simp only [Act.put, List.setIfInBounds_toArray, List.set_cons_zero, List.set_cons_succ]
    refine take_val' (i := 12) (v := .agg #[.bool np, .slice ap lp.length cp]) rfl (by kernel_rfl) (by kernel_rfl) (by kernel_rfl) (some 168) rfl (fun _ _ _ h => h) (Or.inl ⟨by rfl, fun W hW => by obtain ⟨k0, k1⟩ := Kp.out.held W hW; go_simp⟩) hH3 ?_
    try simp only [Act.put, List.setIfInBounds_toArray, List.set_cons_zero, List.set_cons_succ]
    refine take_val' (i := 13) (v := .agg #[.bool na, .slice aa la.length ca]) rfl (by kernel_rfl) (by kernel_rfl) (by kernel_rfl) (some 169) rfl (fun _ _ _ h => h) (Or.inl ⟨by rfl, fun W hW => by obtain ⟨k0, k1⟩ := Ka.out.held W hW; go_simp⟩) hH3 ?_
    try simp only [Act.put, List.setIfInBounds_toArray, List.set_cons_zero, List.set_cons_succ]
    refine wpAnyH_ready (rs := [14]) (by kernel_rfl) (by simp) ?_
    refine AllReadyH.cons rfl (fun K hK => ?_) AllReadyH.nil
    go_simp
    refine (cmp_same _ _ (za) (za) (max (267 + 267) 3 + 1) (267) _ (rfl) (Np.out.below HS.out) (Na.out.below HS.out) (by omega) (by omega)).mono ?_
    rintro e w72 ⟨rfl, hb⟩
    replace HS := hidden (HS.out.trans (hb.mono HS.out.size))
    clear hb
    refine hK.out _ _ HS.out (fun hH4 => ?_)
    clear hK K
    try simp only [Act.put, List.setIfInBounds_toArray, List.set_cons_zero, List.set_cons_succ]
    refine take_val' (i := 15) (v := .bool true) rfl (by kernel_rfl) (by kernel_rfl) (by kernel_rfl) (some 171) rfl (fun _ _ _ h => h) (Or.inl ⟨by rfl, fun W hW => by go_simp⟩) hH4 ?_
    try simp only [Act.put, List.setIfInBounds_toArray, List.set_cons_zero, List.set_cons_succ]
    refine take_val' (i := 16) (v := .bool true) rfl (by kernel_rfl) (by kernel_rfl) (by kernel_rfl) (some 172) rfl (fun _ _ _ h => h) (Or.inl ⟨by rfl, fun W hW => by go_simp⟩) hH4 ?_
    try simp only [Act.put, List.setIfInBounds_toArray, List.set_cons_zero, List.set_cons_succ]
    refine take_val' (i := 17) (v := .bool true) rfl (by kernel_rfl) (by kernel_rfl) (by kernel_rfl) (some 173) rfl (fun _ _ _ h => h) (Or.inl ⟨by rfl, fun W hW => by go_simp⟩) hH4 ?_
    try simp only [Act.put, List.setIfInBounds_toArray, List.set_cons_zero, List.set_cons_succ]
    refine take_val' (i := 18) (v := .agg #[.bool na, .slice aa la.length ca]) rfl (by kernel_rfl) (by kernel_rfl) (by kernel_rfl) (some 174) rfl (fun _ _ _ h => h) (Or.inl ⟨by rfl, fun W hW => by obtain ⟨k0, k1⟩ := Ka.out.held W hW; go_simp⟩) hH4 ?_
    try simp only [Act.put, List.setIfInBounds_toArray, List.set_cons_zero, List.set_cons_succ]
    refine take_val' (i := 21) (v := .agg #[.bool na, .slice aa la.length ca]) rfl (by kernel_rfl) (by kernel_rfl) (by kernel_rfl) (some 177) rfl (fun _ _ _ h => h) (Or.inl ⟨by rfl, fun W hW => by obtain ⟨k0, k1⟩ := Ka.out.held W hW; go_simp⟩) hH4 ?_
    try simp only [Act.put, List.setIfInBounds_toArray, List.set_cons_zero, List.set_cons_succ]
    refine wpAnyH_ready (rs := [19]) (by kernel_rfl) (by simp) ?_
    refine AllReadyH.cons rfl (fun K hK => ?_) AllReadyH.nil
    go_simp
    refine (neg_any _ za 267 _ (Na.out.below HS.out) (by omega)).mono ?_
    rintro e w73 ⟨vm1, rfl, hv, hb⟩
    replace HS := hidden (HS.out.trans (hb.mono HS.out.size))
    clear hb
    have m1 := hidden hv
    clear hv
    refine hK.out _ _ HS.out (fun hH5 => ?_)
    clear hK K
    try simp only [Act.put, List.setIfInBounds_toArray, List.set_cons_zero, List.set_cons_succ]
    refine wpAnyH_ready (rs := [20]) (by kernel_rfl) (by simp) ?_
    refine AllReadyH.cons rfl (fun K hK => ?_) AllReadyH.nil
    go_simp
    refine (neg_any _ (-za) 267 _ m1.out (by omega)).mono ?_
    rintro e w74 ⟨vm2, rfl, hv, hb⟩
    replace m1 := hidden (m1.out.below hb)
    replace HS := hidden (HS.out.trans (hb.mono HS.out.size))
    clear hb
    have m2 := hidden hv
    clear hv
    refine hK.out _ _ HS.out (fun hH6 => ?_)
    clear hK K
    try simp only [Act.put, List.setIfInBounds_toArray, List.set_cons_zero, List.set_cons_succ]
    clear m1
    refine wpAnyH_ready (rs := [22]) (by kernel_rfl) (by simp) ?_
    refine AllReadyH.cons rfl (fun K hK => ?_) AllReadyH.nil
    go_simp
    refine (cmp_same _ _ (- -za) (za) (267) (267) _ (by omega) m2.out (Na.out.below HS.out) (by omega) (by omega)).mono ?_
    rintro e w75 ⟨rfl, hb⟩
    replace m2 := hidden (m2.out.below hb)
    replace HS := hidden (HS.out.trans (hb.mono HS.out.size))
    clear hb
    refine hK.out _ _ HS.out (fun hH7 => ?_)
    clear hK K
    try simp only [Act.put, List.setIfInBounds_toArray, List.set_cons_zero, List.set_cons_succ]
    clear m2
    refine take_val' (i := 23) (v := .bool true) rfl (by kernel_rfl) (by kernel_rfl) (by kernel_rfl) (some 179) rfl (fun _ _ _ h => h) (Or.inl ⟨by rfl, fun W hW => by go_simp⟩) hH7 ?_
    try simp only [Act.put, List.setIfInBounds_toArray, List.set_cons_zero, List.set_cons_succ]
    refine take_val' (i := 24) (v := .bool true) rfl (by kernel_rfl) (by kernel_rfl) (by kernel_rfl) (some 180) rfl (fun _ _ _ h => h) (Or.inl ⟨by rfl, fun W hW => by go_simp⟩) hH7 ?_
    try simp only [Act.put, List.setIfInBounds_toArray, List.set_cons_zero, List.set_cons_succ]
    refine take_val' (i := 25) (v := .bool true) rfl (by kernel_rfl) (by kernel_rfl) (by kernel_rfl) (some 181) rfl (fun _ _ _ h => h) (Or.inl ⟨by rfl, fun W hW => by go_simp⟩) hH7 ?_
    try simp only [Act.put, List.setIfInBounds_toArray, List.set_cons_zero, List.set_cons_succ]
    refine take_val' (i := 26) (v := .agg #[.bool na, .slice aa la.length ca]) rfl (by kernel_rfl) (by kernel_rfl) (by kernel_rfl) (some 182) rfl (fun _ _ _ h => h) (Or.inl ⟨by rfl, fun W hW => by obtain ⟨k0, k1⟩ := Ka.out.held W hW; go_simp⟩) hH7 ?_
    try simp only [Act.put, List.setIfInBounds_toArray, List.set_cons_zero, List.set_cons_succ]
    refine take_val' (i := 27) (v := .agg #[.bool na, .slice aa la.length ca]) rfl (by kernel_rfl) (by kernel_rfl) (by kernel_rfl) (some 183) rfl (fun _ _ _ h => h) (Or.inl ⟨by rfl, fun W hW => by obtain ⟨k0, k1⟩ := Ka.out.held W hW; go_simp⟩) hH7 ?_
    try simp only [Act.put, List.setIfInBounds_toArray, List.set_cons_zero, List.set_cons_succ]
    refine wpAnyH_ready (rs := [28]) (by kernel_rfl) (by simp) ?_
    refine AllReadyH.cons rfl (fun K hK => ?_) AllReadyH.nil
    go_simp
    refine (sub_any _ _ (za) (za) (267) (267) _ (Na.out.below HS.out) (Na.out.below HS.out) (by omega) (by omega)).mono ?_
    rintro e w76 ⟨vm1, rfl, hv, hb⟩
    replace HS := hidden (HS.out.trans (hb.mono HS.out.size))
    clear hb
    have m1 := hidden hv
    clear hv
    refine hK.out _ _ HS.out (fun hH8 => ?_)
    clear hK K
    try simp only [Act.put, List.setIfInBounds_toArray, List.set_cons_zero, List.set_cons_succ]
    refine wpAnyH_ready (rs := [29]) (by kernel_rfl) (by simp) ?_
    refine AllReadyH.cons rfl (fun K hK => ?_) AllReadyH.nil
    go_simp
    refine (text_is (l := [48]) ((congrArg txt (show za - za = 0 by omega)).trans (by decide +kernel)) _ (max (267) (267) + 1) _ m1.out (by omega) (HT.out.below HS.out)).mono ?_
    rintro e w77 ⟨rfl, hb⟩
    replace m1 := hidden (m1.out.below hb)
    replace HS := hidden (HS.out.trans (hb.mono HS.out.size))
    clear hb
    refine hK.out _ _ HS.out (fun hH9 => ?_)
    clear hK K
    try simp only [Act.put, List.setIfInBounds_toArray, List.set_cons_zero, List.set_cons_succ]
    clear m1
    refine take_val' (i := 30) (v := .bool true) rfl (by kernel_rfl) (by kernel_rfl) (by kernel_rfl) (some 186) rfl (fun _ _ _ h => h) (Or.inl ⟨by rfl, fun W hW => by go_simp⟩) hH9 ?_
    try simp only [Act.put, List.setIfInBounds_toArray, List.set_cons_zero, List.set_cons_succ]
    refine take_val' (i := 31) (v := .bool true) rfl (by kernel_rfl) (by kernel_rfl) (by kernel_rfl) (some 187) rfl (fun _ _ _ h => h) (Or.inl ⟨by rfl, fun W hW => by go_simp⟩) hH9 ?_
    try simp only [Act.put, List.setIfInBounds_toArray, List.set_cons_zero, List.set_cons_succ]
    refine take_val' (i := 32) (v := .bool true) rfl (by kernel_rfl) (by kernel_rfl) (by kernel_rfl) (some 6) rfl (fun _ _ _ h => h) (Or.inl ⟨by rfl, fun W hW => by go_simp⟩) hH9 ?_
    try simp only [Act.put, List.setIfInBounds_toArray, List.set_cons_zero, List.set_cons_succ]
    refine wpAnyH_done (by kernel_rfl) ?_ _
    clear fa0 fa1 fb0 fb1 fc0 fc1 fq0 fq1 fr0 fr1 fp0 fp1
    replace Na := hidden (Na.out.below HS.out)
    replace Nb := hidden (Nb.out.below HS.out)
    replace Nc := hidden (Nc.out.below HS.out)
    replace Nq := hidden (Nq.out.below HS.out)
    replace Nr := hidden (Nr.out.below HS.out)
    replace Np := hidden (Np.out.below HS.out)
    replace Ka := hidden (Ka.out.below HS.out Ka.out.lt)
    replace Kb := hidden (Kb.out.below HS.out Kb.out.lt)
    replace Kc := hidden (Kc.out.below HS.out Kc.out.lt)
    replace Kq := hidden (Kq.out.below HS.out Kq.out.lt)
    replace Kr := hidden (Kr.out.below HS.out Kr.out.lt)
    replace Kp := hidden (Kp.out.below HS.out Kp.out.lt)
    replace HB := hidden (HB.out.trans (HS.out.mono HB.out.size))
    replace HT := hidden (HT.out.below HS.out)
    clear HS
    have fa0 := Ka.out.facts.1
    have fa1 := Ka.out.facts.2.1
    have fb0 := Kb.out.facts.1
    have fb1 := Kb.out.facts.2.1
    have fc0 := Kc.out.facts.1
    have fc1 := Kc.out.facts.2.1
    have fq0 := Kq.out.facts.1
    have fq1 := Kq.out.facts.2.1
    have fr0 := Kr.out.facts.1
    have fr1 := Kr.out.facts.2.1
    have fp0 := Kp.out.facts.1
    have fp1 := Kp.out.facts.2.1
    go_wp2
    go_ret
    exact ⟨rfl, HB.out⟩
end Nm
end Go.Proofs.YtapdkibiegeijaaDoor
