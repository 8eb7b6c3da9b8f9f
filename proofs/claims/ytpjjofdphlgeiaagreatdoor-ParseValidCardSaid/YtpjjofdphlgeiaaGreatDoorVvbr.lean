/- Parts of the proof, together. What a dict's closure, items (of a dict) and dict answer. Conditions: as told of less fuel. What items (of a dict) answers. Conditions: as told of less fuel. What dict of the parser answers. Conditions: as told of less fuel. What loaded, load of the parser answers. Conditions: as told of less fuel. -/
import Derived.Test.YtpjjofdphlgeiaaGreatDoorVvbn
import Derived.Test.YtpjjofdphlgeiaaGreatDoorVvbk
namespace Go.Proofs.YtpjjofdphlgeiaaGreatDoor
open Go.RowKit
open Lx Ax Px

/-- On the way through a dict's pairs: its list, their variables. -/
structure CK (A : Nat → Addr) (B pb kb px : Nat) (ts : List Tok) (tv : Value) (W0 : World) (vl0 : Value) (vs0 : List Value) (W : World) (s : PS) (vl : Value) (vs : List Value) (v : Value) (zs : List Int) : Prop where
  pv : PV A B pb ts tv W s vl vs
  st : Step W0.heap.size B pb W0 vl0 vs0 W vl vs
  kr : RowV W kb 30 [v]
  pr : RowV W px 45 [.pointer (some ⟨pb, 0, none⟩)]
  oz : OwnZ W B v zs
  off : Off v vs
  new : ∀ k, v.ownBlock = some k → W0.heap.size ≤ k
  hi : W0.heap.size ≤ kb ∧ B ≤ W0.heap.size
theorem CK.pushed {A : Nat → Addr} {B pb kb px : Nat} {ts : List Tok} {tv : Value} {W0 : World} {vl0 : Value} {vs0 : List Value} {W w9 : World} {s : PS} {vl : Value} {vs : List Value} {v : Value} {zs : List Int} (h : CK A B pb kb px ts tv W0 vl0 vs0 W s vl vs v zs)
    (z : Int) (g cap : Nat) (ho : OwnZ w9 B (.slice (some ⟨g, 0, none⟩) (zs.length + 1) cap) (zs ++ [z])) (hb : Below B W w9) (hf : ∀ k, k < W.heap.size → v.ownBlock ≠ some k → w9.heap[k]? = W.heap[k]?) (hg : (some g = v.ownBlock) ∨ g = W.heap.size + 1) :
    RowV w9 kb 30 [v] ∧ CK A B pb kb px ts tv W0 vl0 vs0 (w9.setCell ⟨kb, 0, none⟩ (.slice (some ⟨g, 0, none⟩) (zs.length + 1) cap)) s vl vs (.slice (some ⟨g, 0, none⟩) (zs.length + 1) cap) (zs ++ [z]) := by
  have hk9 := h.kr.far (hf kb h.kr.lt (fun e => ne_kind h.oz h.kr (by decide) kb e rfl))
  have hp9 := h.pr.far (hf px h.pr.lt (fun e => ne_kind h.oz h.pr (by decide) px e rfl))
  obtain ⟨q1, q2, q3, q4⟩ := row_push (m := zs.length + 1) h.pv h.st h.oz h.off h.new hb hf g cap hg
  exact ⟨hk9, ⟨q1.setBox hk9 (by decide) (by decide) (by decide) (Nat.le_trans h.hi.2 h.hi.1) 0 _, q2.set ⟨kb, 0, none⟩ _ (.inl h.hi.1) h.hi.2 q1.high, hk9.set 0 _, row_past hp9 _ _ (fun e => RowV.apart hp9 hk9 (by decide) e), ho.keep fun k e _ => heap_setCell_other _ _ k _ (fun e2 => ne_kind ho hk9 (by decide) k e e2), q3, q4, h.hi⟩⟩
theorem CK.step {A : Nat → Addr} {B pb kb px : Nat} {ts : List Tok} {tv : Value} {W0 : World} {vl0 : Value} {vs0 : List Value} {W w2 : World} {s s2 : PS} {vl vl2 : Value} {vs vs2 : List Value} {v : Value} {zs : List Int} (h : CK A B pb kb px ts tv W0 vl0 vs0 W s vl vs v zs)
    (hp : PV A B pb ts tv w2 s2 vl2 vs2) (hs : Step W.heap.size B pb W vl vs w2 vl2 vs2) : CK A B pb kb px ts tv W0 vl0 vs0 w2 s2 vl2 vs2 v zs :=
  ⟨hp, h.st.then (Nat.le_trans (Nat.le_refl _) (Nat.le_refl _)) hs, h.kr.stepR (by decide) (by decide) h.pv hs, h.pr.stepR (by decide) (by decide) h.pv hs, h.oz.step h.pv hs, h.off.step hs (fun k hk => (World.ownsRow.lt h.oz k hk).2), h.new, h.hi⟩
def K1P (A : Nat → Addr) (B pb kb px : Nat) (ts : List Tok) (tv : Value) (W0 : World) (vl0 : Value) (vs0 : List Value) (W : World) (r : R) (e : Ending) (w' : World) : Prop := match r with
  | .stuck => False
  | .bad l p => FaultP A B W l p e w'
  | .ok _ zs _ s' => e = .returned (.tuple #[]) ∧ ∃ vl' vs' v', CK A B pb kb px ts tv W0 vl0 vs0 w' s' vl' vs' v' zs
set_option maxRecDepth 10000 in
set_option maxHeartbeats 12800000 in
theorem dict1_step {A : Nat → Addr} {B pb kb px : Nat} {ts : List Tok} {tv : Value} {m : Nat} (H : All A B pb ts tv m) {W0 : World} {vl0 : Value} {vs0 : List Value} {W : World} {s : PS} {vl : Value} {vs : List Value} {v : Value} {zs : List Int}
    (h : CK A B pb kb px ts tv W0 vl0 vs0 W s vl vs v zs) (hz : zs.length < 900001) (r : R) (hr : runF ts (m + 1) (.pair zs) s = r) (hnr : r ≠ .stuck) :
    Calls Tryz.prog 187 #[.pointer (some ⟨kb, 0, none⟩), .pointer (some ⟨px, 0, none⟩)] W (K1P A B pb kb px ts tv W0 vl0 vs0 W r) := by
  have HR := hid' hr
  clear hr
  rw [runF] at HR
  unfold bodyF at HR
  try dsimp only at HR
  have hp1 : PV A B pb ts tv W.drew s vl vs := h.pv.drewN 1
  have hs1 : Step W.heap.size B pb W vl vs W.drew vl vs := Step.drewN (Step.refl W.heap.size B pb W vl vs) 1
  have HC := hid' h
  have HC1 := hid' (h.step hp1 hs1)
  have HBX : Hid (Below B W W.drew) := hid' hs1.below
  have k0 := h.kr.cell (j := 0) rfl
  have p0 := h.pr.cell (j := 0) rfl
  clear hp1 hs1 h
  generalize hq1 : runF ts m .test s = r1 at HR
  rcases r1 with _ | ⟨l1, q1⟩ | ⟨z1, y1, c1, s1⟩
  · exact absurd HR.out.symm hnr
  · have HA := hid' (H.test _ _ _ _ _ HC1.out.pv hq1 (by simp))
    obtain rfl : R.bad l1 q1 = r := HR.out
    obtain ⟨ao, cap, rfl, _⟩ := own_form HC.out.oz
    go_enter Tryz.func187, Tryz.ntmps187
    go_wp2_with fail
    refine wp_region_held_drew (S := fun W' => RowV W' kb 30 [.slice ao zs.length cap] ∧ RowV W' px 45 [.pointer (some ⟨pb, 0, none⟩)]) (by kernel_rfl) (by exact ⟨HC.out.kr, HC.out.pr⟩) (fun hHeld => ?_)
    refine take_val' (i := 0) (v := .slice ao zs.length cap) rfl (by kernel_rfl) (by kernel_rfl) (by kernel_rfl) (some 2) rfl (fun _ _ _ h => h) (Or.inl ⟨by rfl, fun W' hW => by have y0 := RowV.cell hW.1 (j := 0) rfl; go_simp⟩) hHeld ?_
    try simp only [Act.put, List.setIfInBounds_toArray, List.set_cons_zero, List.set_cons_succ]
    refine take_val' (i := 1) (v := .pointer (some ⟨pb, 0, none⟩)) rfl (by kernel_rfl) (by kernel_rfl) (by kernel_rfl) (some 3) rfl (fun _ _ _ h => h) (Or.inl ⟨by rfl, fun W' hW => by have y0 := RowV.cell hW.2 (j := 0) rfl; go_simp⟩) hHeld ?_
    try simp only [Act.put, List.setIfInBounds_toArray, List.set_cons_zero, List.set_cons_succ]
    refine wpAnyH_ready (rs := [2]) (by kernel_rfl) (by simp) ?_
    refine AllReadyH.cons rfl (fun K hK => ?_) AllReadyH.nil
    go_simp
    refine Calls.mono HA.out ?_
    rintro e wb hp
    have HF := hid' (FaultP.of_below hp HBX.out)
    obtain ⟨gb, rfl, _⟩ := hp
    exact ⟨rfl, HF.out⟩
  have HA := hid' (H.test _ _ _ _ _ HC1.out.pv hq1 (by simp))
  try dsimp only [R.bind] at HR
  clear hq1
  obtain ⟨ao, cap, rfl, _⟩ := own_form HC.out.oz
  go_enter Tryz.func187, Tryz.ntmps187
  go_wp2_with fail
  go_region_law (first | (go_simp; go_at_call 72; refine Calls.mono HA.out ?_; rintro e w2 ⟨vl2, vs2, rfl, hp2, hs2⟩; have h2 := HC1.out.step hp2 hs2; have HBA := hid' (HBX.out.trans hs2.below); have k2 := h2.kr.cell (j := 0) rfl; have p2 := h2.pr.cell (j := 0) rfl; have kl2 := h2.kr.lt; have H2 := hid' h2; clear hp2 hs2 h2) | (refine num_drawn (W := w2) H2.out.oz z1 H2.out.pv.lowB (by omega) rfl (.tmp 2) (.tmp 5) (by rfl) (by rfl) (by rfl) ?_; intro g9 cap9 w9 q1 q2 q3 q4 q5; have h9 := H2.out.pushed z1 g9 cap9 q1 q2 q3 q4; have HBB := hid' (HBA.out.trans q2); have k9 := h9.1.cell (j := 0) rfl; have o9 := h9.1.open_ 0; have l9 := h9.1.lt; have H9 := hid' h9.2; clear h9 q1 q2 q3 q4 q5))
  all_goals (
    have HBC : Hid (Below B W (w9.setCell ⟨kb, 0, none⟩ (.slice (some ⟨g9, 0, none⟩) (zs.length + 1) cap9))) := hid' (HBB.out.setCell (Nat.le_trans H9.out.hi.2 H9.out.hi.1) _)
    generalize (w9.setCell ⟨kb, 0, none⟩ (.slice (some ⟨g9, 0, none⟩) (zs.length + 1) cap9)) = wx at H9 HBC ⊢
    clear HBB HBA HBX HA HC HC1 H2 k2 p2 kl2 k9 o9 l9 k0 p0
    obtain ⟨zq, hzq⟩ : ∃ l, zs ++ [z1] = l := ⟨_, rfl⟩
    have hzl : zq.length < 900002 := by rw [← hzq, List.length_append, List.length_singleton]; omega
    rw [hzq] at H9 HR
    clear hzq
    rw [needF] at HR
    generalize ht : ts[PS.at_ s1]? = ot at HR
    rcases ot with _ | t
    · exact absurd HR.out.symm hnr
    try dsimp only at HR
    have p5 := H9.out.pr.cell (j := 0) rfl
    have pl5 := H9.out.pr.lt
    by_cases hl : ¬ sg t = [58]
    · rw [if_neg hl] at HR
      go_wp2_with fail
      refine Calls.mono (need_miss H9.out.pv t ht [58] hl) ?_
      rintro e wb hp
      have HF := hid' (FaultP.of_below hp HBC.out)
      obtain ⟨gb, rfl, _⟩ := hp
      obtain rfl : R.bad false t.pos = r := HR.out
      go_wp2
      exact ⟨rfl, HF.out⟩
    rw [Decidable.not_not] at hl
    rw [if_pos hl] at HR
    go_wp2_with fail
    clear p5 pl5
    refine Calls.mono (need_hit H9.out.pv t ht [58] hl) ?_
    rintro e wy ⟨rfl, hp, hst⟩
    have hs := hst.step wx.heap.size vl2 vs2
    have HD := hid' (H9.out.step hp hs)
    have HBD := hid' (HBC.out.trans hs.below)
    clear hp hst hs HBC H9 hl ht
    generalize (PS.mk (PS.at_ s1 + 1) (PS.nodes s1) (PS.deep s1)) = s3 at HD HR
    have hp3 : PV A B pb ts tv wy.drew s3 vl2 vs2 := HD.out.pv.drewN 1
    have hs3 : Step wy.heap.size B pb wy vl2 vs2 wy.drew vl2 vs2 := Step.drewN (Step.refl wy.heap.size B pb wy vl2 vs2) 1
    have HD1 := hid' (HD.out.step hp3 hs3)
    have HBE := hid' (HBD.out.trans hs3.below)
    have k0 := HD.out.kr.cell (j := 0) rfl
    have p0 := HD.out.pr.cell (j := 0) rfl
    clear hp3 hs3
    generalize hq2 : runF ts m .test s3 = r2 at HR
    rcases r2 with _ | ⟨l2, q2⟩ | ⟨z2, y2, c2, s4⟩
    · exact absurd HR.out.symm hnr
    · have HA2 := hid' (H.test _ _ _ _ _ HD1.out.pv hq2 (by simp))
      obtain rfl : R.bad l2 q2 = r := HR.out
      go_wp2_with fail
      refine wp_region_held_drew (S := fun W' => RowV W' kb 30 [.slice (some ⟨g9, 0, none⟩) (zs.length + 1) cap9] ∧ RowV W' px 45 [.pointer (some ⟨pb, 0, none⟩)]) (by kernel_rfl) (by exact ⟨HD.out.kr, HD.out.pr⟩) (fun hHeld => ?_)
      refine take_val' (i := 0) (v := .slice (some ⟨g9, 0, none⟩) (zs.length + 1) cap9) rfl (by kernel_rfl) (by kernel_rfl) (by kernel_rfl) (some 9) rfl (fun _ _ _ h => h) (Or.inl ⟨by rfl, fun W' hW => by have y0 := RowV.cell hW.1 (j := 0) rfl; go_simp⟩) hHeld ?_
      try simp only [Act.put, List.setIfInBounds_toArray, List.set_cons_zero, List.set_cons_succ]
      refine take_val' (i := 1) (v := .pointer (some ⟨pb, 0, none⟩)) rfl (by kernel_rfl) (by kernel_rfl) (by kernel_rfl) (some 10) rfl (fun _ _ _ h => h) (Or.inl ⟨by rfl, fun W' hW => by have y0 := RowV.cell hW.2 (j := 0) rfl; go_simp⟩) hHeld ?_
      try simp only [Act.put, List.setIfInBounds_toArray, List.set_cons_zero, List.set_cons_succ]
      refine wpAnyH_ready (rs := [2]) (by kernel_rfl) (by simp) ?_
      refine AllReadyH.cons rfl (fun K hK => ?_) AllReadyH.nil
      go_simp
      refine Calls.mono HA2.out ?_
      rintro e wb hp
      have HF := hid' (FaultP.of_below hp HBE.out)
      obtain ⟨gb, rfl, _⟩ := hp
      exact ⟨rfl, HF.out⟩
    have HA2 := hid' (H.test _ _ _ _ _ HD1.out.pv hq2 (by simp))
    try dsimp only [R.bind] at HR
    clear hq2
    obtain rfl := HR.out
    go_wp2_with fail
    go_region_law (first | (go_simp; go_at_call 72; refine Calls.mono HA2.out ?_; rintro e w5 ⟨vl5, vs5, rfl, hp5, hs5⟩; have h5 := HD1.out.step hp5 hs5; have k5 := h5.kr.cell (j := 0) rfl; have p5 := h5.pr.cell (j := 0) rfl; have kl5 := h5.kr.lt; have H5 := hid' h5; clear hp5 hs5 h5) | (refine num_drawn (W := w5) H5.out.oz z2 H5.out.pv.lowB (by omega) rfl (.tmp 9) (.tmp 12) (by rfl) (by rfl) (by rfl) ?_; intro ga capa wa q1 q2 q3 q4 q5; have ha := H5.out.pushed z2 ga capa q1 q2 q3 q4; have ka := ha.1.cell (j := 0) rfl; have oa := ha.1.open_ 0; have la := ha.1.lt; have HZ := hid' ha.2; clear ha q1 q2 q3 q4 q5))
    all_goals (
      go_wp2
      go_end0
      exact ⟨rfl, _, _, _, HZ.out⟩))
end Go.Proofs.YtpjjofdphlgeiaaGreatDoor

namespace Go.Proofs.YtpjjofdphlgeiaaGreatDoor
open Go.RowKit
open Lx Ax Px

def KtP (A : Nat → Addr) (B pb kb px : Nat) (ts : List Tok) (tv : Value) (W0 : World) (vl0 : Value) (vs0 : List Value) (r : R) (e : Ending) (w' : World) : Prop := match r with
  | .stuck => False
  | .bad l p => FaultP A B W0 l p e w'
  | .ok _ zs _ s' => e = .returned (.tuple #[]) ∧ ∃ vl' vs' v', CK A B pb kb px ts tv W0 vl0 vs0 w' s' vl' vs' v' zs
set_option maxRecDepth 10000 in
set_option maxHeartbeats 6400000 in
theorem items_dict {A : Nat → Addr} {B pb kb px : Nat} {ts : List Tok} {tv : Value} {m : Nat} (H : ∀ j, j ≤ m → All A B pb ts tv j) {W0 : World} {vl0 : Value} {vs0 : List Value} {W : World} {s : PS} {vl : Value} {vs : List Value} {v : Value} {zs : List Int}
    (h : CK A B pb kb px ts tv W0 vl0 vs0 W s vl vs v zs) (hz : zs.length < 900001) (r : R) (hr : runF ts m (.pairs zs) s = r) (hnr : r ≠ .stuck) :
    Calls Tryz.prog 105 #[.pointer (some ⟨pb, 0, none⟩), .string (txt [125]), .func (.func 187) #[] #[.pointer (some ⟨kb, 0, none⟩), .pointer (some ⟨px, 0, none⟩)]] W (KtP A B pb kb px ts tv W0 vl0 vs0 r) := by
  have HC := hid' h
  have HR := hid' hr
  clear h hr
  have hnot : ∀ (x : Bool) (w : World), (Op.unary .not (.bool x)).run Tryz.prog w = .ok (.bool (!x)) w := fun _ _ => rfl
  go_enter Tryz.func105, Tryz.ntmps105
  go_wp2_with fail
  go_loopg [] m (fun gk wr => ∃ (s : PS) (vl : Value) (vs : List Value) (v : Value) (zs : List Int), gk ≤ m ∧ zs.length < 900001 ∧ Hid (CK A B pb kb px ts tv W0 vl0 vs0 wr s vl vs v zs) ∧ Hid (runF ts gk (.pairs zs) s = r))
  case atStart => exact ⟨s, vl, vs, v, zs, Nat.le_refl _, hz, HC, HR⟩
  case round =>
    clear HC HR hz
    obtain ⟨s, vl, vs, v, zs, hgk, hz, HC, HR⟩ := hrel
    rcases gk with _ | j
    · exact absurd HR.out.symm hnr
    rw [runF] at HR
    unfold bodyF at HR
    try dsimp only at HR
    rw [Px.signF] at HR
    generalize ht : ts[s.at_]? = o at HR
    rcases o with _ | t
    · exact absurd HR.out.symm hnr
    try dsimp only at HR
    go_wp2_with fail
    refine Calls.mono (sees_any HC.out.pv t ht [125]) ?_
    rintro e w2 ⟨rfl, b2⟩
    have h2 := HC.out.step (HC.out.pv.low b2) (Step.low (n := wr.heap.size) HC.out.pv b2)
    replace HC := hid' h2
    clear h2 b2
    by_cases hl : sg t = [125]
    · rw [if_pos hl] at HR
      rw [decide_eq_true hl]
      obtain rfl := HR.out
      clear hl
      go_wp2
      go_end0
      exact ⟨rfl, _, _, _, HC.out⟩
    rw [if_neg hl] at HR
    rw [decide_eq_false hl]
    clear hl ht
    rcases j with _ | j
    · exact absurd HR.out.symm hnr
    generalize hq : runF ts (j + 1) (.pair zs) s = ra at HR
    rcases ra with _ | ⟨l1, p1⟩ | ⟨z1, y1, c1, s1⟩
    · exact absurd HR.out.symm hnr
    · go_wp2_with fail
      refine Calls.mono (dict1_step (H j (by omega)) HC.out hz _ hq (by simp)) ?_
      rintro e wb hp
      have HF := hid' (FaultP.of_below hp HC.out.st.below)
      obtain ⟨gb, rfl, _⟩ := hp
      obtain rfl : R.bad l1 p1 = r := HR.out
      go_wp2
      exact ⟨rfl, HF.out⟩
    go_wp2_with fail
    refine Calls.mono (dict1_step (H j (by omega)) HC.out hz _ hq (by simp)) ?_
    rintro e w3 ⟨rfl, vl3, vs3, v3, h3⟩
    replace HC := hid' h3
    try dsimp only [R.bind] at HR
    clear h3 hq
    by_cases hlen : ¬ y1.length < 900000
    · rw [if_neg hlen] at HR
      exact absurd HR.out.symm hnr
    rw [Decidable.not_not] at hlen
    rw [if_pos hlen] at HR
    rw [Px.signF] at HR
    generalize ht4 : ts[s1.at_]? = o4 at HR
    rcases o4 with _ | t4
    · exact absurd HR.out.symm hnr
    try dsimp only at HR
    go_wp2_with fail
    refine Calls.mono (sees_any HC.out.pv t4 ht4 [125]) ?_
    rintro e w4 ⟨rfl, b4⟩
    have h4 := HC.out.step (HC.out.pv.low b4) (Step.low (n := w3.heap.size) HC.out.pv b4)
    replace HC := hid' h4
    clear h4 b4
    by_cases hl4 : sg t4 = [125]
    · rw [if_pos hl4] at HR
      rw [decide_eq_true hl4]
      obtain rfl := HR.out
      clear hl4
      go_wp2
      go_end0
      exact ⟨rfl, _, _, _, HC.out⟩
    rw [if_neg hl4] at HR
    rw [decide_eq_false hl4]
    clear hl4
    rw [needF, ht4] at HR
    try dsimp only at HR
    by_cases hl5 : ¬ sg t4 = [44]
    · rw [if_neg hl5] at HR
      go_wp2_with fail
      refine Calls.mono (need_miss HC.out.pv t4 ht4 [44] hl5) ?_
      rintro e wb hp
      have HF := hid' (FaultP.of_below hp HC.out.st.below)
      obtain ⟨gb, rfl, _⟩ := hp
      obtain rfl : R.bad false t4.pos = r := HR.out
      go_wp2
      exact ⟨rfl, HF.out⟩
    rw [Decidable.not_not] at hl5
    rw [if_pos hl5] at HR
    go_wp2_with fail
    refine Calls.mono (need_hit HC.out.pv t4 ht4 [44] hl5) ?_
    rintro e w5 ⟨rfl, hp5, hst5⟩
    have h5 := HC.out.step hp5 (hst5.step w4.heap.size vl3 vs3)
    replace HC := hid' h5
    clear h5 hp5 hst5 hl5
    go_wp2
    go_roundg (j + 1)
    case measure => omega
    case rel => exact ⟨_, _, _, _, _, by omega, by omega, HC, HR⟩
end Go.Proofs.YtpjjofdphlgeiaaGreatDoor

namespace Go.Proofs.YtpjjofdphlgeiaaGreatDoor
open Go.RowKit
open Lx Ax Px

set_option maxRecDepth 10000 in
set_option maxHeartbeats 6400000 in
theorem dict_step {A : Nat → Addr} {B pb : Nat} {ts : List Tok} {tv : Value} {m : Nat} (H : ∀ j, j ≤ m → All A B pb ts tv j) : Does A B pb ts tv 176 #[ptr pb] .dict (m + 1) := by
  intro W s vl vs r h hr hnr
  have HR := hid' hr
  have HP := hid' h
  have HS := hid' (Step.refl W.heap.size B pb W vl vs)
  have HLO := hid' h.lowB
  clear hr h
  rw [runF] at HR
  unfold bodyF at HR
  dsimp only at HR
  have hnot : ∀ (x : Bool) (w : World), (Op.unary .not (.bool x)).run Tryz.prog w = .ok (.bool (!x)) w := fun _ _ => rfl
  have hfk := tok_kind
  have hfp := tok_pos
  unfold ptr
  go_enter Tryz.func176, Tryz.ntmps176
  have hmf : ∀ (fn : Fn) (first cap : Array Value) (w : World), (Instr.makeFunc fn first cap).run Tryz.prog w = .ok (.func fn first cap) w := fun _ _ _ _ => rfl
  go_wp2_with fail
  have hp := HP.out.alloc (.cells #[.pointer (some ⟨pb, 0, none⟩)] 45)
  replace HS := hid' (HS.out.alloc (.cells #[.pointer (some ⟨pb, 0, none⟩)] 45) HLO.out)
  have BX := hid' (row_new W 45 [.pointer (some ⟨pb, 0, none⟩)])
  generalize hw0 : W.alloc (.cells #[.pointer (some ⟨pb, 0, none⟩)] 45) = w0 at hp HS
  have HW0 := hid' hw0
  clear hw0
  replace BX : Hid (RowV w0 W.heap.size 45 [.pointer (some ⟨pb, 0, none⟩)]) := hid' (by rw [← HW0.out]; exact BX.out)
  clear HW0
  replace HP := hid' hp
  clear hp
  rw [enterF, needF] at HR
  generalize ht1 : ts[PS.at_ s]? = o1 at HR
  rcases o1 with _ | t1
  · exact absurd HR.out.symm hnr
  try dsimp only at HR
  by_cases hl2 : ¬ sg t1 = [123]
  · rw [if_neg hl2] at HR
    go_wp2_with fail
    · refine Calls.mono (enter_miss HP.out t1 ht1 [123] hl2) ?_
      rintro e wb hp
      have HF := hid' (FaultP.of_below hp HS.out.below)
      obtain ⟨gb, rfl, _⟩ := hp
      obtain rfl : R.bad false t1.pos = r := HR.out
      go_wp2
      exact ⟨rfl, HF.out⟩
  rw [Decidable.not_not] at hl2
  rw [if_pos hl2] at HR
  try dsimp only at HR
  by_cases hd4 : PS.deep s = 60
  · rw [if_pos hd4] at HR
    go_wp2_with fail
    · refine Calls.mono (enter_deep HP.out t1 ht1 [123] hl2 hd4) ?_
      rintro e wb hp
      have HF := hid' (FaultP.of_below hp HS.out.below)
      obtain ⟨gb, rfl, _⟩ := hp
      obtain rfl : R.bad true t1.pos = r := HR.out
      go_wp2
      exact ⟨rfl, HF.out⟩
  rw [if_neg hd4] at HR
  go_wp2_with fail
  refine Calls.mono (enter_hit HP.out t1 ht1 [123] hl2 hd4) ?_
  rintro e w6 ⟨rfl, hp, hst⟩
  have hs := hst.step w0.heap.size vl vs
  clear hst
  replace BX := hid' (BX.out.stepR (by decide) (by decide) HP.out hs)
  replace HS := hid' (HS.out.then (Nat.le_refl _) hs)
  replace HP := hid' hp
  clear hp hs
  generalize (PS.mk (PS.at_ s + 1) (PS.nodes s) (PS.deep s + 1)) = s6 at HP HR
  have hWw := HS.out.below.size
  have kr1 := row_new w6 30 [.slice none 0 0]
  have hCK : CK A B pb w6.heap.size W.heap.size ts tv W vl vs (w6.alloc (.cells #[.slice none 0 0] 30)) s6 vl vs (.slice none 0 0) [] :=
    ⟨HP.out.alloc _, HS.out.alloc _ HLO.out, kr1, row_alloc BX.out _, OwnZ.nil _ _, off_nil _ 0 0, fun _ e => by simp [Value.ownBlock] at e, ⟨hWw, HLO.out⟩⟩
  have bx0 := BX.out.cell (j := 0) rfl
  have bxl := BX.out.lt
  have HC := hid' hCK
  clear hCK kr1 HP HS BX
  have bx4 := HC.out.pr.cell (j := 0) rfl
  go_wp2_with fail
  clear bx0 bxl bx4
  generalize hq7 : runF ts m (.pairs []) s6 = r7 at HR
  rcases r7 with _ | ⟨l7, p7⟩ | ⟨z7, y7, c7, s7⟩
  · exact absurd HR.out.symm hnr
  · refine Calls.mono (items_dict H HC.out (by simp) _ hq7 (by simp)) ?_
    rintro e wb hp
    have HF := hid' hp
    obtain ⟨gb, rfl, _⟩ := hp
    obtain rfl : R.bad l7 p7 = r := HR.out
    go_wp2
    exact ⟨rfl, HF.out⟩
  refine Calls.mono (items_dict H HC.out (by simp) _ hq7 (by simp)) ?_
  rintro e w7 ⟨rfl, vl7, vs7, v7, h7⟩
  replace HC := hid' h7
  try dsimp only [R.bind] at HR
  clear h7 hq7
  obtain ⟨av, cv, rfl, _⟩ := own_form HC.out.oz
  have px0 := HC.out.pr.cell (j := 0) rfl
  have pxl := HC.out.pr.lt
  rw [shutF, needF] at HR
  generalize htz : ts[PS.at_ s7]? = oz at HR
  rcases oz with _ | tz
  · exact absurd HR.out.symm hnr
  try dsimp only at HR
  by_cases hlz : ¬ sg tz = [125]
  · rw [if_neg hlz] at HR
    go_wp2_with fail
    refine Calls.mono (shut_miss HC.out.pv tz htz [125] hlz) ?_
    rintro e wb hp
    have HF := hid' (FaultP.of_below hp HC.out.st.below)
    obtain ⟨gb, rfl, _⟩ := hp
    obtain rfl : R.bad false tz.pos = r := HR.out
    go_wp2
    exact ⟨rfl, HF.out⟩
  rw [Decidable.not_not] at hlz
  rw [if_pos hlz, leaveF] at HR
  try dsimp only at HR
  by_cases hdz : PS.deep s7 = 0
  · rw [if_pos hdz] at HR
    exact absurd HR.out.symm hnr
  rw [if_neg hdz] at HR
  go_wp2_with fail
  clear px0 pxl
  refine Calls.mono (shut_hit HC.out.pv tz htz [125] hlz hdz) ?_
  rintro e wz ⟨rfl, hpz, hstz⟩
  have hz := HC.out.step hpz (hstz.step w7.heap.size vl7 vs7)
  replace HC := hid' hz
  clear hz hpz hstz hlz hdz htz
  have px0 := HC.out.pr.cell (j := 0) rfl
  have pxl := HC.out.pr.lt
  have kx0 := HC.out.kr.cell (j := 0) rfl
  have kxl := HC.out.kr.lt
  generalize (PS.mk (PS.at_ s7 + 1) (PS.nodes s7) (PS.deep s7 - 1)) = sz at HC HR
  rw [addF] at HR
  by_cases hn : ¬ ((PS.nodes sz).length < 900000 ∧ (List.length (y7 : List Int)) < 900000)
  · rw [if_neg hn] at HR
    exact absurd HR.out.symm hnr
  rw [Decidable.not_not] at hn
  rw [if_pos hn] at HR
  go_wp2_with fail
  clear px0 pxl kx0 kxl
  refine Calls.mono (p_add_any HC.out.pv 9 _ ⟨#[]⟩ (by decide) _ y7 HC.out.oz HC.out.off hn.1 hn.2 (n := W.heap.size) HC.out.new) ?_
  rintro e we ⟨rfl, vle, vse, hp, hs⟩
  have HS9 := hid' (HC.out.st.trans hs)
  have HP9 := hid' hp
  clear hp hs
  obtain rfl := HR.out
  go_wp2
  go_returns
  exact ⟨_, _, rfl, HP9.out, HS9.out⟩
end Go.Proofs.YtpjjofdphlgeiaaGreatDoor

namespace Go.Proofs.YtpjjofdphlgeiaaGreatDoor
open Go.RowKit
open Lx Ax Px

theorem own_apart_tok {W : World} {B b0 : Nat} {v : Value} {zs : List Int} {cs : List Value} (h : OwnZ W B v zs) (hb : RowV W b0 71 cs) : v.ownBlock ≠ some b0 := fun e => ne_kind h hb (by decide) b0 e rfl

set_option maxRecDepth 10000 in
set_option maxHeartbeats 6400000 in
theorem loaded_step {A : Nat → Addr} {B pb : Nat} {ts : List Tok} {tv : Value} {m : Nat} (hts : ∀ t ∈ ts, (txt t.text).size ≤ 1000000)  : Does A B pb ts tv 127 #[ptr pb] .loaded (m + 1) := by
  intro W s vl vs r h hr hnr
  have HR := hid' hr
  have HP := hid' h
  have HS := hid' (Step.refl W.heap.size B pb W vl vs)
  have HLO := hid' h.lowB
  clear hr h
  rw [runF] at HR
  unfold bodyF at HR
  dsimp only at HR
  have hnot : ∀ (x : Bool) (w : World), (Op.unary .not (.bool x)).run Tryz.prog w = .ok (.bool (!x)) w := fun _ _ => rfl
  have hfk := tok_kind
  have hfp := tok_pos
  have HTS := hid' hts
  clear hts
  unfold ptr
  go_enter Tryz.func127, Tryz.ntmps127
  generalize ht1 : ts[PS.at_ s]? = o1 at HR
  rcases o1 with _ | t1
  · exact absurd HR.out.symm hnr
  try dsimp only at HR
  go_wp2_with fail
  refine Calls.mono (p_token_any HP.out t1 ht1) ?_
  rintro e w2 ⟨rfl, b⟩
  have hp := HP.out.low b
  have hs := Step.low (n := W.heap.size) HP.out b
  clear b
  replace HS := hid' (HS.out.then (Nat.le_refl _) hs)
  replace HP := hid' hp
  clear hp hs
  have BX := hid' (row_new w2 71 [.int .i64 (t1.kind : Int), .string (txt t1.text), .int .i64 (t1.pos : Int)])
  replace HS := hid' (HS.out.alloc (.cells #[.int .i64 (t1.kind : Int), .string (txt t1.text), .int .i64 (t1.pos : Int)] 71) HLO.out)
  replace HP := hid' (HP.out.alloc (.cells #[.int .i64 (t1.kind : Int), .string (txt t1.text), .int .i64 (t1.pos : Int)] 71))
  by_cases h3 : t1.kind = 3
  · rw [if_pos h3] at HR
    have q3 : ((t1.kind : Int) == 3) = true := by rw [h3]; rfl
    clear h3
    have bx0 := BX.out.cell (j := 0) rfl
    have bx1 := BX.out.cell (j := 1) rfl
    have bxl := BX.out.lt
    go_wp2_with fail
    refine Calls.mono (lexName_any (txt t1.text) (HTS.out _ (List.mem_of_getElem? ht1)) _ HP.out.env.words.1) ?_
    rintro e wn ⟨rfl, hwn⟩
    rw [hwn]
    clear hwn wn
    rw [data_txt]
    rw [allowF, ht1] at HR
    try dsimp only at HR
    cases hb : nameB t1.text with
    | false =>
      rw [hb, if_neg (by simp)] at HR
      clear hb bx0 bx1 bxl
      go_wp2_with fail
      · refine Calls.mono (allow_false HP.out t1 ht1) ?_
        rintro e wb hp
        have HF := hid' (FaultP.of_below hp HS.out.below)
        obtain ⟨gb, rfl, _⟩ := hp
        obtain rfl : R.bad false t1.pos = r := HR.out
        go_wp2
        exact ⟨rfl, HF.out⟩
    | true =>
      rw [hb, if_pos rfl] at HR
      clear hb bx0 bx1 bxl
      go_wp2_with fail
      refine Calls.mono (allow_true _ _) ?_
      rintro e wo ⟨rfl, hwo⟩
      rw [hwo]
      clear hwo wo
      rw [thereF] at HR
      rw [takeKF] at HR
      generalize ht4 : ts[PS.at_ s]? = o4 at HR
      rcases o4 with _ | t4
      · exact absurd HR.out.symm hnr
      try dsimp only at HR
      by_cases hl5 : ¬ t4.kind = 3
      · rw [if_neg hl5] at HR
        go_wp2_with fail
        · refine Calls.mono (take_miss HP.out t4 ht4 3 hl5) ?_
          rintro e wb hp
          have HF := hid' (FaultP.of_below hp HS.out.below)
          obtain ⟨gb, rfl, _⟩ := hp
          obtain rfl : R.bad false t4.pos = r := HR.out
          go_wp2
          exact ⟨rfl, HF.out⟩
      rw [Decidable.not_not] at hl5
      rw [if_pos hl5] at HR
      go_wp2_with fail
      refine Calls.mono (take_hit HP.out t4 ht4 3 hl5) ?_
      rintro e w7 ⟨rfl, hp, hst⟩
      have hs := hst.step (w2.alloc (.cells #[.int .i64 (t1.kind : Int), .string (txt t1.text), .int .i64 (t1.pos : Int)] 71)).heap.size vl vs
      clear hst
      replace BX := hid' (BX.out.stepR (by decide) (by decide) HP.out hs)
      replace HS := hid' (HS.out.then (Nat.le_refl _) hs)
      replace HP := hid' hp
      clear hp hs
      generalize (PS.mk (PS.at_ s + 1) (PS.nodes s) (PS.deep s)) = s7 at HP HR
      clear hl5
      have BY := hid' (row_new w7 71 [.int .i64 (t4.kind : Int), .string (txt t4.text), .int .i64 (t4.pos : Int)])
      replace BX := hid' (row_alloc BX.out (.cells #[.int .i64 (t4.kind : Int), .string (txt t4.text), .int .i64 (t4.pos : Int)] 71))
      replace HS := hid' (HS.out.alloc (.cells #[.int .i64 (t4.kind : Int), .string (txt t4.text), .int .i64 (t4.pos : Int)] 71) HLO.out)
      replace HP := hid' (HP.out.alloc (.cells #[.int .i64 (t4.kind : Int), .string (txt t4.text), .int .i64 (t4.pos : Int)] 71))
      have by1 := BY.out.cell (j := 1) rfl
      have by2 := BY.out.cell (j := 2) rfl
      have byl := BY.out.lt
      rw [addF] at HR
      by_cases hn8 : ¬ ((PS.nodes s7).length < 900000 ∧ (List.length ([] : List Int)) < 900000)
      · rw [if_neg hn8] at HR
        exact absurd HR.out.symm hnr
      rw [Decidable.not_not] at hn8
      rw [if_pos hn8] at HR
      go_wp2_with fail
      clear by1 by2 byl BY
      refine Calls.mono (add_none HP.out 5 _ (txt t4.text) (HTS.out _ (List.mem_of_getElem? ht4)) hn8.1) ?_
      rintro e w8 ⟨rfl, vl8, vs8, hp, hs⟩
      replace BX := hid' (BX.out.stepR (by decide) (by decide) HP.out hs)
      replace HS := hid' (HS.out.then (Nat.le_refl _) hs)
      replace HP := hid' hp
      clear hp hs
      generalize hzz : ((PS.nodes s7).length : Int) = zp at HR ⊢
      clear hzz
      generalize hs8 : (PS.mk (PS.at_ s7) (PS.nodes s7 ++ [⟨5, 0, _, txt t4.text, []⟩]) (PS.deep s7)) = s8 at HP HR
      clear hs8
      try dsimp only at HR
      have bx1 := BX.out.cell (j := 1) rfl
      have bx2 := BX.out.cell (j := 2) rfl
      have bxl := BX.out.lt
      rw [addF] at HR
      by_cases hn9 : ¬ ((PS.nodes s8).length < 900000 ∧ (List.length ([zp] : List Int)) < 900000)
      · rw [if_neg hn9] at HR
        exact absurd HR.out.symm hnr
      rw [Decidable.not_not] at hn9
      rw [if_pos hn9] at HR
      go_wp2_with fail
      clear bx1 bx2 bxl BX
      refine Calls.mono (add_lit HP.out 46 _ (txt t1.text) (HTS.out _ (List.mem_of_getElem? ht1)) [zp] (by simp) _ rfl _ rfl hn9.1) ?_
      rintro e w9 ⟨rfl, vl9, vs9, hp, hs⟩
      replace HS := hid' (HS.out.then (Nat.le_refl _) hs)
      replace HP := hid' hp
      clear hp hs
      obtain rfl := HR.out
      go_wp2
      go_returns
      exact ⟨_, _, rfl, HP.out, HS.out⟩
  rw [if_neg h3] at HR
  have q3 : ((t1.kind : Int) == 3) = false := by simp; omega
  clear h3
  have bx0 := BX.out.cell (j := 0) rfl
  have bxl := BX.out.lt
  rw [takeKF, ht1] at HR
  try dsimp only at HR
  by_cases hl10 : ¬ t1.kind = 1
  · rw [if_neg hl10] at HR
    go_wp2_with fail
    clear bx0 bxl
    · refine Calls.mono (take_miss HP.out t1 ht1 1 hl10) ?_
      rintro e wb hp
      have HF := hid' (FaultP.of_below hp HS.out.below)
      obtain ⟨gb, rfl, _⟩ := hp
      obtain rfl : R.bad false t1.pos = r := HR.out
      go_wp2
      exact ⟨rfl, HF.out⟩
  rw [Decidable.not_not] at hl10
  rw [if_pos hl10] at HR
  have HL := hid' hl10
  clear hl10
  go_wp2_with fail
  clear bx0 bxl
  refine Calls.mono (take_hit HP.out t1 ht1 1 HL.out) ?_
  rintro e w12 ⟨rfl, hp, hst⟩
  have hs := hst.step (w2.alloc (.cells #[.int .i64 (t1.kind : Int), .string (txt t1.text), .int .i64 (t1.pos : Int)] 71)).heap.size vl vs
  clear hst
  replace BX := hid' (BX.out.stepR (by decide) (by decide) HP.out hs)
  replace HS := hid' (HS.out.then (Nat.le_refl _) hs)
  replace HP := hid' hp
  clear hp hs
  generalize (PS.mk (PS.at_ s + 1) (PS.nodes s) (PS.deep s)) = s12 at HP HR
  rw [needF] at HR
  generalize ht13 : ts[PS.at_ s12]? = o13 at HR
  rcases o13 with _ | t13
  · exact absurd HR.out.symm hnr
  try dsimp only at HR
  by_cases hl14 : ¬ sg t13 = [61]
  · rw [if_neg hl14] at HR
    go_wp2_with fail
    · refine Calls.mono (need_miss HP.out t13 ht13 [61] hl14) ?_
      rintro e wb hp
      have HF := hid' (FaultP.of_below hp HS.out.below)
      obtain ⟨gb, rfl, _⟩ := hp
      obtain rfl : R.bad false t13.pos = r := HR.out
      go_wp2
      exact ⟨rfl, HF.out⟩
  rw [Decidable.not_not] at hl14
  rw [if_pos hl14] at HR
  go_wp2_with fail
  refine Calls.mono (need_hit HP.out t13 ht13 [61] hl14) ?_
  rintro e w16 ⟨rfl, hp, hst⟩
  have hs := hst.step w12.heap.size vl vs
  clear hst
  replace BX := hid' (BX.out.stepR (by decide) (by decide) HP.out hs)
  replace HS := hid' (HS.out.then (Nat.le_refl _) hs)
  replace HP := hid' hp
  clear hp hs
  generalize (PS.mk (PS.at_ s12 + 1) (PS.nodes s12) (PS.deep s12)) = s16 at HP HR
  rw [thereF] at HR
  rw [takeKF] at HR
  generalize ht17 : ts[PS.at_ s16]? = o17 at HR
  rcases o17 with _ | t17
  · exact absurd HR.out.symm hnr
  try dsimp only at HR
  by_cases hl18 : ¬ t17.kind = 3
  · rw [if_neg hl18] at HR
    go_wp2_with fail
    · refine Calls.mono (take_miss HP.out t17 ht17 3 hl18) ?_
      rintro e wb hp
      have HF := hid' (FaultP.of_below hp HS.out.below)
      obtain ⟨gb, rfl, _⟩ := hp
      obtain rfl : R.bad false t17.pos = r := HR.out
      go_wp2
      exact ⟨rfl, HF.out⟩
  rw [Decidable.not_not] at hl18
  rw [if_pos hl18] at HR
  go_wp2_with fail
  refine Calls.mono (take_hit HP.out t17 ht17 3 hl18) ?_
  rintro e w20 ⟨rfl, hp, hst⟩
  have hs := hst.step w16.heap.size vl vs
  clear hst
  replace BX := hid' (BX.out.stepR (by decide) (by decide) HP.out hs)
  replace HS := hid' (HS.out.then (Nat.le_refl _) hs)
  replace HP := hid' hp
  clear hp hs
  generalize (PS.mk (PS.at_ s16 + 1) (PS.nodes s16) (PS.deep s16)) = s20 at HP HR
  clear hl18
  have BY := hid' (row_new w20 71 [.int .i64 (t17.kind : Int), .string (txt t17.text), .int .i64 (t17.pos : Int)])
  replace BX := hid' (row_alloc BX.out (.cells #[.int .i64 (t17.kind : Int), .string (txt t17.text), .int .i64 (t17.pos : Int)] 71))
  replace HS := hid' (HS.out.alloc (.cells #[.int .i64 (t17.kind : Int), .string (txt t17.text), .int .i64 (t17.pos : Int)] 71) HLO.out)
  replace HP := hid' (HP.out.alloc (.cells #[.int .i64 (t17.kind : Int), .string (txt t17.text), .int .i64 (t17.pos : Int)] 71))
  have by1 := BY.out.cell (j := 1) rfl
  have by2 := BY.out.cell (j := 2) rfl
  have byl := BY.out.lt
  rw [addF] at HR
  by_cases hn21 : ¬ ((PS.nodes s20).length < 900000 ∧ (List.length ([] : List Int)) < 900000)
  · rw [if_neg hn21] at HR
    exact absurd HR.out.symm hnr
  rw [Decidable.not_not] at hn21
  rw [if_pos hn21] at HR
  go_wp2_with fail
  clear by1 by2 byl BY
  refine Calls.mono (add_none HP.out 5 _ (txt t17.text) (HTS.out _ (List.mem_of_getElem? ht17)) hn21.1) ?_
  rintro e w21 ⟨rfl, vl21, vs21, hp, hs⟩
  replace BX := hid' (BX.out.stepR (by decide) (by decide) HP.out hs)
  replace HS := hid' (HS.out.then (Nat.le_refl _) hs)
  replace HP := hid' hp
  clear hp hs
  generalize hzz : ((PS.nodes s20).length : Int) = zp at HR ⊢
  clear hzz
  generalize hs21 : (PS.mk (PS.at_ s20) (PS.nodes s20 ++ [⟨5, 0, _, txt t17.text, []⟩]) (PS.deep s20)) = s21 at HP HR
  clear hs21
  try dsimp only at HR
  have bx1 := BX.out.cell (j := 1) rfl
  have bx2 := BX.out.cell (j := 2) rfl
  have bxl := BX.out.lt
  rw [addF] at HR
  by_cases hn22 : ¬ ((PS.nodes s21).length < 900000 ∧ (List.length ([zp] : List Int)) < 900000)
  · rw [if_neg hn22] at HR
    exact absurd HR.out.symm hnr
  rw [Decidable.not_not] at hn22
  rw [if_pos hn22] at HR
  go_wp2_with fail
  clear bx1 bx2 bxl BX
  refine Calls.mono (add_lit HP.out 46 _ (txt t1.text) (HTS.out _ (List.mem_of_getElem? ht1)) [zp] (by simp) _ rfl _ rfl hn22.1) ?_
  rintro e w22 ⟨rfl, vl22, vs22, hp, hs⟩
  replace HS := hid' (HS.out.then (Nat.le_refl _) hs)
  replace HP := hid' hp
  clear hp hs
  obtain rfl := HR.out
  go_wp2
  go_returns
  exact ⟨_, _, rfl, HP.out, HS.out⟩

set_option maxRecDepth 10000 in
set_option maxHeartbeats 12800000 in
theorem load_step {A : Nat → Addr} {B pb : Nat} {ts : List Tok} {tv : Value} {m : Nat} (hts : ∀ t ∈ ts, (txt t.text).size ≤ 1000000) (H : ∀ j, j ≤ m → All A B pb ts tv j) : Does A B pb ts tv 110 #[ptr pb] .load (m + 1) := by
  intro W s vl vs r h hr hnr
  have HR := hid' hr
  have HP := hid' h
  have HS := hid' (Step.refl W.heap.size B pb W vl vs)
  have HLO := hid' h.lowB
  clear hr h
  rw [runF] at HR
  unfold bodyF at HR
  dsimp only at HR
  have hnot : ∀ (x : Bool) (w : World), (Op.unary .not (.bool x)).run Tryz.prog w = .ok (.bool (!x)) w := fun _ _ => rfl
  have hfk := tok_kind
  have hfp := tok_pos
  have HTS := hid' hts
  clear hts
  unfold ptr
  go_enter Tryz.func110, Tryz.ntmps110
  have hmf : ∀ (fn : Fn) (first cap : Array Value) (w : World), (Instr.makeFunc fn first cap).run Tryz.prog w = .ok (.func fn first cap) w := fun _ _ _ _ => rfl
  rw [needF] at HR
  generalize ht1 : ts[PS.at_ s]? = o1 at HR
  rcases o1 with _ | t1
  · exact absurd HR.out.symm hnr
  try dsimp only at HR
  by_cases hl2 : ¬ sg t1 = [108, 111, 97, 100]
  · rw [if_neg hl2] at HR
    go_wp2_with fail
    · refine Calls.mono (need_miss HP.out t1 ht1 [108, 111, 97, 100] hl2) ?_
      rintro e wb hp
      have HF := hid' (FaultP.of_below hp HS.out.below)
      obtain ⟨gb, rfl, _⟩ := hp
      obtain rfl : R.bad false t1.pos = r := HR.out
      go_wp2
      exact ⟨rfl, HF.out⟩
  rw [Decidable.not_not] at hl2
  rw [if_pos hl2] at HR
  go_wp2_with fail
  refine Calls.mono (need_hit HP.out t1 ht1 [108, 111, 97, 100] hl2) ?_
  rintro e w4 ⟨rfl, hp, hst⟩
  have hs := hst.step W.heap.size vl vs
  clear hst
  replace HS := hid' (HS.out.then (Nat.le_refl _) hs)
  replace HP := hid' hp
  clear hp hs
  generalize (PS.mk (PS.at_ s + 1) (PS.nodes s) (PS.deep s)) = s4 at HP HR
  rw [needF] at HR
  generalize ht5 : ts[PS.at_ s4]? = o5 at HR
  rcases o5 with _ | t5
  · exact absurd HR.out.symm hnr
  try dsimp only at HR
  by_cases hl6 : ¬ sg t5 = [40]
  · rw [if_neg hl6] at HR
    go_wp2_with fail
    · refine Calls.mono (need_miss HP.out t5 ht5 [40] hl6) ?_
      rintro e wb hp
      have HF := hid' (FaultP.of_below hp HS.out.below)
      obtain ⟨gb, rfl, _⟩ := hp
      obtain rfl : R.bad false t5.pos = r := HR.out
      go_wp2
      exact ⟨rfl, HF.out⟩
  rw [Decidable.not_not] at hl6
  rw [if_pos hl6] at HR
  go_wp2_with fail
  refine Calls.mono (need_hit HP.out t5 ht5 [40] hl6) ?_
  rintro e w8 ⟨rfl, hp, hst⟩
  have hs := hst.step w4.heap.size vl vs
  clear hst
  replace HS := hid' (HS.out.then (Nat.le_refl _) hs)
  replace HP := hid' hp
  clear hp hs
  generalize (PS.mk (PS.at_ s4 + 1) (PS.nodes s4) (PS.deep s4)) = s8 at HP HR
  rw [takeKF] at HR
  generalize ht9 : ts[PS.at_ s8]? = o9 at HR
  rcases o9 with _ | t9
  · exact absurd HR.out.symm hnr
  try dsimp only at HR
  by_cases hl10 : ¬ t9.kind = 3
  · rw [if_neg hl10] at HR
    go_wp2_with fail
    · refine Calls.mono (take_miss HP.out t9 ht9 3 hl10) ?_
      rintro e wb hp
      have HF := hid' (FaultP.of_below hp HS.out.below)
      obtain ⟨gb, rfl, _⟩ := hp
      obtain rfl : R.bad false t9.pos = r := HR.out
      go_wp2
      exact ⟨rfl, HF.out⟩
  rw [Decidable.not_not] at hl10
  rw [if_pos hl10] at HR
  go_wp2_with fail
  refine Calls.mono (take_hit HP.out t9 ht9 3 hl10) ?_
  rintro e w12 ⟨rfl, hp, hst⟩
  have hs := hst.step w8.heap.size vl vs
  clear hst
  replace HS := hid' (HS.out.then (Nat.le_refl _) hs)
  replace HP := hid' hp
  clear hp hs
  generalize (PS.mk (PS.at_ s8 + 1) (PS.nodes s8) (PS.deep s8)) = s12 at HP HR
  clear hl10
  have BX := hid' (row_new w12 71 [.int .i64 (t9.kind : Int), .string (txt t9.text), .int .i64 (t9.pos : Int)])
  have HTX := hid' (HTS.out _ (List.mem_of_getElem? ht9))
  generalize t9.text = tx at BX HR HTX
  replace HS := hid' (HS.out.alloc (.cells #[.int .i64 (t9.kind : Int), .string (txt tx), .int .i64 (t9.pos : Int)] 71) HLO.out)
  replace HP := hid' (HP.out.alloc (.cells #[.int .i64 (t9.kind : Int), .string (txt tx), .int .i64 (t9.pos : Int)] 71))
  rw [needF] at HR
  generalize ht13 : ts[PS.at_ s12]? = o13 at HR
  rcases o13 with _ | t13
  · exact absurd HR.out.symm hnr
  try dsimp only at HR
  by_cases hl14 : ¬ sg t13 = [44]
  · rw [if_neg hl14] at HR
    go_wp2_with fail
    · refine Calls.mono (need_miss HP.out t13 ht13 [44] hl14) ?_
      rintro e wb hp
      have HF := hid' (FaultP.of_below hp HS.out.below)
      obtain ⟨gb, rfl, _⟩ := hp
      obtain rfl : R.bad false t13.pos = r := HR.out
      go_wp2
      exact ⟨rfl, HF.out⟩
  rw [Decidable.not_not] at hl14
  rw [if_pos hl14] at HR
  go_wp2_with fail
  refine Calls.mono (need_hit HP.out t13 ht13 [44] hl14) ?_
  rintro e w16 ⟨rfl, hp, hst⟩
  have hs := hst.step (w12.alloc (.cells #[.int .i64 (t9.kind : Int), .string (txt tx), .int .i64 (t9.pos : Int)] 71)).heap.size vl vs
  clear hst
  replace BX := hid' (BX.out.stepR (by decide) (by decide) HP.out hs)
  replace HS := hid' (HS.out.then (Nat.le_refl _) hs)
  replace HP := hid' hp
  clear hp hs
  generalize (PS.mk (PS.at_ s12 + 1) (PS.nodes s12) (PS.deep s12)) = s16 at HP HR
  go_wp2_with fail
  generalize hq17 : runF ts m .loaded s16 = r17 at HR
  rcases r17 with _ | ⟨l17, p17⟩ | ⟨z17, y17, c17, s17⟩
  · exact absurd HR.out.symm hnr
  · refine Calls.mono ((H m (Nat.le_refl _)).loaded _ _ _ _ _ HP.out hq17 (by simp)) ?_
    rintro e wb hp
    have HF := hid' (FaultP.of_below hp HS.out.below)
    obtain ⟨gb, rfl, _⟩ := hp
    obtain rfl : R.bad l17 p17 = r := HR.out
    go_wp2
    exact ⟨rfl, HF.out⟩
  refine Calls.mono ((H m (Nat.le_refl _)).loaded _ _ _ _ _ HP.out hq17 (by simp)) ?_
  rintro e w17 ⟨vl17, vs17, rfl, hp, hs⟩
  have hle17 := HS.out.below.size
  replace BX := hid' (BX.out.stepR (by decide) (by decide) HP.out hs)
  replace HS := hid' (HS.out.then (Nat.le_refl _) hs)
  replace HP := hid' hp
  clear hp hs
  dsimp only [R.bind] at HR
  clear hq17
  replace BX := hid' (row_alloc BX.out (.cells #[.int .i64 z17] 3))
  have hol := own_new w17 B HP.out.lowB [z17] (by simp) #[.int .i64 z17] rfl 1 rfl
  have hle := HS.out.below.size
  have HV := hid' (fun k hk => Nat.le_trans hle (hol.2 k hk) : ∀ k, _ → W.heap.size ≤ k)
  have HOFF := hid' (Off.new HP.out hol.2)
  have HOZ := hid' hol.1
  clear hol hle
  replace HS := hid' (HS.out.alloc (.cells #[.int .i64 z17] 3) HLO.out)
  replace HP := hid' (HP.out.alloc (.cells #[.int .i64 z17] 3))
  go_wp2_with fail
  go_loopg [5] m (fun gk u5 wr => ∃ (v : Value) (zs : List Int) (sr : PS) (vlr : Value) (vsr : List Value), gk ≤ m ∧ u5 = v ∧ zs.length < 900001 ∧ Hid (PV A B pb ts tv wr sr vlr vsr) ∧ Hid (Step W.heap.size B pb W vl vs wr vlr vsr) ∧ Hid (OwnZ wr B v zs) ∧ Hid (Off v vsr) ∧ Hid (∀ k, v.ownBlock = some k → W.heap.size ≤ k) ∧ Hid (RowV wr w12.heap.size 71 [.int .i64 (t9.kind : Int), .string (txt tx), .int .i64 (t9.pos : Int)]) ∧ Hid (R.bind (runF ts gk (.loadLoop zs) sr) (fun _ zs _ s => needF ts [41] s fun _ s => addF 42 (t1.pos : Int) (txt tx) zs s Px.one) = r))
  case atStart => exact ⟨_, [z17], s17, vl17, vs17, Nat.le_refl _, rfl, by simp, HP, HS, HOZ, HOFF, HV, BX, HR⟩
  case round =>
    obtain ⟨v, zs, sr, vlr, vsr, hgk, rfl, hzl, HPr, HSr, HOZr, HOFFr, HVr, BXr, HRr⟩ := hrel
    clear HP HS HR HOZ HOFF HV BX
    have HP := HPr
    have HS := HSr
    have HR := HRr
    have HOZ := HOZr
    have HOFF := HOFFr
    have HV := HVr
    have BX := BXr
    clear HPr HSr HRr HOZr HOFFr HVr BXr
    rcases gk with _ | j
    · exact absurd HR.out.symm hnr
    rw [runF] at HR
    unfold bodyF at HR
    try dsimp only at HR
    rw [Px.signF] at HR
    generalize ht19 : ts[PS.at_ sr]? = o19 at HR
    rcases o19 with _ | t19
    · exact absurd HR.out.symm hnr
    try dsimp only at HR
    have HSK := hid' (skip_any HP.out t19 ht19 [44])
    by_cases hl : ¬ sg t19 = [44]
    · rw [if_neg hl] at HR
      rw [decide_eq_false hl, if_neg hl] at HSK
      go_wp2_with fail
      refine Calls.mono (HSK.out) ?_
      rintro e w20 ⟨rfl, hp, hst⟩
      have hs := hst.step wr.heap.size vlr vsr
      clear hst
      replace BX := hid' (BX.out.stepR (by decide) (by decide) HP.out hs)
      have hoz := HOZ.out.step HP.out hs
      replace HOFF := hid' (HOFF.out.step hs (fun k hk => (World.ownsRow.lt HOZ.out k hk).2))
      replace HOZ := hid' hoz
      clear hoz
      replace HS := hid' (HS.out.then (Nat.le_refl _) hs)
      replace HP := hid' hp
      clear hp hs
      try dsimp only [R.bind] at HR
      rw [needF] at HR
      generalize ht21 : ts[PS.at_ sr]? = o21 at HR
      rcases o21 with _ | t21
      · exact absurd HR.out.symm hnr
      try dsimp only at HR
      by_cases hl22 : ¬ sg t21 = [41]
      · rw [if_neg hl22] at HR
        go_wp2_with fail
        · refine Calls.mono (need_miss HP.out t21 ht21 [41] hl22) ?_
          rintro e wb hp
          have HF := hid' (FaultP.of_below hp HS.out.below)
          obtain ⟨gb, rfl, _⟩ := hp
          obtain rfl : R.bad false t21.pos = r := HR.out
          go_wp2
          exact ⟨rfl, HF.out⟩
      rw [Decidable.not_not] at hl22
      rw [if_pos hl22] at HR
      go_wp2_with fail
      refine Calls.mono (need_hit HP.out t21 ht21 [41] hl22) ?_
      rintro e w24 ⟨rfl, hp, hst⟩
      have hs := hst.step w20.heap.size vlr vsr
      clear hst
      replace BX := hid' (BX.out.stepR (by decide) (by decide) HP.out hs)
      have hoz := HOZ.out.step HP.out hs
      replace HOFF := hid' (HOFF.out.step hs (fun k hk => (World.ownsRow.lt HOZ.out k hk).2))
      replace HOZ := hid' hoz
      clear hoz
      replace HS := hid' (HS.out.then (Nat.le_refl _) hs)
      replace HP := hid' hp
      clear hp hs
      generalize (PS.mk (PS.at_ sr + 1) (PS.nodes sr) (PS.deep sr)) = s24 at HP HR
      obtain ⟨av, cv, rfl, _⟩ := own_form HOZ.out
      have bx1 := BX.out.cell (j := 1) rfl
      have bxl := BX.out.lt
      rw [addF] at HR
      by_cases hn25 : ¬ ((PS.nodes s24).length < 900000 ∧ (List.length (zs : List Int)) < 900000)
      · rw [if_neg hn25] at HR
        exact absurd HR.out.symm hnr
      rw [Decidable.not_not] at hn25
      rw [if_pos hn25] at HR
      go_wp2_with fail
      clear bx1 bxl BX
      refine Calls.mono (p_add_any HP.out 42 _ (txt tx) HTX.out _ zs HOZ.out HOFF.out hn25.1 hn25.2 (n := W.heap.size) HV.out) ?_
      rintro e w25 ⟨rfl, vl25, vs25, hp, hs⟩
      replace HS := hid' (HS.out.trans hs)
      replace HP := hid' hp
      clear hp hs
      obtain rfl := HR.out
      go_wp2
      go_returns
      exact ⟨_, _, rfl, HP.out, HS.out⟩
    rw [Decidable.not_not] at hl
    rw [if_pos hl] at HR
    rw [decide_eq_true hl, if_pos hl] at HSK
    go_wp2_with fail
    refine Calls.mono (HSK.out) ?_
    rintro e w26 ⟨rfl, hp, hst⟩
    have hs := hst.step wr.heap.size vlr vsr
    clear hst
    replace BX := hid' (BX.out.stepR (by decide) (by decide) HP.out hs)
    have hoz := HOZ.out.step HP.out hs
    replace HOFF := hid' (HOFF.out.step hs (fun k hk => (World.ownsRow.lt HOZ.out k hk).2))
    replace HOZ := hid' hoz
    clear hoz
    replace HS := hid' (HS.out.then (Nat.le_refl _) hs)
    replace HP := hid' hp
    clear hp hs
    generalize (PS.mk (PS.at_ sr + 1) (PS.nodes sr) (PS.deep sr)) = s26 at HP HR
    rw [Px.signF] at HR
    generalize ht27 : ts[PS.at_ s26]? = o27 at HR
    rcases o27 with _ | t27
    · exact absurd HR.out.symm hnr
    try dsimp only at HR
    go_wp2_with fail
    refine Calls.mono (sees_any HP.out t27 ht27 [41]) ?_
    rintro e w28 ⟨rfl, b⟩
    have hp := HP.out.low b
    have hs := Step.low (n := w26.heap.size) HP.out b
    clear b
    replace BX := hid' (BX.out.stepR (by decide) (by decide) HP.out hs)
    have hoz := HOZ.out.step HP.out hs
    replace HOFF := hid' (HOFF.out.step hs (fun k hk => (World.ownsRow.lt HOZ.out k hk).2))
    replace HOZ := hid' hoz
    clear hoz
    replace HS := hid' (HS.out.then (Nat.le_refl _) hs)
    replace HP := hid' hp
    clear hp hs
    by_cases h2 : sg t27 = [41]
    · rw [if_pos h2] at HR
      rw [decide_eq_true h2]
      try dsimp only [R.bind] at HR
      rw [needF] at HR
      generalize ht29 : ts[PS.at_ s26]? = o29 at HR
      rcases o29 with _ | t29
      · exact absurd HR.out.symm hnr
      try dsimp only at HR
      by_cases hl30 : ¬ sg t29 = [41]
      · rw [if_neg hl30] at HR
        go_wp2_with fail
        · refine Calls.mono (need_miss HP.out t29 ht29 [41] hl30) ?_
          rintro e wb hp
          have HF := hid' (FaultP.of_below hp HS.out.below)
          obtain ⟨gb, rfl, _⟩ := hp
          obtain rfl : R.bad false t29.pos = r := HR.out
          go_wp2
          exact ⟨rfl, HF.out⟩
      rw [Decidable.not_not] at hl30
      rw [if_pos hl30] at HR
      go_wp2_with fail
      refine Calls.mono (need_hit HP.out t29 ht29 [41] hl30) ?_
      rintro e w32 ⟨rfl, hp, hst⟩
      have hs := hst.step w28.heap.size vlr vsr
      clear hst
      replace BX := hid' (BX.out.stepR (by decide) (by decide) HP.out hs)
      have hoz := HOZ.out.step HP.out hs
      replace HOFF := hid' (HOFF.out.step hs (fun k hk => (World.ownsRow.lt HOZ.out k hk).2))
      replace HOZ := hid' hoz
      clear hoz
      replace HS := hid' (HS.out.then (Nat.le_refl _) hs)
      replace HP := hid' hp
      clear hp hs
      generalize (PS.mk (PS.at_ s26 + 1) (PS.nodes s26) (PS.deep s26)) = s32 at HP HR
      obtain ⟨av, cv, rfl, _⟩ := own_form HOZ.out
      have bx1 := BX.out.cell (j := 1) rfl
      have bxl := BX.out.lt
      rw [addF] at HR
      by_cases hn33 : ¬ ((PS.nodes s32).length < 900000 ∧ (List.length (zs : List Int)) < 900000)
      · rw [if_neg hn33] at HR
        exact absurd HR.out.symm hnr
      rw [Decidable.not_not] at hn33
      rw [if_pos hn33] at HR
      go_wp2_with fail
      clear bx1 bxl BX
      refine Calls.mono (p_add_any HP.out 42 _ (txt tx) HTX.out _ zs HOZ.out HOFF.out hn33.1 hn33.2 (n := W.heap.size) HV.out) ?_
      rintro e w33 ⟨rfl, vl33, vs33, hp, hs⟩
      replace HS := hid' (HS.out.trans hs)
      replace HP := hid' hp
      clear hp hs
      obtain rfl := HR.out
      go_wp2
      go_returns
      exact ⟨_, _, rfl, HP.out, HS.out⟩
    rw [if_neg h2] at HR
    rw [decide_eq_false h2]
    go_wp2_with fail
    generalize hq34 : runF ts j .loaded s26 = r34 at HR
    rcases r34 with _ | ⟨l34, p34⟩ | ⟨z34, y34, c34, s34⟩
    · exact absurd HR.out.symm hnr
    · refine Calls.mono ((H j (by omega)).loaded _ _ _ _ _ HP.out hq34 (by simp)) ?_
      rintro e wb hp
      have HF := hid' (FaultP.of_below hp HS.out.below)
      obtain ⟨gb, rfl, _⟩ := hp
      obtain rfl : R.bad l34 p34 = r := HR.out
      go_wp2
      exact ⟨rfl, HF.out⟩
    refine Calls.mono ((H j (by omega)).loaded _ _ _ _ _ HP.out hq34 (by simp)) ?_
    rintro e w34 ⟨vl34, vs34, rfl, hp, hs⟩
    replace BX := hid' (BX.out.stepR (by decide) (by decide) HP.out hs)
    have hoz := HOZ.out.step HP.out hs
    replace HOFF := hid' (HOFF.out.step hs (fun k hk => (World.ownsRow.lt HOZ.out k hk).2))
    replace HOZ := hid' hoz
    clear hoz
    replace HS := hid' (HS.out.then (Nat.le_refl _) hs)
    replace HP := hid' hp
    clear hp hs
    rw [R.bind] at HR
    try dsimp only at HR
    clear hq34
    by_cases hzz : ¬ zs.length < 900000
    · rw [if_neg hzz] at HR
      exact absurd HR.out.symm hnr
    rw [Decidable.not_not] at hzz
    rw [if_pos hzz] at HR
    have HOZB := hid' (own_apart_tok HOZ.out BX.out)
    go_wp2_with (at_builtin; refine num_plain HOZ.out z34 (zs.length + 1) rfl HP.out.lowB (by omega) rfl (.tmp 24) (.tmp 27) (by rfl) (by rfl) (by rfl) ?_; intro g5 cap5 w5 q1 q2 q3 q4 q5; have HQ := hid' (row_push (m := (zs.length + 1)) HP.out HS.out HOZ.out HOFF.out HV.out q2 q3 g5 cap5 q4); have HZ5 := hid' q1; have BX5 := hid' (RowV.far BX.out (q3 _ BX.out.lt HOZB.out)); clear q1 q2 q3 q4 q5)
    go_wp2
    go_roundg j
    case measure => omega
    case rel => exact ⟨_, zs ++ [z34], s34, vl34, vs34, by omega, rfl, by rw [List.length_append, List.length_singleton]; omega, HQ.out.1, HQ.out.2.1, HZ5, HQ.out.2.2.1, HQ.out.2.2.2, BX5, HR⟩
end Go.Proofs.YtpjjofdphlgeiaaGreatDoor
