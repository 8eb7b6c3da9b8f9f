/- Parts of the proof, together. What or, and, sum, product of the parser answers. Conditions: as told of less fuel. What compare of the parser answers. Conditions: as told of less fuel. What begins of the parser answers. Conditions: as told of less fuel. What primary of the parser answers. Conditions: as told of less fuel. What leaf, word of the parser answers. Conditions: as told of less fuel. What atom of the parser answers. Conditions: as told of less fuel. -/
import Derived.Test.YtaafhldcdkbnkaaGreatDoorQdbi
namespace Go.Proofs.YtaafhldcdkbnkaaGreatDoor
open Go.RowKit
open Lx Ax Px

set_option maxRecDepth 10000 in
set_option maxHeartbeats 1600000 in
theorem or_step {A : Nat → Addr} {B pb : Nat} {ts : List Tok} {tv : Value} {m : Nat} (H : ∀ j, j ≤ m → All A B pb ts tv j) : Does A B pb ts tv 100 #[ptr pb] (.bin 0) (m + 1) := by
  intro W s vl vs r h hr hnr
  have HR := hid' hr
  have HP := hid' h
  have HS := hid' (Step.refl W.heap.size B pb W vl vs)
  have HLO := hid' h.lowB
  clear hr h
  have hmf : ∀ (fn : Fn) (first cap : Array Value) (w : World), (Instr.makeFunc fn first cap).run Tryz.prog w = .ok (.func fn first cap) w := fun _ _ _ _ => rfl
  unfold ptr
  go_enter Tryz.func100, Tryz.ntmps100
  go_wp2_with fail
  refine Calls.mono (binary_step 0 124 123 (fun _ _ => rfl) (fun _ _ => rfl) orOp_any (fun j hj => (H j hj).and) _ _ _ _ _ HP.out HR.out hnr) ?_
  rintro e we hp
  clear HR
  rcases r with _ | ⟨lr, pr⟩ | ⟨zr, yr, cr, sr⟩
  · exact hp.elim
  · have HF := hid' (FaultP.of_below hp HS.out.below)
    obtain ⟨gb, rfl, _⟩ := hp
    go_wp2
    exact ⟨rfl, HF.out⟩
  obtain ⟨vle, vse, rfl, hp, hs⟩ := hp
  have HQ := hid' (HS.out.then (Nat.le_refl _) hs)
  have HP2 := hid' hp
  clear hp hs
  go_wp2
  go_returns
  exact ⟨_, _, rfl, HP2.out, HQ.out⟩

set_option maxRecDepth 10000 in
set_option maxHeartbeats 1600000 in
theorem and_step {A : Nat → Addr} {B pb : Nat} {ts : List Tok} {tv : Value} {m : Nat} (H : ∀ j, j ≤ m → All A B pb ts tv j) : Does A B pb ts tv 123 #[ptr pb] (.bin 1) (m + 1) := by
  intro W s vl vs r h hr hnr
  have HR := hid' hr
  have HP := hid' h
  have HS := hid' (Step.refl W.heap.size B pb W vl vs)
  have HLO := hid' h.lowB
  clear hr h
  have hmf : ∀ (fn : Fn) (first cap : Array Value) (w : World), (Instr.makeFunc fn first cap).run Tryz.prog w = .ok (.func fn first cap) w := fun _ _ _ _ => rfl
  unfold ptr
  go_enter Tryz.func123, Tryz.ntmps123
  go_wp2_with fail
  refine Calls.mono (binary_step 1 146 145 (fun _ _ => rfl) (fun _ _ => rfl) andOp_any (fun j hj => (H j hj).not) _ _ _ _ _ HP.out HR.out hnr) ?_
  rintro e we hp
  clear HR
  rcases r with _ | ⟨lr, pr⟩ | ⟨zr, yr, cr, sr⟩
  · exact hp.elim
  · have HF := hid' (FaultP.of_below hp HS.out.below)
    obtain ⟨gb, rfl, _⟩ := hp
    go_wp2
    exact ⟨rfl, HF.out⟩
  obtain ⟨vle, vse, rfl, hp, hs⟩ := hp
  have HQ := hid' (HS.out.then (Nat.le_refl _) hs)
  have HP2 := hid' hp
  clear hp hs
  go_wp2
  go_returns
  exact ⟨_, _, rfl, HP2.out, HQ.out⟩

set_option maxRecDepth 10000 in
set_option maxHeartbeats 1600000 in
theorem sum_step {A : Nat → Addr} {B pb : Nat} {ts : List Tok} {tv : Value} {m : Nat} (H : ∀ j, j ≤ m → All A B pb ts tv j) : Does A B pb ts tv 170 #[ptr pb] (.bin 2) (m + 1) := by
  intro W s vl vs r h hr hnr
  have HR := hid' hr
  have HP := hid' h
  have HS := hid' (Step.refl W.heap.size B pb W vl vs)
  have HLO := hid' h.lowB
  clear hr h
  have hmf : ∀ (fn : Fn) (first cap : Array Value) (w : World), (Instr.makeFunc fn first cap).run Tryz.prog w = .ok (.func fn first cap) w := fun _ _ _ _ => rfl
  unfold ptr
  go_enter Tryz.func170, Tryz.ntmps170
  go_wp2_with fail
  refine Calls.mono (binary_step 2 183 182 (fun _ _ => rfl) (fun _ _ => rfl) sumOp_any (fun j hj => (H j hj).product) _ _ _ _ _ HP.out HR.out hnr) ?_
  rintro e we hp
  clear HR
  rcases r with _ | ⟨lr, pr⟩ | ⟨zr, yr, cr, sr⟩
  · exact hp.elim
  · have HF := hid' (FaultP.of_below hp HS.out.below)
    obtain ⟨gb, rfl, _⟩ := hp
    go_wp2
    exact ⟨rfl, HF.out⟩
  obtain ⟨vle, vse, rfl, hp, hs⟩ := hp
  have HQ := hid' (HS.out.then (Nat.le_refl _) hs)
  have HP2 := hid' hp
  clear hp hs
  go_wp2
  go_returns
  exact ⟨_, _, rfl, HP2.out, HQ.out⟩

set_option maxRecDepth 10000 in
set_option maxHeartbeats 1600000 in
theorem product_step {A : Nat → Addr} {B pb : Nat} {ts : List Tok} {tv : Value} {m : Nat} (H : ∀ j, j ≤ m → All A B pb ts tv j) : Does A B pb ts tv 182 #[ptr pb] (.bin 3) (m + 1) := by
  intro W s vl vs r h hr hnr
  have HR := hid' hr
  have HP := hid' h
  have HS := hid' (Step.refl W.heap.size B pb W vl vs)
  have HLO := hid' h.lowB
  clear hr h
  have hmf : ∀ (fn : Fn) (first cap : Array Value) (w : World), (Instr.makeFunc fn first cap).run Tryz.prog w = .ok (.func fn first cap) w := fun _ _ _ _ => rfl
  unfold ptr
  go_enter Tryz.func182, Tryz.ntmps182
  go_wp2_with fail
  refine Calls.mono (binary_step 3 190 189 (fun _ _ => rfl) (fun _ _ => rfl) mulOp_any (fun j hj => (H j hj).unary) _ _ _ _ _ HP.out HR.out hnr) ?_
  rintro e we hp
  clear HR
  rcases r with _ | ⟨lr, pr⟩ | ⟨zr, yr, cr, sr⟩
  · exact hp.elim
  · have HF := hid' (FaultP.of_below hp HS.out.below)
    obtain ⟨gb, rfl, _⟩ := hp
    go_wp2
    exact ⟨rfl, HF.out⟩
  obtain ⟨vle, vse, rfl, hp, hs⟩ := hp
  have HQ := hid' (HS.out.then (Nat.le_refl _) hs)
  have HP2 := hid' hp
  clear hp hs
  go_wp2
  go_returns
  exact ⟨_, _, rfl, HP2.out, HQ.out⟩
end Go.Proofs.YtaafhldcdkbnkaaGreatDoor

namespace Go.Proofs.YtaafhldcdkbnkaaGreatDoor
open Go.RowKit
open Lx Ax Px

set_option maxRecDepth 10000 in
set_option maxHeartbeats 6400000 in
theorem compare_step {A : Nat → Addr} {B pb : Nat} {ts : List Tok} {tv : Value} {m : Nat} (H : All A B pb ts tv m) : Does A B pb ts tv 159 #[ptr pb] .compare (m + 1) := by
  intro W s vl vs r h hr hnr
  have HR := hid' hr
  have HP := hid' h
  have HS := hid' (Step.refl W.heap.size B pb W vl vs)
  have HLO := hid' h.lowB
  clear hr h
  rw [runF] at HR
  unfold bodyF at HR
  dsimp only at HR
  have hnot : ∀ (x : Bool) (w : World), (Op.unary .not (.bool x)).run Tryz.prog w = .ok (.bool (!x)) w := fun _ _ => rfl
  have hfk := tok_kind
  have hfp := tok_pos
  unfold ptr
  go_enter Tryz.func159, Tryz.ntmps159
  go_wp2_with fail
  generalize hq1 : runF ts m (.bin 2) s = r1 at HR
  rcases r1 with _ | ⟨l1, p1⟩ | ⟨z1, y1, c1, s1⟩
  · exact absurd HR.out.symm hnr
  · refine Calls.mono (H.sum _ _ _ _ _ HP.out hq1 (by simp)) ?_
    rintro e wb hp
    have HF := hid' (FaultP.of_below hp HS.out.below)
    obtain ⟨gb, rfl, _⟩ := hp
    obtain rfl : R.bad l1 p1 = r := HR.out
    go_wp2
    exact ⟨rfl, HF.out⟩
  refine Calls.mono (H.sum _ _ _ _ _ HP.out hq1 (by simp)) ?_
  rintro e w1 ⟨vl1, vs1, rfl, hp, hs⟩
  have hle1 := HS.out.below.size
  replace HS := hid' (HS.out.then (Nat.le_refl _) hs)
  replace HP := hid' hp
  clear hp hs
  dsimp only [R.bind] at HR
  clear hq1
  rw [Px.signF] at HR
  generalize ht3 : ts[PS.at_ s1]? = o3 at HR
  rcases o3 with _ | t3
  · exact absurd HR.out.symm hnr
  try dsimp only at HR
  go_wp2_with fail
  refine Calls.mono (p_sign_any HP.out t3 ht3) ?_
  rintro e w4 ⟨rfl, b⟩
  have hp := HP.out.low b
  have hs := Step.low (n := w1.heap.size) HP.out b
  clear b
  replace HS := hid' (HS.out.then (Nat.le_refl _) hs)
  replace HP := hid' hp
  clear hp hs
  go_wp2_with fail
  refine Calls.mono (cmpOp_any (sg t3) _) ?_
  rintro e wo ⟨rfl, hwo⟩
  rw [hwo]
  clear hwo wo
  by_cases hz : cmpOp (sg t3) = 0
  · rw [if_pos hz] at HR
    rw [hz]
    obtain rfl := HR.out
    go_wp2
    go_returns
    exact ⟨_, _, rfl, HP.out, HS.out⟩
  rw [if_neg hz] at HR
  generalize cmpOp (sg t3) = op at HR hz
  have hzz : (op == 0) = false := by simpa using hz
  clear hz
  rw [nextF] at HR
  rw [ht3] at HR
  try dsimp only at HR
  go_wp2_with fail
  refine Calls.mono (next_any HP.out t3 ht3) ?_
  rintro e w5 ⟨rfl, hp, hst⟩
  have hs := hst.step w4.heap.size vl1 vs1
  clear hst
  replace HS := hid' (HS.out.then (Nat.le_refl _) hs)
  replace HP := hid' hp
  clear hp hs
  generalize (PS.mk (PS.at_ s1 + 1) (PS.nodes s1) (PS.deep s1)) = s5 at HP HR
  by_cases hop : op = 33
  · rw [if_pos hop] at HR
    subst hop
    clear hzz
    rw [needF] at HR
    generalize ht6 : ts[PS.at_ s5]? = o6 at HR
    rcases o6 with _ | t6
    · exact absurd HR.out.symm hnr
    try dsimp only at HR
    by_cases hl7 : ¬ sg t6 = sIn
    · rw [if_neg hl7] at HR
      go_wp2_with fail
      · refine Calls.mono (need_miss HP.out t6 ht6 sIn hl7) ?_
        rintro e wb hp
        have HF := hid' (FaultP.of_below hp HS.out.below)
        obtain ⟨gb, rfl, _⟩ := hp
        obtain rfl : R.bad false t6.pos = r := HR.out
        go_wp2
        exact ⟨rfl, HF.out⟩
    rw [Decidable.not_not] at hl7
    rw [if_pos hl7] at HR
    go_wp2_with fail
    refine Calls.mono (need_hit HP.out t6 ht6 sIn hl7) ?_
    rintro e w9 ⟨rfl, hp, hst⟩
    have hs := hst.step w5.heap.size vl1 vs1
    clear hst
    replace HS := hid' (HS.out.then (Nat.le_refl _) hs)
    replace HP := hid' hp
    clear hp hs
    generalize (PS.mk (PS.at_ s5 + 1) (PS.nodes s5) (PS.deep s5)) = s9 at HP HR
    go_wp2_with fail
    generalize hq10 : runF ts m (.bin 2) s9 = r10 at HR
    rcases r10 with _ | ⟨l10, p10⟩ | ⟨z10, y10, c10, s10⟩
    · exact absurd HR.out.symm hnr
    · refine Calls.mono (H.sum _ _ _ _ _ HP.out hq10 (by simp)) ?_
      rintro e wb hp
      have HF := hid' (FaultP.of_below hp HS.out.below)
      obtain ⟨gb, rfl, _⟩ := hp
      obtain rfl : R.bad l10 p10 = r := HR.out
      go_wp2
      exact ⟨rfl, HF.out⟩
    refine Calls.mono (H.sum _ _ _ _ _ HP.out hq10 (by simp)) ?_
    rintro e w10 ⟨vl10, vs10, rfl, hp, hs⟩
    have hle10 := HS.out.below.size
    replace HS := hid' (HS.out.then (Nat.le_refl _) hs)
    replace HP := hid' hp
    clear hp hs
    dsimp only [R.bind] at HR
    clear hq10
    rw [addF] at HR
    by_cases hn12 : ¬ ((PS.nodes s10).length < 900000 ∧ (List.length ([z1, z10] : List Int)) < 900000)
    · rw [if_neg hn12] at HR
      exact absurd HR.out.symm hnr
    rw [Decidable.not_not] at hn12
    rw [if_pos hn12] at HR
    go_wp2_with fail
    refine Calls.mono (add_lit HP.out 33 _ ⟨#[]⟩ (by decide) [z1, z10] (by simp) _ rfl _ rfl hn12.1) ?_
    rintro e w12 ⟨rfl, vl12, vs12, hp, hs⟩
    replace HS := hid' (HS.out.then (Nat.le_refl _) hs)
    replace HP := hid' hp
    clear hp hs
    generalize hs12 : (PS.mk (PS.at_ s10) (PS.nodes s10 ++ [⟨33, 0, _, ⟨#[]⟩, [z1, z10]⟩]) (PS.deep s10)) = s12 at HP HR
    clear hs12
    obtain rfl := HR.out
    go_wp2
    go_returns
    exact ⟨_, _, rfl, HP.out, HS.out⟩
  rw [if_neg hop] at HR
  have hop2 : (op == 33) = false := by simpa using hop
  clear hop
  go_wp2_with fail
  generalize hq13 : runF ts m (.bin 2) s5 = r13 at HR
  rcases r13 with _ | ⟨l13, p13⟩ | ⟨z13, y13, c13, s13⟩
  · exact absurd HR.out.symm hnr
  · refine Calls.mono (H.sum _ _ _ _ _ HP.out hq13 (by simp)) ?_
    rintro e wb hp
    have HF := hid' (FaultP.of_below hp HS.out.below)
    obtain ⟨gb, rfl, _⟩ := hp
    obtain rfl : R.bad l13 p13 = r := HR.out
    go_wp2
    exact ⟨rfl, HF.out⟩
  refine Calls.mono (H.sum _ _ _ _ _ HP.out hq13 (by simp)) ?_
  rintro e w13 ⟨vl13, vs13, rfl, hp, hs⟩
  have hle13 := HS.out.below.size
  replace HS := hid' (HS.out.then (Nat.le_refl _) hs)
  replace HP := hid' hp
  clear hp hs
  dsimp only [R.bind] at HR
  clear hq13
  rw [addF] at HR
  by_cases hn15 : ¬ ((PS.nodes s13).length < 900000 ∧ (List.length ([z1, z13] : List Int)) < 900000)
  · rw [if_neg hn15] at HR
    exact absurd HR.out.symm hnr
  rw [Decidable.not_not] at hn15
  rw [if_pos hn15] at HR
  go_wp2_with fail
  refine Calls.mono (add_lit HP.out op _ ⟨#[]⟩ (by decide) [z1, z13] (by simp) _ rfl _ rfl hn15.1) ?_
  rintro e w15 ⟨rfl, vl15, vs15, hp, hs⟩
  replace HS := hid' (HS.out.then (Nat.le_refl _) hs)
  replace HP := hid' hp
  clear hp hs
  generalize hs15 : (PS.mk (PS.at_ s13) (PS.nodes s13 ++ [⟨op, 0, _, ⟨#[]⟩, [z1, z13]⟩]) (PS.deep s13)) = s15 at HP HR
  clear hs15
  obtain rfl := HR.out
  go_wp2
  go_returns
  exact ⟨_, _, rfl, HP.out, HS.out⟩
end Go.Proofs.YtaafhldcdkbnkaaGreatDoor

namespace Go.Proofs.YtaafhldcdkbnkaaGreatDoor
open Go.RowKit
open Lx Ax Px

set_option maxRecDepth 10000 in
set_option maxHeartbeats 6400000 in
theorem begins_any {A : Nat → Addr} {B pb : Nat} {ts : List Tok} {tv : Value} {W : World} {s : PS} {vl : Value} {vs : List Value} (h : PV A B pb ts tv W s vl vs) (t : Tok) (ht : ts[s.at_]? = some t) :
    Calls Tryz.prog 92 #[.pointer (some ⟨pb, 0, none⟩)] W fun e w' => e = .returned (.bool (begins (sg t) t.kind)) ∧ Below W.heap.size W w' := by
  have HT := hid' (p_token_any h t ht)
  have HX := fun W' (hb : Below W.heap.size W W') => hid' (p_sign_any (h.low hb) t ht)
  have hfk := tok_kind
  clear h ht
  by_cases k1 : t.kind = 1
  · have hz : begins (sg t) t.kind = true := by unfold begins; simp [k1]
    rw [hz]
    rw [k1] at HT
    clear hz
    go_enter Tryz.func92, Tryz.ntmps92
    go_wp2_with fail
    refine Calls.mono HT.out ?_
    rintro e w2 ⟨rfl, b2⟩
    go_wp2
    go_returns
    exact ⟨rfl, b2⟩
  have q1 : ((t.kind : Int) == 1) = false := by simp; omega
  by_cases k2 : t.kind = 2
  · have hz : begins (sg t) t.kind = true := by unfold begins; simp [k2]
    rw [hz]
    rw [k2] at HT
    clear hz
    go_enter Tryz.func92, Tryz.ntmps92
    go_wp2_with fail
    refine Calls.mono HT.out ?_
    rintro e w2 ⟨rfl, b2⟩
    go_wp2
    go_returns
    exact ⟨rfl, b2⟩
  have q2 : ((t.kind : Int) == 2) = false := by simp; omega
  by_cases k3 : t.kind = 3
  · have hz : begins (sg t) t.kind = true := by unfold begins; simp [k3]
    rw [hz]
    rw [k3] at HT
    clear hz
    go_enter Tryz.func92, Tryz.ntmps92
    go_wp2_with fail
    refine Calls.mono HT.out ?_
    rintro e w2 ⟨rfl, b2⟩
    go_wp2
    go_returns
    exact ⟨rfl, b2⟩
  have q3 : ((t.kind : Int) == 3) = false := by simp; omega
  generalize hl : sg t = l at HX
  have f0 := str_is l sNot
  have f1 := str_is l [45]
  have f2 := str_is l sNone
  have f3 := str_is l sTrue
  have f4 := str_is l sFalse
  have f5 := str_is l [40]
  have f6 := str_is l [91]
  have f7 := str_is l [123]
  unfold sNot at f0
  unfold sNone at f2
  unfold sTrue at f3
  unfold sFalse at f4
  by_cases h0 : l = [110, 111, 116]
  · rw [decide_eq_true h0] at f0
    have hz : begins l t.kind = true := by unfold begins sNot sNone sTrue sFalse; simp [h0]
    rw [hz]
    clear hz hl h0 f1 f2 f3 f4 f5 f6 f7
    go_enter Tryz.func92, Tryz.ntmps92
    go_wp2_with fail
    refine Calls.mono HT.out ?_
    rintro e w2 ⟨rfl, b2⟩
    go_wp2_with fail
    refine Calls.mono (HX _ b2).out ?_
    rintro e w3 ⟨rfl, b3⟩
    have b2 := Below.thenB b2 b3
    go_wp2
    go_returns
    exact ⟨rfl, b2⟩
  rw [decide_eq_false h0] at f0
  by_cases h1 : l = [45]
  · rw [decide_eq_true h1] at f1
    have hz : begins l t.kind = true := by unfold begins sNot sNone sTrue sFalse; simp [h1]
    rw [hz]
    clear hz hl h0 h1 f2 f3 f4 f5 f6 f7
    go_enter Tryz.func92, Tryz.ntmps92
    go_wp2_with fail
    refine Calls.mono HT.out ?_
    rintro e w2 ⟨rfl, b2⟩
    go_wp2_with fail
    refine Calls.mono (HX _ b2).out ?_
    rintro e w3 ⟨rfl, b3⟩
    have b2 := Below.thenB b2 b3
    go_wp2
    go_returns
    exact ⟨rfl, b2⟩
  rw [decide_eq_false h1] at f1
  by_cases h2 : l = [78, 111, 110, 101]
  · rw [decide_eq_true h2] at f2
    have hz : begins l t.kind = true := by unfold begins sNot sNone sTrue sFalse; simp [h2]
    rw [hz]
    clear hz hl h0 h1 h2 f3 f4 f5 f6 f7
    go_enter Tryz.func92, Tryz.ntmps92
    go_wp2_with fail
    refine Calls.mono HT.out ?_
    rintro e w2 ⟨rfl, b2⟩
    go_wp2_with fail
    refine Calls.mono (HX _ b2).out ?_
    rintro e w3 ⟨rfl, b3⟩
    have b2 := Below.thenB b2 b3
    go_wp2
    go_returns
    exact ⟨rfl, b2⟩
  rw [decide_eq_false h2] at f2
  by_cases h3 : l = [84, 114, 117, 101]
  · rw [decide_eq_true h3] at f3
    have hz : begins l t.kind = true := by unfold begins sNot sNone sTrue sFalse; simp [h3]
    rw [hz]
    clear hz hl h0 h1 h2 h3 f4 f5 f6 f7
    go_enter Tryz.func92, Tryz.ntmps92
    go_wp2_with fail
    refine Calls.mono HT.out ?_
    rintro e w2 ⟨rfl, b2⟩
    go_wp2_with fail
    refine Calls.mono (HX _ b2).out ?_
    rintro e w3 ⟨rfl, b3⟩
    have b2 := Below.thenB b2 b3
    go_wp2
    go_returns
    exact ⟨rfl, b2⟩
  rw [decide_eq_false h3] at f3
  by_cases h4 : l = [70, 97, 108, 115, 101]
  · rw [decide_eq_true h4] at f4
    have hz : begins l t.kind = true := by unfold begins sNot sNone sTrue sFalse; simp [h4]
    rw [hz]
    clear hz hl h0 h1 h2 h3 h4 f5 f6 f7
    go_enter Tryz.func92, Tryz.ntmps92
    go_wp2_with fail
    refine Calls.mono HT.out ?_
    rintro e w2 ⟨rfl, b2⟩
    go_wp2_with fail
    refine Calls.mono (HX _ b2).out ?_
    rintro e w3 ⟨rfl, b3⟩
    have b2 := Below.thenB b2 b3
    go_wp2
    go_returns
    exact ⟨rfl, b2⟩
  rw [decide_eq_false h4] at f4
  by_cases h5 : l = [40]
  · rw [decide_eq_true h5] at f5
    have hz : begins l t.kind = true := by unfold begins sNot sNone sTrue sFalse; simp [h5]
    rw [hz]
    clear hz hl h0 h1 h2 h3 h4 h5 f6 f7
    go_enter Tryz.func92, Tryz.ntmps92
    go_wp2_with fail
    refine Calls.mono HT.out ?_
    rintro e w2 ⟨rfl, b2⟩
    go_wp2_with fail
    refine Calls.mono (HX _ b2).out ?_
    rintro e w3 ⟨rfl, b3⟩
    have b2 := Below.thenB b2 b3
    go_wp2
    go_returns
    exact ⟨rfl, b2⟩
  rw [decide_eq_false h5] at f5
  by_cases h6 : l = [91]
  · rw [decide_eq_true h6] at f6
    have hz : begins l t.kind = true := by unfold begins sNot sNone sTrue sFalse; simp [h6]
    rw [hz]
    clear hz hl h0 h1 h2 h3 h4 h5 h6 f7
    go_enter Tryz.func92, Tryz.ntmps92
    go_wp2_with fail
    refine Calls.mono HT.out ?_
    rintro e w2 ⟨rfl, b2⟩
    go_wp2_with fail
    refine Calls.mono (HX _ b2).out ?_
    rintro e w3 ⟨rfl, b3⟩
    have b2 := Below.thenB b2 b3
    go_wp2
    go_returns
    exact ⟨rfl, b2⟩
  rw [decide_eq_false h6] at f6
  by_cases h7 : l = [123]
  · rw [decide_eq_true h7] at f7
    have hz : begins l t.kind = true := by unfold begins sNot sNone sTrue sFalse; simp [h7]
    rw [hz]
    clear hz hl h0 h1 h2 h3 h4 h5 h6 h7 
    go_enter Tryz.func92, Tryz.ntmps92
    go_wp2_with fail
    refine Calls.mono HT.out ?_
    rintro e w2 ⟨rfl, b2⟩
    go_wp2_with fail
    refine Calls.mono (HX _ b2).out ?_
    rintro e w3 ⟨rfl, b3⟩
    have b2 := Below.thenB b2 b3
    go_wp2
    go_returns
    exact ⟨rfl, b2⟩
  rw [decide_eq_false h7] at f7
  have hz : begins l t.kind = false := by unfold begins sNot sNone sTrue sFalse; simp [k1, k2, k3, h0, h1, h2, h3, h4, h5, h6, h7]
  rw [hz]
  clear hz hl h0 h1 h2 h3 h4 h5 h6 h7
  go_enter Tryz.func92, Tryz.ntmps92
  go_wp2_with fail
  refine Calls.mono HT.out ?_
  rintro e w2 ⟨rfl, b2⟩
  go_wp2_with fail
  refine Calls.mono (HX _ b2).out ?_
  rintro e w3 ⟨rfl, b3⟩
  have b2 := Below.thenB b2 b3
  go_wp2
  go_returns
  exact ⟨rfl, b2⟩
end Go.Proofs.YtaafhldcdkbnkaaGreatDoor

namespace Go.Proofs.YtaafhldcdkbnkaaGreatDoor
open Go.RowKit
open Lx Ax Px

set_option maxRecDepth 10000 in
set_option maxHeartbeats 3200000 in
theorem primary_step {A : Nat → Addr} {B pb : Nat} {ts : List Tok} {tv : Value} {m : Nat} (H : ∀ j, j ≤ m → All A B pb ts tv j) : Does A B pb ts tv 148 #[ptr pb] .primary (m + 1) := by
  intro W s vl vs r h hr hnr
  have HR := hid' hr
  have HP := hid' h
  have HS := hid' (Step.refl W.heap.size B pb W vl vs)
  have HLO := hid' h.lowB
  clear hr h
  rw [runF] at HR
  unfold bodyF at HR
  dsimp only at HR
  have hnot : ∀ (x : Bool) (w : World), (Op.unary .not (.bool x)).run Tryz.prog w = .ok (.bool (!x)) w := fun _ _ => rfl
  have hfk := tok_kind
  have hfp := tok_pos
  unfold ptr
  go_enter Tryz.func148, Tryz.ntmps148
  go_wp2_with fail
  generalize hq1 : runF ts m .atom s = r1 at HR
  rcases r1 with _ | ⟨l1, p1⟩ | ⟨z1, y1, c1, s1⟩
  · exact absurd HR.out.symm hnr
  · refine Calls.mono ((H m (Nat.le_refl _)).atom _ _ _ _ _ HP.out hq1 (by simp)) ?_
    rintro e wb hp
    have HF := hid' (FaultP.of_below hp HS.out.below)
    obtain ⟨gb, rfl, _⟩ := hp
    obtain rfl : R.bad l1 p1 = r := HR.out
    go_wp2
    exact ⟨rfl, HF.out⟩
  refine Calls.mono ((H m (Nat.le_refl _)).atom _ _ _ _ _ HP.out hq1 (by simp)) ?_
  rintro e w1 ⟨vl1, vs1, rfl, hp, hs⟩
  have hle1 := HS.out.below.size
  replace HS := hid' (HS.out.then (Nat.le_refl _) hs)
  replace HP := hid' hp
  clear hp hs
  dsimp only [R.bind] at HR
  clear hq1
  go_wp2_with fail
  go_loopg [3] m (fun gk u3 wr => ∃ z sr vlr vsr, gk ≤ m ∧ u3 = .int .i64 z ∧ Hid (PV A B pb ts tv wr sr vlr vsr) ∧ Hid (Step W.heap.size B pb W vl vs wr vlr vsr) ∧ Hid (runF ts gk (.primLoop z) sr = r))
  case atStart => exact ⟨z1, s1, vl1, vs1, Nat.le_refl _, rfl, HP, HS, HR⟩
  case round =>
    obtain ⟨z, sr, vlr, vsr, hgk, rfl, HPr, HSr, HRr⟩ := hrel
    clear HP HS HR
    have HP := HPr
    have HS := HSr
    have HR := HRr
    clear HPr HSr HRr
    rcases gk with _ | j
    · exact absurd HR.out.symm hnr
    rw [runF] at HR
    unfold bodyF at HR
    try dsimp only at HR
    rw [Px.signF] at HR
    generalize ht3 : ts[PS.at_ sr]? = o3 at HR
    rcases o3 with _ | t3
    · exact absurd HR.out.symm hnr
    try dsimp only at HR
    have f0 := str_is (sg t3) [46]
    have f1 := str_is (sg t3) [40]
    have f2 := str_is (sg t3) [91]
    go_wp2_with fail
    refine Calls.mono (p_sign_any HP.out t3 ht3) ?_
    rintro e w4 ⟨rfl, b⟩
    have hp := HP.out.low b
    have hs := Step.low (n := wr.heap.size) HP.out b
    clear b
    replace HS := hid' (HS.out.then (Nat.le_refl _) hs)
    replace HP := hid' hp
    clear hp hs
    by_cases h0 : sg t3 = [46]
    · rw [if_pos h0] at HR
      rw [decide_eq_true h0] at f0
      clear h0 f1 f2
      go_wp2_with fail
      generalize hq5 : runF ts j (.dot z) sr = r5 at HR
      rcases r5 with _ | ⟨l5, p5⟩ | ⟨z5, y5, c5, s5⟩
      · exact absurd HR.out.symm hnr
      · refine Calls.mono ((H j (by omega)).dot z _ _ _ _ _ HP.out hq5 (by simp)) ?_
        rintro e wb hp
        have HF := hid' (FaultP.of_below hp HS.out.below)
        obtain ⟨gb, rfl, _⟩ := hp
        obtain rfl : R.bad l5 p5 = r := HR.out
        go_wp2
        exact ⟨rfl, HF.out⟩
      refine Calls.mono ((H j (by omega)).dot z _ _ _ _ _ HP.out hq5 (by simp)) ?_
      rintro e w5 ⟨vl5, vs5, rfl, hp, hs⟩
      have hle5 := HS.out.below.size
      replace HS := hid' (HS.out.then (Nat.le_refl _) hs)
      replace HP := hid' hp
      clear hp hs
      dsimp only [R.bind] at HR
      clear hq5
      go_wp2
      go_roundg j
      case measure => omega
      case rel => exact ⟨z5, s5, vl5, vs5, by omega, rfl, HP, HS, HR⟩
    rw [if_neg h0] at HR
    rw [decide_eq_false h0] at f0
    clear h0
    by_cases h1 : sg t3 = [40]
    · rw [if_pos h1] at HR
      rw [decide_eq_true h1] at f1
      clear h1 f2
      go_wp2_with fail
      generalize hq7 : runF ts j (.call z) sr = r7 at HR
      rcases r7 with _ | ⟨l7, p7⟩ | ⟨z7, y7, c7, s7⟩
      · exact absurd HR.out.symm hnr
      · refine Calls.mono ((H j (by omega)).call z _ _ _ _ _ HP.out hq7 (by simp)) ?_
        rintro e wb hp
        have HF := hid' (FaultP.of_below hp HS.out.below)
        obtain ⟨gb, rfl, _⟩ := hp
        obtain rfl : R.bad l7 p7 = r := HR.out
        go_wp2
        exact ⟨rfl, HF.out⟩
      refine Calls.mono ((H j (by omega)).call z _ _ _ _ _ HP.out hq7 (by simp)) ?_
      rintro e w7 ⟨vl7, vs7, rfl, hp, hs⟩
      have hle7 := HS.out.below.size
      replace HS := hid' (HS.out.then (Nat.le_refl _) hs)
      replace HP := hid' hp
      clear hp hs
      dsimp only [R.bind] at HR
      clear hq7
      go_wp2
      go_roundg j
      case measure => omega
      case rel => exact ⟨z7, s7, vl7, vs7, by omega, rfl, HP, HS, HR⟩
    rw [if_neg h1] at HR
    rw [decide_eq_false h1] at f1
    clear h1
    by_cases h2 : sg t3 = [91]
    · rw [if_pos h2] at HR
      rw [decide_eq_true h2] at f2
      clear h2
      go_wp2_with fail
      generalize hq9 : runF ts j (.index z) sr = r9 at HR
      rcases r9 with _ | ⟨l9, p9⟩ | ⟨z9, y9, c9, s9⟩
      · exact absurd HR.out.symm hnr
      · refine Calls.mono ((H j (by omega)).index z _ _ _ _ _ HP.out hq9 (by simp)) ?_
        rintro e wb hp
        have HF := hid' (FaultP.of_below hp HS.out.below)
        obtain ⟨gb, rfl, _⟩ := hp
        obtain rfl : R.bad l9 p9 = r := HR.out
        go_wp2
        exact ⟨rfl, HF.out⟩
      refine Calls.mono ((H j (by omega)).index z _ _ _ _ _ HP.out hq9 (by simp)) ?_
      rintro e w9 ⟨vl9, vs9, rfl, hp, hs⟩
      have hle9 := HS.out.below.size
      replace HS := hid' (HS.out.then (Nat.le_refl _) hs)
      replace HP := hid' hp
      clear hp hs
      dsimp only [R.bind] at HR
      clear hq9
      go_wp2
      go_roundg j
      case measure => omega
      case rel => exact ⟨z9, s9, vl9, vs9, by omega, rfl, HP, HS, HR⟩
    rw [if_neg h2] at HR
    rw [decide_eq_false h2] at f2
    clear h2
    obtain rfl := HR.out
    go_wp2
    go_returns
    exact ⟨_, _, rfl, HP.out, HS.out⟩
end Go.Proofs.YtaafhldcdkbnkaaGreatDoor

namespace Go.Proofs.YtaafhldcdkbnkaaGreatDoor
open Go.RowKit
open Lx Ax Px

set_option maxRecDepth 10000 in
set_option maxHeartbeats 1600000 in
theorem leaf_any {A : Nat → Addr} {B pb : Nat} {ts : List Tok} {tv : Value} {W : World} {s : PS} {vl : Value} {vs : List Value} (h : PV A B pb ts tv W s vl vs) (t : Tok) (ht : ts[s.at_]? = some t) (hsz : (txt t.text).size ≤ 1000000) (op : Int) (hn : s.nodes.length < 900000) :
    Calls Tryz.prog 172 #[.pointer (some ⟨pb, 0, none⟩), .int .i64 op] W fun e w' => e = .returned (.int .i64 (s.nodes.length : Int)) ∧ ∃ vl' vs', PV A B pb ts tv w' ⟨s.at_ + 1, s.nodes ++ [⟨op, 0, t.pos, txt t.text, []⟩], s.deep⟩ vl' vs' ∧ Step W.heap.size B pb W vl vs w' vl' vs' := by
  have HX := hid' (next_any h t ht)
  have HZ := hid' hsz
  have hlo := hid' h.lowB
  clear h ht hsz
  go_enter Tryz.func172, Tryz.ntmps172
  go_wp2_with fail
  refine Calls.mono HX.out ?_
  rintro e w2 ⟨rfl, p2, s2⟩
  have P2 := hid' p2
  have S2 := hid' s2
  clear p2 s2
  go_wp2_with fail
  refine Calls.mono (add_none (P2.out.alloc (.cells #[.int .i64 (t.kind : Int), .string (txt t.text), .int .i64 (t.pos : Int)] 71)) op t.pos (txt t.text) HZ.out hn) ?_
  rintro e w3 ⟨rfl, vl3, vs3, p3, s3⟩
  have P3 := hid' p3
  have S3 := hid' (((S2.out.step W.heap.size vl vs).alloc (.cells #[.int .i64 (t.kind : Int), .string (txt t.text), .int .i64 (t.pos : Int)] 71) hlo.out).then (Nat.le_refl _) s3)
  clear p3 s3
  go_wp2
  go_returns
  exact ⟨rfl, _, _, P3.out, S3.out⟩
set_option maxRecDepth 10000 in
theorem word_any {A : Nat → Addr} {B pb : Nat} {ts : List Tok} {tv : Value} {W : World} {s : PS} {vl : Value} {vs : List Value} (h : PV A B pb ts tv W s vl vs) (t : Tok) (ht : ts[s.at_]? = some t) (op : Int) (hn : s.nodes.length < 900000) :
    Calls Tryz.prog 108 #[.pointer (some ⟨pb, 0, none⟩), .int .i64 op] W fun e w' => e = .returned (.int .i64 (s.nodes.length : Int)) ∧ ∃ vl' vs', PV A B pb ts tv w' ⟨s.at_ + 1, s.nodes ++ [⟨op, 0, t.pos, ⟨#[]⟩, []⟩], s.deep⟩ vl' vs' ∧ Step W.heap.size B pb W vl vs w' vl' vs' := by
  have HX := hid' (next_any h t ht)
  have hfp := tok_pos
  have hlo := hid' h.lowB
  clear h ht
  go_enter Tryz.func108, Tryz.ntmps108
  go_wp2_with fail
  refine Calls.mono HX.out ?_
  rintro e w2 ⟨rfl, p2, s2⟩
  have P2 := hid' p2
  have S2 := hid' s2
  clear p2 s2
  go_wp2_with fail
  refine Calls.mono (add_none P2.out op t.pos ⟨#[]⟩ (by decide) hn) ?_
  rintro e w3 ⟨rfl, vl3, vs3, p3, s3⟩
  have P3 := hid' p3
  have S3 := hid' ((S2.out.step W.heap.size vl vs).then (Nat.le_refl _) s3)
  clear p3 s3
  go_wp2
  go_returns
  exact ⟨rfl, _, _, P3.out, S3.out⟩
end Go.Proofs.YtaafhldcdkbnkaaGreatDoor

namespace Go.Proofs.YtaafhldcdkbnkaaGreatDoor
open Go.RowKit
open Lx Ax Px

set_option maxRecDepth 10000 in
set_option maxHeartbeats 6400000 in
theorem atom_step {A : Nat → Addr} {B pb : Nat} {ts : List Tok} {tv : Value} {m : Nat} (hts : ∀ t ∈ ts, (txt t.text).size ≤ 1000000) (H : All A B pb ts tv m) : Does A B pb ts tv 162 #[ptr pb] .atom (m + 1) := by
  intro W s vl vs r h hr hnr
  have HR := hid' hr
  have HP := hid' h
  have HS := hid' (Step.refl W.heap.size B pb W vl vs)
  have HLO := hid' h.lowB
  clear hr h
  rw [runF] at HR
  unfold bodyF at HR
  dsimp only at HR
  have hnot : ∀ (x : Bool) (w : World), (Op.unary .not (.bool x)).run Tryz.prog w = .ok (.bool (!x)) w := fun _ _ => rfl
  have hfk := tok_kind
  have hfp := tok_pos
  have HTS := hid' hts
  clear hts
  unfold ptr
  go_enter Tryz.func162, Tryz.ntmps162
  have hmf : ∀ (fn : Fn) (first cap : Array Value) (w : World), (Instr.makeFunc fn first cap).run Tryz.prog w = .ok (.func fn first cap) w := fun _ _ _ _ => rfl
  rw [kindF] at HR
  generalize ht1 : ts[PS.at_ s]? = o1 at HR
  rcases o1 with _ | t1
  · exact absurd HR.out.symm hnr
  try dsimp only at HR
  go_wp2_with fail
  refine Calls.mono (p_token_any HP.out t1 ht1) ?_
  rintro e w2 ⟨rfl, b⟩
  have hp := HP.out.low b
  have hs := Step.low (n := W.heap.size) HP.out b
  clear b
  replace HS := hid' (HS.out.then (Nat.le_refl _) hs)
  replace HP := hid' hp
  clear hp hs
  by_cases k1 : t1.kind = 1
  · rw [if_pos k1] at HR
    have q1 : ((t1.kind : Int) == 1) = true := by rw [k1]; rfl
    clear k1
    rw [leafF, nextF, ht1] at HR
    try dsimp only at HR
    rw [addF] at HR
    by_cases hn : ¬ ((PS.nodes s).length < 900000 ∧ (List.length ([] : List Int)) < 900000)
    · rw [if_neg hn] at HR
      exact absurd HR.out.symm hnr
    rw [Decidable.not_not] at hn
    rw [if_pos hn] at HR
    go_wp2_with fail
    refine Calls.mono (leaf_any HP.out t1 ht1 (HTS.out _ (List.mem_of_getElem? ht1)) 6 hn.1) ?_
    rintro e we ⟨rfl, vle, vse, hp, hs⟩
    replace HS := hid' (HS.out.then (Nat.le_refl _) hs)
    replace HP := hid' hp
    clear hp hs
    obtain rfl := HR.out
    go_wp2
    go_returns
    exact ⟨_, _, rfl, HP.out, HS.out⟩
  rw [if_neg k1] at HR
  have q1 : ((t1.kind : Int) == 1) = false := by simp; omega
  by_cases k2 : t1.kind = 2
  · rw [if_pos k2] at HR
    have q2 : ((t1.kind : Int) == 2) = true := by rw [k2]; rfl
    clear k2
    rw [leafF, nextF, ht1] at HR
    try dsimp only at HR
    rw [addF] at HR
    by_cases hn : ¬ ((PS.nodes s).length < 900000 ∧ (List.length ([] : List Int)) < 900000)
    · rw [if_neg hn] at HR
      exact absurd HR.out.symm hnr
    rw [Decidable.not_not] at hn
    rw [if_pos hn] at HR
    go_wp2_with fail
    refine Calls.mono (leaf_any HP.out t1 ht1 (HTS.out _ (List.mem_of_getElem? ht1)) 4 hn.1) ?_
    rintro e we ⟨rfl, vle, vse, hp, hs⟩
    replace HS := hid' (HS.out.then (Nat.le_refl _) hs)
    replace HP := hid' hp
    clear hp hs
    obtain rfl := HR.out
    go_wp2
    go_returns
    exact ⟨_, _, rfl, HP.out, HS.out⟩
  rw [if_neg k2] at HR
  have q2 : ((t1.kind : Int) == 2) = false := by simp; omega
  by_cases k3 : t1.kind = 3
  · rw [if_pos k3] at HR
    exact absurd HR.out.symm hnr
  rw [if_neg k3] at HR
  have q3 : ((t1.kind : Int) == 3) = false := by simp; omega
  clear k1 k2 k3
  rw [Px.signF] at HR
  rw [ht1] at HR
  try dsimp only at HR
  go_wp2_with fail
  refine Calls.mono (p_sign_any HP.out t1 ht1) ?_
  rintro e w3 ⟨rfl, b⟩
  have hp := HP.out.low b
  have hs := Step.low (n := w2.heap.size) HP.out b
  clear b
  replace HS := hid' (HS.out.then (Nat.le_refl _) hs)
  replace HP := hid' hp
  clear hp hs
  have f0 := str_is (sg t1) [78, 111, 110, 101]
  by_cases h0 : sg t1 = sNone
  · rw [if_pos h0] at HR
    rw [decide_eq_true (show sg t1 = [78, 111, 110, 101] from h0)] at f0
    clear h0
    rw [wordF, nextF, ht1] at HR
    try dsimp only at HR
    rw [addF] at HR
    by_cases hn : ¬ ((PS.nodes s).length < 900000 ∧ (List.length ([] : List Int)) < 900000)
    · rw [if_neg hn] at HR
      exact absurd HR.out.symm hnr
    rw [Decidable.not_not] at hn
    rw [if_pos hn] at HR
    go_wp2_with fail
    refine Calls.mono (word_any HP.out t1 ht1 1 hn.1) ?_
    rintro e we ⟨rfl, vle, vse, hp, hs⟩
    replace HS := hid' (HS.out.then (Nat.le_refl _) hs)
    replace HP := hid' hp
    clear hp hs
    obtain rfl := HR.out
    go_wp2
    go_returns
    exact ⟨_, _, rfl, HP.out, HS.out⟩
  rw [if_neg h0] at HR
  rw [decide_eq_false (show ¬ sg t1 = [78, 111, 110, 101] from h0)] at f0
  clear h0
  have f1 := str_is (sg t1) [84, 114, 117, 101]
  by_cases h1 : sg t1 = sTrue
  · rw [if_pos h1] at HR
    rw [decide_eq_true (show sg t1 = [84, 114, 117, 101] from h1)] at f1
    clear h1
    rw [wordF, nextF, ht1] at HR
    try dsimp only at HR
    rw [addF] at HR
    by_cases hn : ¬ ((PS.nodes s).length < 900000 ∧ (List.length ([] : List Int)) < 900000)
    · rw [if_neg hn] at HR
      exact absurd HR.out.symm hnr
    rw [Decidable.not_not] at hn
    rw [if_pos hn] at HR
    go_wp2_with fail
    refine Calls.mono (word_any HP.out t1 ht1 2 hn.1) ?_
    rintro e we ⟨rfl, vle, vse, hp, hs⟩
    replace HS := hid' (HS.out.then (Nat.le_refl _) hs)
    replace HP := hid' hp
    clear hp hs
    obtain rfl := HR.out
    go_wp2
    go_returns
    exact ⟨_, _, rfl, HP.out, HS.out⟩
  rw [if_neg h1] at HR
  rw [decide_eq_false (show ¬ sg t1 = [84, 114, 117, 101] from h1)] at f1
  clear h1
  have f2 := str_is (sg t1) [70, 97, 108, 115, 101]
  by_cases h2 : sg t1 = sFalse
  · rw [if_pos h2] at HR
    rw [decide_eq_true (show sg t1 = [70, 97, 108, 115, 101] from h2)] at f2
    clear h2
    rw [wordF, nextF, ht1] at HR
    try dsimp only at HR
    rw [addF] at HR
    by_cases hn : ¬ ((PS.nodes s).length < 900000 ∧ (List.length ([] : List Int)) < 900000)
    · rw [if_neg hn] at HR
      exact absurd HR.out.symm hnr
    rw [Decidable.not_not] at hn
    rw [if_pos hn] at HR
    go_wp2_with fail
    refine Calls.mono (word_any HP.out t1 ht1 3 hn.1) ?_
    rintro e we ⟨rfl, vle, vse, hp, hs⟩
    replace HS := hid' (HS.out.then (Nat.le_refl _) hs)
    replace HP := hid' hp
    clear hp hs
    obtain rfl := HR.out
    go_wp2
    go_returns
    exact ⟨_, _, rfl, HP.out, HS.out⟩
  rw [if_neg h2] at HR
  rw [decide_eq_false (show ¬ sg t1 = [70, 97, 108, 115, 101] from h2)] at f2
  clear h2
  have f3 := str_is (sg t1) [40]
  by_cases h3 : sg t1 = [40]
  · rw [if_pos h3] at HR
    rw [decide_eq_true (show sg t1 = [40] from h3)] at f3
    clear h3
    go_wp2_with fail
    refine Calls.mono (H.round _ _ _ _ _ HP.out HR.out hnr) ?_
    rintro e we hp
    clear HR
    rcases r with _ | ⟨lr, pr⟩ | ⟨zr, yr, cr, sr⟩
    · exact hp.elim
    · have HF := hid' (FaultP.of_below hp HS.out.below)
      obtain ⟨gb, rfl, _⟩ := hp
      go_wp2
      exact ⟨rfl, HF.out⟩
    obtain ⟨vle, vse, rfl, hp, hs⟩ := hp
    have HQ := hid' (HS.out.then (Nat.le_refl _) hs)
    have HP2 := hid' hp
    clear hp hs
    go_wp2
    go_returns
    exact ⟨_, _, rfl, HP2.out, HQ.out⟩
  rw [if_neg h3] at HR
  rw [decide_eq_false (show ¬ sg t1 = [40] from h3)] at f3
  clear h3
  have f4 := str_is (sg t1) [91]
  have f5 := str_is (sg t1) [123]
  by_cases h4 : sg t1 = [91]
  · rw [if_pos h4] at HR
    rw [decide_eq_true h4] at f4
    clear h4 f5
    go_wp2_with fail
    refine Calls.mono (H.list _ _ _ _ _ HP.out HR.out hnr) ?_
    rintro e we hp
    clear HR
    rcases r with _ | ⟨lr, pr⟩ | ⟨zr, yr, cr, sr⟩
    · exact hp.elim
    · have HF := hid' (FaultP.of_below hp HS.out.below)
      obtain ⟨gb, rfl, _⟩ := hp
      go_wp2
      exact ⟨rfl, HF.out⟩
    obtain ⟨vle, vse, rfl, hp, hs⟩ := hp
    have HQ := hid' (HS.out.then (Nat.le_refl _) hs)
    have HP2 := hid' hp
    clear hp hs
    go_wp2
    go_returns
    exact ⟨_, _, rfl, HP2.out, HQ.out⟩
  rw [if_neg h4] at HR
  rw [decide_eq_false h4] at f4
  clear h4
  by_cases h5 : sg t1 = [123]
  · rw [if_pos h5] at HR
    exact absurd HR.out.symm hnr
  rw [if_neg h5] at HR
  rw [decide_eq_false h5] at f5
  clear h5
  rw [allowF, ht1] at HR
  try dsimp only at HR
  rw [if_neg (by simp)] at HR
  have hlo2 := HP.out.lowB
  have hce := HP.out.env.parse
  have hlow := Nat.lt_of_lt_of_le HP.out.env.low.1 hlo2
  go_wp2
  refine wp_region_held_drew (S := fun W' => Below w3.heap.size w3 W') (by kernel_rfl) (Below.refl _ _).drew (fun hHeld => ?_)
  refine take_val' (i := 0) (v := .pointer (some ⟨pb, 0, none⟩)) rfl (by kernel_rfl) (by kernel_rfl) (by kernel_rfl) (some 46) rfl (fun _ _ _ h => h) (Or.inl ⟨by rfl, fun W' hW => by go_simp⟩) hHeld ?_
  try simp only [Act.put, List.setIfInBounds_toArray, List.set_cons_zero, List.set_cons_succ]
  refine take_val' (i := 3) (v := E A 1) rfl (by kernel_rfl) (by kernel_rfl) (by kernel_rfl) (some 49) rfl (fun _ _ _ h => h) (Or.inl ⟨by rfl, fun W' hW => by have c2 := (hW.cell (p := ⟨3, 0, none⟩) hlow).trans hce; go_simp⟩) hHeld ?_
  try simp only [Act.put, List.setIfInBounds_toArray, List.set_cons_zero, List.set_cons_succ]
  refine wpAnyH_ready (rs := [1]) (by kernel_rfl) (by simp) ?_
  refine AllReadyH.cons rfl (fun K hK => ?_) AllReadyH.nil
  go_simp
  refine Calls.mono (p_token_any (HP.out.low hHeld) t1 ht1) ?_
  rintro e wq ⟨rfl, bq⟩
  have b3 := Below.thenB hHeld bq
  clear bq hHeld
  refine hK.out _ _ b3 (fun hHeld => ?_)
  clear hK K
  try simp only [Act.put, List.setIfInBounds_toArray, List.set_cons_zero, List.set_cons_succ]
  refine take_val' (i := 2) (v := .int .i64 (t1.pos : Int)) rfl (by kernel_rfl) (by kernel_rfl) (by kernel_rfl) (some 48) rfl (fun _ _ _ h => h) (Or.inl ⟨by rfl, fun W' hW => by go_simp⟩) hHeld ?_
  try simp only [Act.put, List.setIfInBounds_toArray, List.set_cons_zero, List.set_cons_succ]
  refine wpAnyH_ready (rs := [4]) (by kernel_rfl) (by simp) ?_
  refine AllReadyH.cons rfl (fun K hK => ?_) AllReadyH.nil
  go_simp
  refine Calls.mono (p_fault_any A 1 _ _) ?_
  rintro e wf ⟨rfl, rfl⟩
  have b4 := b3.alloc b3.size (.cells #[.int .i64 (t1.pos : Int), E A 1] 84)
  clear hHeld
  refine hK.out _ _ b4 (fun hHeld => ?_)
  clear hK K
  try simp only [Act.put, List.setIfInBounds_toArray, List.set_cons_zero, List.set_cons_succ]
  refine take_val' (i := 5) (v := .iface 67 (.pointer (some ⟨wq.heap.size, 0, none⟩))) rfl (by kernel_rfl) (by kernel_rfl) (by kernel_rfl) (some 51) rfl (fun _ _ _ h => h) (Or.inl ⟨by rfl, fun W' hW => by go_simp⟩) hHeld ?_
  try simp only [Act.put, List.setIfInBounds_toArray, List.set_cons_zero, List.set_cons_succ]
  refine wpAnyH_ready (rs := [6]) (by kernel_rfl) (by simp) ?_
  refine AllReadyH.cons rfl (fun K hK => ?_) AllReadyH.nil
  go_simp
  obtain rfl : R.bad false t1.pos = r := HR.out
  exact ⟨rfl, (fault_end b3 hlo2 false 1 rfl _).of_below HS.out.below⟩
end Go.Proofs.YtaafhldcdkbnkaaGreatDoor
