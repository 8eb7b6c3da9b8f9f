/- Parts of the proof, together. What alone of the parser answers. Conditions: as told of less fuel. What addBlock of the parser answers. Conditions: as told of less fuel. What file of the parser answers. Conditions: as told of less fuel. What every call of the parser answers, for whatever fuel. Conditions: texts of tokens are short. What the functions make of the law's texts of three words. No conditions. -/
import Derived.Test.YtbooimbcmdcbpaaGreatDoorQbr
import Derived.Test.YtbooimbcmdcbpaaGreatDoorQbt
import Derived.Test.YtbooimbcmdcbpaaGreatDoorQbs
import Derived.Test.YtbooimbcmdcbpaaGreatDoorQbo
namespace Go.Proofs.YtbooimbcmdcbpaaGreatDoor
open Go.RowKit
open Lx Ax Px

set_option maxRecDepth 10000 in
set_option maxHeartbeats 1600000 in
theorem alone_step {A : Nat → Addr} {B pb : Nat} {ts : List Tok} {tv : Value} {m : Nat} (H : All A B pb ts tv m) : DoesN A B pb ts tv 26 #[ptr pb] .alone (m + 1) := by
  intro W s vl vs r h hr hnr
  have HR := hid' hr
  have HP := hid' h
  have HS := hid' (Step.refl W.heap.size B pb W vl vs)
  have HLO := hid' h.lowB
  clear hr h
  rw [runF] at HR
  unfold bodyF at HR
  dsimp only at HR
  have hnot : ∀ (x : Bool) (w : World), (Op.unary .not (.bool x)).run Tryz.prog w = .ok (.bool (!x)) w := fun _ _ => rfl
  have hfk := tok_kind
  have hfp := tok_pos
  unfold ptr
  go_enter Tryz.func26, Tryz.ntmps26
  go_wp2_with fail
  generalize hq1 : runF ts m (.bare 0) s = r1 at HR
  rcases r1 with _ | ⟨l1, p1⟩ | ⟨z1, y1, c1, s1⟩
  · exact absurd HR.out.symm hnr
  · refine Calls.mono (H.tuple _ _ _ _ _ HP.out hq1 (by simp)) ?_
    rintro e wb hp
    have HF := hid' (FaultP.of_below hp HS.out.below)
    obtain ⟨gb, rfl, _⟩ := hp
    obtain rfl : R.bad l1 p1 = r := HR.out
    go_wp2
    exact ⟨rfl, HF.out⟩
  refine Calls.mono (H.tuple _ _ _ _ _ HP.out hq1 (by simp)) ?_
  rintro e w1 ⟨vl1, vs1, rfl, hp, hs⟩
  have hle1 := HS.out.below.size
  replace HS := hid' (HS.out.then (Nat.le_refl _) hs)
  replace HP := hid' hp
  clear hp hs
  dsimp only [R.bind] at HR
  clear hq1
  rw [kindF] at HR
  generalize ht3 : ts[PS.at_ s1]? = o3 at HR
  rcases o3 with _ | t3
  · exact absurd HR.out.symm hnr
  try dsimp only at HR
  go_wp2_with fail
  refine Calls.mono (p_token_any HP.out t3 ht3) ?_
  rintro e w4 ⟨rfl, b⟩
  have hp := HP.out.low b
  have hs := Step.low (n := w1.heap.size) HP.out b
  clear b
  replace HS := hid' (HS.out.then (Nat.le_refl _) hs)
  replace HP := hid' hp
  clear hp hs
  by_cases h5 : t3.kind = 5
  · rw [if_pos h5] at HR
    have q5 : ((t3.kind : Int) == 5) = true := by rw [h5]; rfl
    clear h5
    go_wp2_with fail
    refine Calls.mono (next_any HP.out t3 ht3) ?_
    rintro e w5 ⟨rfl, hp, hst⟩
    have hs := hst.step w4.heap.size vl1 vs1
    clear hst
    replace HS := hid' (HS.out.then (Nat.le_refl _) hs)
    replace HP := hid' hp
    clear hp hs
    generalize (PS.mk (PS.at_ s1 + 1) (PS.nodes s1) (PS.deep s1)) = s5 at HP HR
    rw [takeKF] at HR
    generalize ht6 : ts[PS.at_ s5]? = o6 at HR
    rcases o6 with _ | t6
    · exact absurd HR.out.symm hnr
    try dsimp only at HR
    by_cases hl7 : ¬ t6.kind = 8
    · rw [if_neg hl7] at HR
      go_wp2_with fail
      · refine Calls.mono (take_miss HP.out t6 ht6 8 hl7) ?_
        rintro e wb hp
        have HF := hid' (FaultP.of_below hp HS.out.below)
        obtain ⟨gb, rfl, _⟩ := hp
        obtain rfl : R.bad false t6.pos = r := HR.out
        go_wp2
        exact ⟨rfl, HF.out⟩
    rw [Decidable.not_not] at hl7
    rw [if_pos hl7] at HR
    go_wp2_with fail
    refine Calls.mono (take_hit HP.out t6 ht6 8 hl7) ?_
    rintro e w9 ⟨rfl, hp, hst⟩
    have hs := hst.step w5.heap.size vl1 vs1
    clear hst
    replace HS := hid' (HS.out.then (Nat.le_refl _) hs)
    replace HP := hid' hp
    clear hp hs
    generalize (PS.mk (PS.at_ s5 + 1) (PS.nodes s5) (PS.deep s5)) = s9 at HP HR
    obtain rfl := HR.out
    go_wp2
    go_end0
    exact ⟨_, _, rfl, HP.out, HS.out⟩
  rw [if_neg h5] at HR
  have q5 : ((t3.kind : Int) == 5) = false := by simp; omega
  clear h5
  rw [takeKF] at HR
  generalize ht10 : ts[PS.at_ s1]? = o10 at HR
  rcases o10 with _ | t10
  · exact absurd HR.out.symm hnr
  try dsimp only at HR
  by_cases hl11 : ¬ t10.kind = 8
  · rw [if_neg hl11] at HR
    go_wp2_with fail
    · refine Calls.mono (take_miss HP.out t10 ht10 8 hl11) ?_
      rintro e wb hp
      have HF := hid' (FaultP.of_below hp HS.out.below)
      obtain ⟨gb, rfl, _⟩ := hp
      obtain rfl : R.bad false t10.pos = r := HR.out
      go_wp2
      exact ⟨rfl, HF.out⟩
  rw [Decidable.not_not] at hl11
  rw [if_pos hl11] at HR
  go_wp2_with fail
  refine Calls.mono (take_hit HP.out t10 ht10 8 hl11) ?_
  rintro e w13 ⟨rfl, hp, hst⟩
  have hs := hst.step w4.heap.size vl1 vs1
  clear hst
  replace HS := hid' (HS.out.then (Nat.le_refl _) hs)
  replace HP := hid' hp
  clear hp hs
  generalize (PS.mk (PS.at_ s1 + 1) (PS.nodes s1) (PS.deep s1)) = s13 at HP HR
  obtain rfl := HR.out
  go_wp2
  go_end0
  exact ⟨_, _, rfl, HP.out, HS.out⟩
end Go.Proofs.YtbooimbcmdcbpaaGreatDoor

namespace Go.Proofs.YtbooimbcmdcbpaaGreatDoor
open Go.RowKit
open Lx Ax Px

/-- What addBlock answers. -/
def BlockP (A : Nat → Addr) (B pb : Nat) (ts : List Tok) (tv : Value) (W : World) (vl : Value) (vs : List Value) (n : Nat) (r : R) (e : Ending) (w' : World) : Prop := ∃ z s' vl' vs', r = .ok z [] false s' ∧ e = .returned (.int .i64 z) ∧ PV A B pb ts tv w' s' vl' vs' ∧ Step n B pb W vl vs w' vl' vs'
set_option maxRecDepth 10000 in
set_option maxHeartbeats 3200000 in
theorem addBlock_any {A : Nat → Addr} {B pb : Nat} {ts : List Tok} {tv : Value} {W : World} {s : PS} {vl : Value} {vs : List Value} (h : PV A B pb ts tv W s vl vs) (v : Value) (z : Int) (zr : List Int) (hz : OwnZ W B v (z :: zr)) (hoff : Off v vs) (r : R) (hr : (posF s z fun p => addF 47 p ⟨#[]⟩ (z :: zr) s one) = r) (hnr : r ≠ .stuck) (n : Nat) (hv : ∀ k, v.ownBlock = some k → n ≤ k) :
    Calls Tryz.prog 36 #[.pointer (some ⟨pb, 0, none⟩), v] W (BlockP A B pb ts tv W vl vs n r) := by
  rw [posF] at hr
  by_cases hz0 : z < 0
  · rw [if_pos hz0] at hr
    exact absurd hr.symm hnr
  rw [if_neg hz0] at hr
  generalize hx : s.nodes[z.toNat]? = ox at hr
  rcases ox with _ | x
  · exact absurd hr.symm hnr
  try dsimp only at hr
  obtain ⟨k, rfl⟩ := Int.eq_ofNat_of_zero_le (by omega : 0 ≤ z)
  rw [Int.toNat_natCast] at hx
  rw [addF] at hr
  by_cases hn : ¬ (s.nodes.length < 900000 ∧ ((k : Int) :: zr).length < 900000)
  · rw [if_neg hn] at hr
    exact absurd hr.symm hnr
  rw [Decidable.not_not] at hn
  rw [if_pos hn] at hr
  obtain ⟨gk, ck, rfl, hck, _, hgk, hck2⟩ := own_some hz (by simp)
  have HA := fun W' (hb : Below W.heap.size W W') => hid' (p_add_any (n := n) (h.low hb) 47 x.pos ⟨#[]⟩ (by decide) _ ((k : Int) :: zr) (hz.keep fun j _ hj => hb.block j hj) hoff hn.1 hn.2 hv)
  have HS0 := fun W' (hb : Below W.heap.size W W') => hid' (Step.low (n := n) h hb)
  have HR := hid' hr
  obtain ⟨g, cap, vn, rfl, hg, hk, N⟩ := h.node k x hx
  obtain ⟨_, _, c2, _⟩ := h.cells
  have hlt := h.lt
  have d0 := hck2 0 (.int .i64 (k : Int)) (by simp [nums])
  have np := N.pos
  have hk2 : (0 : Int) ≤ (k : Int) ∧ (k : Int) < (s.nodes.length : Int) := by omega
  have hm0 : (0 : Int) ≤ 0 ∧ (0 : Int) < ((((k : Int) :: zr).length : Nat) : Int) := ⟨by omega, by simp only [List.length_cons]; omega⟩
  generalize hml : ((k : Int) :: zr).length = m at hm0 hck HA hn
  clear hck2 hr N hz hoff hx h hml
  go_enter Tryz.func36, Tryz.ntmps36
  go_wp2_with fail
  go_region_with (go_at_call 35; refine Calls.mono (HA _ ?_).out ?_; (· exact (Below.refl _ _).drew); rintro e w2 ⟨rfl, vl2, vs2, p2, s2⟩; have P2 := hid' p2; have S2 := hid' ((HS0 _ (Below.refl _ _).drew).out.trans s2); clear p2 s2)
  all_goals (
    go_wp2
    go_returns
    exact ⟨_, _, _, _, HR.out.symm, rfl, P2.out, S2.out⟩)
end Go.Proofs.YtbooimbcmdcbpaaGreatDoor

namespace Go.Proofs.YtbooimbcmdcbpaaGreatDoor
open Go.RowKit
open Lx Ax Px

set_option maxRecDepth 10000 in
set_option maxHeartbeats 6400000 in
theorem file_step {A : Nat → Addr} {B pb : Nat} {ts : List Tok} {tv : Value} {m : Nat} (H : ∀ j, j ≤ m → All A B pb ts tv j) : DoesN A B pb ts tv 19 #[ptr pb] .file (m + 1) := by
  intro W s vl vs r h hr hnr
  have HR := hid' hr
  have HP := hid' h
  have HS := hid' (Step.refl W.heap.size B pb W vl vs)
  have HLO := hid' h.lowB
  clear hr h
  rw [runF] at HR
  unfold bodyF at HR
  dsimp only at HR
  have hnot : ∀ (x : Bool) (w : World), (Op.unary .not (.bool x)).run Tryz.prog w = .ok (.bool (!x)) w := fun _ _ => rfl
  have hfk := tok_kind
  have hfp := tok_pos
  unfold ptr
  go_enter Tryz.func19, Tryz.ntmps19
  go_wp2_with fail
  go_loopg [2] m (fun gk u2 wr => ∃ (v : Value) (zs : List Int) (sr : PS) (vlr : Value) (vsr : List Value), gk ≤ m ∧ u2 = v ∧ zs.length < 900001 ∧ Hid (PV A B pb ts tv wr sr vlr vsr) ∧ Hid (Step W.heap.size B pb W vl vs wr vlr vsr) ∧ Hid (OwnZ wr B v zs) ∧ Hid (Off v vsr) ∧ Hid (∀ k, v.ownBlock = some k → W.heap.size ≤ k) ∧ Hid (R.bind (runF ts gk (.fileLoop zs) sr) (fun _ zs _ s => fileEnd zs s) = r))
  case atStart => exact ⟨.slice none 0 0, [], s, vl, vs, Nat.le_refl _, rfl, by simp, HP, HS, hid' (OwnZ.nil W B), hid' (off_nil _ 0 0), hid' (fun _ e => by simp [Value.ownBlock] at e), HR⟩
  case round =>
    obtain ⟨v, zs, sr, vlr, vsr, hgk, rfl, hzl, HPr, HSr, HOZ, HOFF, HV, HRr⟩ := hrel
    clear HP HS HR
    have HP := HPr
    have HS := HSr
    have HR := HRr
    clear HPr HSr HRr
    rcases gk with _ | j
    · exact absurd HR.out.symm hnr
    rw [runF] at HR
    unfold bodyF at HR
    try dsimp only at HR
    rw [kindF] at HR
    generalize ht1 : ts[PS.at_ sr]? = o1 at HR
    rcases o1 with _ | t1
    · exact absurd HR.out.symm hnr
    try dsimp only at HR
    go_wp2_with fail
    refine Calls.mono (p_token_any HP.out t1 ht1) ?_
    rintro e w2 ⟨rfl, b⟩
    have hp := HP.out.low b
    have hs := Step.low (n := wr.heap.size) HP.out b
    clear b
    have hoz := HOZ.out.step HP.out hs
    replace HOFF := hid' (HOFF.out.step hs (fun k hk => (World.ownsRow.lt HOZ.out k hk).2))
    replace HOZ := hid' hoz
    clear hoz
    replace HS := hid' (HS.out.then (Nat.le_refl _) hs)
    replace HP := hid' hp
    clear hp hs
    by_cases h8 : t1.kind = 8
    · rw [if_pos h8] at HR
      have q8 : ((t1.kind : Int) != 8) = false := by rw [h8]; rfl
      clear h8
      try dsimp only [R.bind] at HR
      rcases zs with _ | ⟨z, zr⟩
      · unfold fileEnd at HR
        try dsimp only at HR
        obtain ⟨ao0, cap0, rfl, _⟩ := own_form HOZ.out
        rw [addF] at HR
        by_cases hn3 : ¬ ((PS.nodes sr).length < 900000 ∧ (List.length ([] : List Int)) < 900000)
        · rw [if_neg hn3] at HR
          exact absurd HR.out.symm hnr
        rw [Decidable.not_not] at hn3
        rw [if_pos hn3] at HR
        go_wp2_with fail
        refine Calls.mono (add_none HP.out 38 0 ⟨#[]⟩ (by decide) hn3.1) ?_
        rintro e w3 ⟨rfl, vl3, vs3, hp, hs⟩
        have hoz := HOZ.out.step HP.out hs
        replace HOFF := hid' (HOFF.out.step hs (fun k hk => (World.ownsRow.lt HOZ.out k hk).2))
        replace HOZ := hid' hoz
        clear hoz
        replace HS := hid' (HS.out.then (Nat.le_refl _) hs)
        replace HP := hid' hp
        clear hp hs
        generalize hs3 : (PS.mk (PS.at_ sr) (PS.nodes sr ++ [⟨38, 0, 0, ⟨#[]⟩, []⟩]) (PS.deep sr)) = s3 at HP HR
        clear hs3
        generalize hzz : ((PS.nodes sr).length : Int) = zp at HR
        clear hzz
        go_wp2_with (at_builtin; refine num_plain HOZ.out zp 1 rfl HP.out.lowB (by simp) rfl (.tmp 16) (.tmp 19) (by rfl) (by rfl) (by rfl) ?_; intro g5 cap5 w5 q1 q2 q3 q4 q5; have HQ := hid' (row_push (m := 1) HP.out HS.out HOZ.out HOFF.out HV.out q2 q3 g5 cap5 q4); have HZ5 := hid' q1; clear q1 q2 q3 q4 q5)
        have HP9 := hid' HQ.out.1
        have HS9 := hid' HQ.out.2.1
        clear HP HS
        have HP := HP9
        have HS := HS9
        clear HP9 HS9
        go_wp2_with fail
        refine Calls.mono (addBlock_any HP.out _ zp [] HZ5.out HQ.out.2.2.1 _ HR.out hnr W.heap.size HQ.out.2.2.2) ?_
        rintro e we ⟨zb, sb, vle, vse, rfl, rfl, hp, hs⟩
        have HS2 := hid' (HS.out.trans hs)
        have HP2 := hid' hp
        clear hp hs
        go_wp2
        go_end0
        exact ⟨_, _, rfl, HP2.out, HS2.out⟩
      unfold fileEnd at HR
      try dsimp only at HR
      obtain ⟨ao0, cap0, rfl, _⟩ := own_form HOZ.out
      have hml : ((((z :: zr).length : Nat) : Int) == 0) = false := by simp only [List.length_cons]; simp; omega
      have HML := hid' (rfl : (z :: zr).length = (z :: zr).length)
      go_wp2_with fail
      refine Calls.mono (addBlock_any HP.out _ z zr HOZ.out HOFF.out _ HR.out hnr W.heap.size HV.out) ?_
      rintro e we ⟨zb, sb, vle, vse, rfl, rfl, hp, hs⟩
      have HS2 := hid' (HS.out.trans hs)
      have HP2 := hid' hp
      clear hp hs
      go_wp2
      go_end0
      exact ⟨_, _, rfl, HP2.out, HS2.out⟩
    rw [if_neg h8] at HR
    have q8 : ((t1.kind : Int) != 8) = true := by simp; omega
    clear h8
    go_wp2_with fail
    generalize hq4 : runF ts j (.statement ⟨false, false, false⟩) sr = r4 at HR
    rcases r4 with _ | ⟨l4, p4⟩ | ⟨z4, y4, c4, s4⟩
    · exact absurd HR.out.symm hnr
    · refine Calls.mono ((H j (by omega)).statement ⟨false, false, false⟩ _ _ _ _ _ HP.out hq4 (by simp)) ?_
      rintro e wb hp
      have HF := hid' (FaultP.of_below hp HS.out.below)
      obtain ⟨gb, rfl, _⟩ := hp
      obtain rfl : R.bad l4 p4 = r := HR.out
      go_wp2
      exact ⟨rfl, HF.out⟩
    refine Calls.mono ((H j (by omega)).statement ⟨false, false, false⟩ _ _ _ _ _ HP.out hq4 (by simp)) ?_
    rintro e w4 ⟨vl4, vs4, rfl, hp, hs⟩
    have hoz := HOZ.out.step HP.out hs
    replace HOFF := hid' (HOFF.out.step hs (fun k hk => (World.ownsRow.lt HOZ.out k hk).2))
    replace HOZ := hid' hoz
    clear hoz
    replace HS := hid' (HS.out.then (Nat.le_refl _) hs)
    replace HP := hid' hp
    clear hp hs
    rw [R.bind] at HR
    try dsimp only at HR
    clear hq4
    by_cases hzz : ¬ zs.length < 900000
    · rw [if_neg hzz] at HR
      exact absurd HR.out.symm hnr
    rw [Decidable.not_not] at hzz
    rw [if_pos hzz] at HR
    go_wp2_with (at_builtin; refine num_plain HOZ.out z4 (zs.length + 1) rfl HP.out.lowB (by omega) rfl (.tmp 7) (.tmp 11) (by rfl) (by rfl) (by rfl) ?_; intro g5 cap5 w5 q1 q2 q3 q4 q5; have HQ := hid' (row_push (m := (zs.length + 1)) HP.out HS.out HOZ.out HOFF.out HV.out q2 q3 g5 cap5 q4); have HZ5 := hid' q1; clear q1 q2 q3 q4 q5)
    go_wp2
    go_roundg j
    case measure => omega
    case rel => exact ⟨_, zs ++ [z4], s4, vl4, vs4, by omega, rfl, by rw [List.length_append, List.length_singleton]; omega, HQ.out.1, HQ.out.2.1, HZ5, HQ.out.2.2.1, HQ.out.2.2.2, HR⟩
end Go.Proofs.YtbooimbcmdcbpaaGreatDoor

namespace Go.Proofs.YtbooimbcmdcbpaaGreatDoor
open Go.RowKit
open Lx Ax Px

section
variable {A : Nat → Addr} {B pb : Nat} {ts : List Tok} {tv : Value}
theorem does_zero (f : FuncId) (args : Array Value) (q : Q) : Does A B pb ts tv f args q 0 := fun _ _ _ _ _ _ hr hnr => absurd hr.symm hnr
theorem doesR_zero (f : FuncId) (args : Array Value) (q : Q) : DoesR A B pb ts tv f args q 0 := fun _ _ _ _ _ _ hr hnr => absurd hr.symm hnr
theorem all_zero : All A B pb ts tv 0 := ⟨does_zero _ _ _, does_zero _ _ _, does_zero _ _ _, does_zero _ _ _, does_zero _ _ _, does_zero _ _ _, does_zero _ _ _, does_zero _ _ _, does_zero _ _ _, does_zero _ _ _, does_zero _ _ _, does_zero _ _ _, doesR_zero _ _ _, doesR_zero _ _ _, does_zero _ _ _, does_zero _ _ _, fun _ => does_zero _ _ _, fun _ => does_zero _ _ _, fun _ => does_zero _ _ _, does_zero _ _ _⟩
theorem p_all_any (hts : ∀ t ∈ ts, (txt t.text).size ≤ 1000000) (n : Nat) : All A B pb ts tv n := by
  induction n using Nat.strongRecOn with
  | _ n ih =>
    rcases n with _ | m
    · exact all_zero
    · have H : ∀ j, j ≤ m → All A B pb ts tv j := fun j hj => ih j (by omega)
      have Hm := H m (Nat.le_refl _)
      exact ⟨test_step Hm, or_step H, and_step H, sum_step H, product_step H, not_step Hm, ahead0_step Hm, ahead1_step Hm, compare_step Hm, unary_step Hm, primary_step Hm, atom_step hts Hm, tests_step H, orNone_step Hm, tuple_step Hm, round_step Hm, fun p => statement_step p Hm, fun p => line_step p Hm, fun p => simple_step p Hm, assignment_step Hm⟩
theorem file_any (hts : ∀ t ∈ ts, (txt t.text).size ≤ 1000000) (n : Nat) : DoesN A B pb ts tv 19 #[ptr pb] .file n := by
  rcases n with _ | m
  · exact fun _ _ _ _ _ _ hr hnr => absurd hr.symm hnr
  · exact file_step fun j _ => p_all_any hts j
theorem alone_any (hts : ∀ t ∈ ts, (txt t.text).size ≤ 1000000) (n : Nat) : DoesN A B pb ts tv 26 #[ptr pb] .alone n := by
  rcases n with _ | m
  · exact fun _ _ _ _ _ _ hr hnr => absurd hr.symm hnr
  · exact alone_step (p_all_any hts m)
end
end Go.Proofs.YtbooimbcmdcbpaaGreatDoor

namespace Go.Proofs.YtbooimbcmdcbpaaGreatDoor
open Go.RowKit
namespace Px
open Lx Ax

/-- What comes out of a text: where it has no tokens; a fault; nodes. -/
inductive PR where
  | lex (pos : Nat)
  | bad (lim : Bool) (pos : Int)
  | ok (l : List Nd)
def treeF (n : Nat) (q : Q) (l : List UInt8) : Option PR := match scanF l with
  | .bad p => some (.lex p)
  | .ok ts => if ts.length ≤ 100000 && ts.all (fun t => decide (t.text.length ≤ 100000)) then (match runF ts n q ⟨0, [], 0⟩ with
    | .stuck => none
    | .bad lim p => some (.bad lim p)
    | .ok _ _ _ s => some (.ok s.nodes)) else none
def signs : List (List UInt8) := [[111, 114], [97, 110, 100], [61, 61], [43], [45], [42], [47, 47], [37]]
def opsR : List Int := [19, 18, 26, 21, 22, 23, 24, 25]
def ranksR : List Int := [1, 2, 3, 4, 4, 5, 5, 5]
def rkA (i k : Nat) : List UInt8 := [97, 32] ++ signs.getD i [] ++ [32, 98, 32] ++ signs.getD k [] ++ [32, 99]
def rkB (i k : Nat) : List UInt8 := [97, 32] ++ signs.getD i [] ++ [32, 40, 98, 32] ++ signs.getD k [] ++ [32, 99, 41]
def rkOK (i k : Nat) : Bool := (match treeF 60 .alone (rkA i k) with
  | some (.ok l) => l.map (·.op) == [6, 6, (if ranksR.getD k 0 > ranksR.getD i 0 then 6 else opsR.getD i 0), (if ranksR.getD k 0 > ranksR.getD i 0 then opsR.getD k 0 else 6), (if ranksR.getD k 0 > ranksR.getD i 0 then opsR.getD i 0 else opsR.getD k 0)]
  | _ => false) && (match treeF 60 .alone (rkB i k) with
  | some (.ok l) => l.map (·.op) == [6, 6, 6, opsR.getD k 0, opsR.getD i 0]
  | _ => false)
set_option maxRecDepth 100000 in
theorem rk_all : (List.range 8).all (fun i => (List.range 8).all fun k => (i == 2 && k == 2) || rkOK i k) = true := by decide +kernel
set_option maxRecDepth 100000 in
theorem rk_two : (match treeF 60 .alone [97, 32, 61, 61, 32, 98, 32, 61, 61, 32, 99] with | some (.bad false 7) => true | _ => false) = true := by decide +kernel
set_option maxRecDepth 100000 in
theorem rk_first : (match treeF 60 .file [120, 32, 61, 32, 49, 32, 43, 32, 50] with | some (.ok l) => l.map (fun x => (x.op, x.pos)) == [(6, 0), (4, 4), (4, 8), (21, 6), (36, 2), (47, 2)] | _ => false) = true := by decide +kernel
end Px
end Go.Proofs.YtbooimbcmdcbpaaGreatDoor
