/- Parts of the proof, together. What file of the parser answers. Conditions: as told of less fuel. What dot, bound, index, list, result of the parser answers. Conditions: as told of less fuel. What target of the parser answers. Conditions: as told of less fuel. What loop of the parser answers. Conditions: as told of less fuel. What cond, elif, block, lines of the parser answers. Conditions: as told of less fuel. -/
import Derived.Test.YtpjjofdphlgeiaaGreatDoorVvbk
import Derived.Test.YtpjjofdphlgeiaaGreatDoorVvam
namespace Go.Proofs.YtpjjofdphlgeiaaGreatDoor
open Go.RowKit
open Lx Ax Px

set_option maxRecDepth 10000 in
set_option maxHeartbeats 6400000 in
theorem file_step {A : Nat → Addr} {B pb : Nat} {ts : List Tok} {tv : Value} {m : Nat} (H : ∀ j, j ≤ m → All A B pb ts tv j) : DoesN A B pb ts tv 19 #[ptr pb] .file (m + 1) := by
  intro W s vl vs r h hr hnr
  have HR := hid' hr
  have HP := hid' h
  have HS := hid' (Step.refl W.heap.size B pb W vl vs)
  have HLO := hid' h.lowB
  clear hr h
  rw [runF] at HR
  unfold bodyF at HR
  dsimp only at HR
  have hnot : ∀ (x : Bool) (w : World), (Op.unary .not (.bool x)).run Tryz.prog w = .ok (.bool (!x)) w := fun _ _ => rfl
  have hfk := tok_kind
  have hfp := tok_pos
  unfold ptr
  go_enter Tryz.func19, Tryz.ntmps19
  go_wp2_with fail
  go_loopg [2] m (fun gk u2 wr => ∃ (v : Value) (zs : List Int) (sr : PS) (vlr : Value) (vsr : List Value), gk ≤ m ∧ u2 = v ∧ zs.length < 900001 ∧ Hid (PV A B pb ts tv wr sr vlr vsr) ∧ Hid (Step W.heap.size B pb W vl vs wr vlr vsr) ∧ Hid (OwnZ wr B v zs) ∧ Hid (Off v vsr) ∧ Hid (∀ k, v.ownBlock = some k → W.heap.size ≤ k) ∧ Hid (R.bind (runF ts gk (.fileLoop zs) sr) (fun _ zs _ s => fileEnd zs s) = r))
  case atStart => exact ⟨.slice none 0 0, [], s, vl, vs, Nat.le_refl _, rfl, by simp, HP, HS, hid' (OwnZ.nil W B), hid' (off_nil _ 0 0), hid' (fun _ e => by simp [Value.ownBlock] at e), HR⟩
  case round =>
    obtain ⟨v, zs, sr, vlr, vsr, hgk, rfl, hzl, HPr, HSr, HOZ, HOFF, HV, HRr⟩ := hrel
    clear HP HS HR
    have HP := HPr
    have HS := HSr
    have HR := HRr
    clear HPr HSr HRr
    rcases gk with _ | j
    · exact absurd HR.out.symm hnr
    rw [runF] at HR
    unfold bodyF at HR
    try dsimp only at HR
    rw [kindF] at HR
    generalize ht1 : ts[PS.at_ sr]? = o1 at HR
    rcases o1 with _ | t1
    · exact absurd HR.out.symm hnr
    try dsimp only at HR
    go_wp2_with fail
    refine Calls.mono (p_token_any HP.out t1 ht1) ?_
    rintro e w2 ⟨rfl, b⟩
    have hp := HP.out.low b
    have hs := Step.low (n := wr.heap.size) HP.out b
    clear b
    have hoz := HOZ.out.step HP.out hs
    replace HOFF := hid' (HOFF.out.step hs (fun k hk => (World.ownsRow.lt HOZ.out k hk).2))
    replace HOZ := hid' hoz
    clear hoz
    replace HS := hid' (HS.out.then (Nat.le_refl _) hs)
    replace HP := hid' hp
    clear hp hs
    by_cases h8 : t1.kind = 8
    · rw [if_pos h8] at HR
      have q8 : ((t1.kind : Int) != 8) = false := by rw [h8]; rfl
      clear h8
      try dsimp only [R.bind] at HR
      rcases zs with _ | ⟨z, zr⟩
      · unfold fileEnd at HR
        try dsimp only at HR
        obtain ⟨ao0, cap0, rfl, _⟩ := own_form HOZ.out
        rw [addF] at HR
        by_cases hn3 : ¬ ((PS.nodes sr).length < 900000 ∧ (List.length ([] : List Int)) < 900000)
        · rw [if_neg hn3] at HR
          exact absurd HR.out.symm hnr
        rw [Decidable.not_not] at hn3
        rw [if_pos hn3] at HR
        go_wp2_with fail
        refine Calls.mono (add_none HP.out 38 0 ⟨#[]⟩ (by decide) hn3.1) ?_
        rintro e w3 ⟨rfl, vl3, vs3, hp, hs⟩
        have hoz := HOZ.out.step HP.out hs
        replace HOFF := hid' (HOFF.out.step hs (fun k hk => (World.ownsRow.lt HOZ.out k hk).2))
        replace HOZ := hid' hoz
        clear hoz
        replace HS := hid' (HS.out.then (Nat.le_refl _) hs)
        replace HP := hid' hp
        clear hp hs
        generalize hs3 : (PS.mk (PS.at_ sr) (PS.nodes sr ++ [⟨38, 0, 0, ⟨#[]⟩, []⟩]) (PS.deep sr)) = s3 at HP HR
        clear hs3
        generalize hzz : ((PS.nodes sr).length : Int) = zp at HR
        clear hzz
        go_wp2_with (at_builtin; refine num_plain HOZ.out zp 1 rfl HP.out.lowB (by simp) rfl (.tmp 16) (.tmp 19) (by rfl) (by rfl) (by rfl) ?_; intro g5 cap5 w5 q1 q2 q3 q4 q5; have HQ := hid' (row_push (m := 1) HP.out HS.out HOZ.out HOFF.out HV.out q2 q3 g5 cap5 q4); have HZ5 := hid' q1; clear q1 q2 q3 q4 q5)
        have HP9 := hid' HQ.out.1
        have HS9 := hid' HQ.out.2.1
        clear HP HS
        have HP := HP9
        have HS := HS9
        clear HP9 HS9
        go_wp2_with fail
        refine Calls.mono (addBlock_any HP.out _ zp [] HZ5.out HQ.out.2.2.1 _ HR.out hnr W.heap.size HQ.out.2.2.2) ?_
        rintro e we ⟨zb, sb, vle, vse, rfl, rfl, hp, hs⟩
        have HS2 := hid' (HS.out.trans hs)
        have HP2 := hid' hp
        clear hp hs
        go_wp2
        go_end0
        exact ⟨_, _, rfl, HP2.out, HS2.out⟩
      unfold fileEnd at HR
      try dsimp only at HR
      obtain ⟨ao0, cap0, rfl, _⟩ := own_form HOZ.out
      have hml : ((((z :: zr).length : Nat) : Int) == 0) = false := by simp only [List.length_cons]; simp; omega
      have HML := hid' (rfl : (z :: zr).length = (z :: zr).length)
      go_wp2_with fail
      refine Calls.mono (addBlock_any HP.out _ z zr HOZ.out HOFF.out _ HR.out hnr W.heap.size HV.out) ?_
      rintro e we ⟨zb, sb, vle, vse, rfl, rfl, hp, hs⟩
      have HS2 := hid' (HS.out.trans hs)
      have HP2 := hid' hp
      clear hp hs
      go_wp2
      go_end0
      exact ⟨_, _, rfl, HP2.out, HS2.out⟩
    rw [if_neg h8] at HR
    have q8 : ((t1.kind : Int) != 8) = true := by simp; omega
    clear h8
    go_wp2_with fail
    generalize hq4 : runF ts j (.statement ⟨false, false, false⟩) sr = r4 at HR
    rcases r4 with _ | ⟨l4, p4⟩ | ⟨z4, y4, c4, s4⟩
    · exact absurd HR.out.symm hnr
    · refine Calls.mono ((H j (by omega)).statement ⟨false, false, false⟩ _ _ _ _ _ HP.out hq4 (by simp)) ?_
      rintro e wb hp
      have HF := hid' (FaultP.of_below hp HS.out.below)
      obtain ⟨gb, rfl, _⟩ := hp
      obtain rfl : R.bad l4 p4 = r := HR.out
      go_wp2
      exact ⟨rfl, HF.out⟩
    refine Calls.mono ((H j (by omega)).statement ⟨false, false, false⟩ _ _ _ _ _ HP.out hq4 (by simp)) ?_
    rintro e w4 ⟨vl4, vs4, rfl, hp, hs⟩
    have hoz := HOZ.out.step HP.out hs
    replace HOFF := hid' (HOFF.out.step hs (fun k hk => (World.ownsRow.lt HOZ.out k hk).2))
    replace HOZ := hid' hoz
    clear hoz
    replace HS := hid' (HS.out.then (Nat.le_refl _) hs)
    replace HP := hid' hp
    clear hp hs
    rw [R.bind] at HR
    try dsimp only at HR
    clear hq4
    by_cases hzz : ¬ zs.length < 900000
    · rw [if_neg hzz] at HR
      exact absurd HR.out.symm hnr
    rw [Decidable.not_not] at hzz
    rw [if_pos hzz] at HR
    go_wp2_with (at_builtin; refine num_plain HOZ.out z4 (zs.length + 1) rfl HP.out.lowB (by omega) rfl (.tmp 7) (.tmp 11) (by rfl) (by rfl) (by rfl) ?_; intro g5 cap5 w5 q1 q2 q3 q4 q5; have HQ := hid' (row_push (m := (zs.length + 1)) HP.out HS.out HOZ.out HOFF.out HV.out q2 q3 g5 cap5 q4); have HZ5 := hid' q1; clear q1 q2 q3 q4 q5)
    go_wp2
    go_roundg j
    case measure => omega
    case rel => exact ⟨_, zs ++ [z4], s4, vl4, vs4, by omega, rfl, by rw [List.length_append, List.length_singleton]; omega, HQ.out.1, HQ.out.2.1, HZ5, HQ.out.2.2.1, HQ.out.2.2.2, HR⟩
end Go.Proofs.YtpjjofdphlgeiaaGreatDoor

namespace Go.Proofs.YtpjjofdphlgeiaaGreatDoor
open Go.RowKit
open Lx Ax Px

theorem add_lit_at {A : Nat → Addr} {B pb : Nat} {ts : List Tok} {tv : Value} {W : World} {s : PS} {vl : Value} {vs : List Value} (h : PV A B pb ts tv W s vl vs) (g : Nat) (hg : g = W.heap.size) (op pos : Int) (tx : ByteArray) (htx : tx.size ≤ 1000000) (zs : List Int) (hz : zs.length ≤ 1000) (arr : Array Value) (ha : arr = (nums zs).toArray) (k : Nat) (hk : k = zs.length) (hn : s.nodes.length < 900000) :
    Calls Tryz.prog 35 #[.pointer (some ⟨pb, 0, none⟩), .int .i64 op, .int .i64 pos, .string tx, .slice (some ⟨g, 0, none⟩) k k] (W.alloc (.cells arr 3)) fun e w' => e = .returned (.int .i64 (s.nodes.length : Int)) ∧
      ∃ vl' vs', PV A B pb ts tv w' { s with nodes := s.nodes ++ [⟨op, 0, pos, tx, zs⟩] } vl' vs' ∧ Step W.heap.size B pb W vl vs w' vl' vs' := by
  subst hg
  exact add_lit h op pos tx htx zs hz arr ha k hk hn

/-- An append of a list of the call's own to another one. -/
theorem zs_plain {ops : Array Oper} {rest : List Oper} {o : Oper} {a : Act} {Q : Exit → Act → World → Prop} {W : World} {B : Nat} {v u : Value} {xs ys : List Int} (h : OwnZ W B v xs) (hu : OwnZ W B u ys) (hpos : 0 < ys.length) (m : Nat) (hm : m = xs.length + ys.length) (hB : B ≤ W.heap.size) (hl : m < 1000000) (hgd : o.guard = none) (x y : Operand)
    (ho : o.op = .call { callee := .builtin .append, args := #[x, y], argTypes := #[30, 30] }) (hx : a.eval x = v) (hy : a.eval y = u)
    (hK : ∀ g cap w', OwnZ w' B (.slice (some ⟨g, 0, none⟩) m cap) (xs ++ ys) → Below B W w' → (∀ k, k < W.heap.size → v.ownBlock ≠ some k → w'.heap[k]? = W.heap[k]?) → ((some g = v.ownBlock) ∨ W.heap.size ≤ g) →
      wpList Tryz.prog ops Q rest (a.put o.dst (.slice (some ⟨g, 0, none⟩) m cap)) w') : wpList Tryz.prog ops Q (o :: rest) a W := by
  subst hm
  refine wpList_plain hgd fun K hKK => ?_
  obtain ⟨i0, hi, hz0, hz1, hz2⟩ := info_parts info_num
  obtain ⟨gu, cu, rfl, _, _, hgu, hcu⟩ := own_some hu hpos
  obtain ⟨v', w', hr, h1, h2, _, h4⟩ := run_append_own_at (P := Tryz.prog) W B 30 o.type 3 i0 _ 1 8 Tryz.underlying30 hi hz0 hz1 hz2 rfl (by decide) v xs.length (nums xs) h ⟨gu, 0, none⟩ ys.length cu (nums ys) (by simp [nums]) (fun j w hw => by
    rw [Go.WideShapes.add_plain, Nat.zero_add]
    exact hcu j w hw) (fun w hw => by simp only [nums, List.mem_map] at hw; obtain ⟨z, _, rfl⟩ := hw; rfl) (by unfold maxLen; omega) (by omega) hB
  have h1' : OwnZ w' B v' (xs ++ ys) := by unfold OwnZ nums; rw [List.length_append, List.map_append]; exact h1
  obtain ⟨g, cap, e, _⟩ := own_some h1' (by rw [List.length_append]; omega)
  subst e
  rw [List.length_append] at h1' hr h4
  unfold Oper.wp execOp
  simp only [ho, resolve, invoke, builtin, Sem.run_bind, Sem.run_pure, Result.andThen_ok, List.map_toArray, List.map_cons, List.map_nil, hx, hy, hr]
  refine hKK _ _ (hK g cap w' h1' ((Below.refl B W).grown h2 hB (fun k hk => (World.ownsRow.lt h k hk).1)) (fun k hk hne => h2.block k hk (Ne.symm hne)) ?_)
  rcases h4 with h4 | h4
  · exact .inl h4
  · exact .inr (by simp only [Value.ownBlock, Option.some.injEq] at h4; omega)
theorem row_push2 {A : Nat → Addr} {n B pb : Nat} {ts : List Tok} {tv : Value} {W0 W W5 : World} {s : PS} {vl0 vl v : Value} {vs0 vs : List Value} {xs : List Int} {m : Nat} (HP : PV A B pb ts tv W s vl vs) (HS : Step n B pb W0 vl0 vs0 W vl vs) (hz : OwnZ W B v xs) (hoff : Off v vs) (hv : ∀ k, v.ownBlock = some k → W0.heap.size ≤ k)
    (hb : Below B W W5) (far : ∀ k, k < W.heap.size → v.ownBlock ≠ some k → W5.heap[k]? = W.heap[k]?) (g cap : Nat) (hg : (some g = v.ownBlock) ∨ W.heap.size ≤ g) :
    PV A B pb ts tv W5 s vl vs ∧ Step n B pb W0 vl0 vs0 W5 vl vs ∧ Off (.slice (some ⟨g, 0, none⟩) m cap) vs ∧ ∀ k, (Value.slice (some ⟨g, 0, none⟩) m cap).ownBlock = some k → W0.heap.size ≤ k := by
  have hsz := HS.below.size
  refine ⟨⟨HP.row.far (far pb HP.lt (fun e => ne_kind hz HP.row (by decide) pb e rfl)), HP.tr.keep' (fun k e hk => far k hk (fun e2 => own_apart hz HP.tr.own (by decide) k e2 e)) (fun j u hu k e hk => far k hk (hoff j u hu k e)), HP.high, HP.toks.below hb, HP.few, HP.env.below hb⟩,
    ⟨HS.below.trans hb, fun k hk hp hne => (far k (Nat.lt_of_lt_of_le hk hsz) (fun e => by have := hv k e; omega)).trans (HS.far k hk hp hne), HS.blk, HS.kids⟩, fun j u hu k hk e => ?_, fun k hk => ?_⟩
  · simp only [Value.ownBlock, Option.some.injEq] at e
    subst e
    rcases hg with hg | hg
    · exact hoff j u hu g hk hg.symm
    · have hj : j < s.nodes.length := by rw [← HP.tr.len]; exact (List.getElem?_eq_some_iff.1 hu).1
      have := (World.ownsRow.lt (HP.tr.kid j _ u (List.getElem?_eq_getElem hj) hu) g hk).2
      omega
  · simp only [Value.ownBlock, Option.some.injEq] at hk
    subst hk
    rcases hg with hg | hg
    · exact hv g hg.symm
    · omega

set_option maxRecDepth 10000 in
set_option maxHeartbeats 12800000 in
theorem dot_step {A : Nat → Addr} {B pb : Nat} {ts : List Tok} {tv : Value} {m : Nat} (z : Int) (hts : ∀ t ∈ ts, (txt t.text).size ≤ 1000000) : Does A B pb ts tv 163 #[ptr pb, .int .i64 z] (.dot z) (m + 1) := by
  intro W s vl vs r h hr hnr
  have HR := hid' hr
  have HP := hid' h
  have HS := hid' (Step.refl W.heap.size B pb W vl vs)
  have HLO := hid' h.lowB
  clear hr h
  rw [runF] at HR
  unfold bodyF at HR
  dsimp only at HR
  have hnot : ∀ (x : Bool) (w : World), (Op.unary .not (.bool x)).run Tryz.prog w = .ok (.bool (!x)) w := fun _ _ => rfl
  have hfk := tok_kind
  have hfp := tok_pos
  have HTS := hid' hts
  clear hts
  unfold ptr
  go_enter Tryz.func163, Tryz.ntmps163
  rw [needF] at HR
  generalize ht1 : ts[PS.at_ s]? = o1 at HR
  rcases o1 with _ | t1
  · exact absurd HR.out.symm hnr
  try dsimp only at HR
  by_cases hl2 : ¬ sg t1 = [46]
  · rw [if_neg hl2] at HR
    go_wp2_with fail
    · refine Calls.mono (need_miss HP.out t1 ht1 [46] hl2) ?_
      rintro e wb hp
      have HF := hid' (FaultP.of_below hp HS.out.below)
      obtain ⟨gb, rfl, _⟩ := hp
      obtain rfl : R.bad false t1.pos = r := HR.out
      go_wp2
      exact ⟨rfl, HF.out⟩
  rw [Decidable.not_not] at hl2
  rw [if_pos hl2] at HR
  go_wp2_with fail
  refine Calls.mono (need_hit HP.out t1 ht1 [46] hl2) ?_
  rintro e w4 ⟨rfl, hp, hst⟩
  have hs := hst.step W.heap.size vl vs
  clear hst
  replace HS := hid' (HS.out.then (Nat.le_refl _) hs)
  replace HP := hid' hp
  clear hp hs
  generalize (PS.mk (PS.at_ s + 1) (PS.nodes s) (PS.deep s)) = s4 at HP HR
  rw [takeKF] at HR
  generalize ht5 : ts[PS.at_ s4]? = o5 at HR
  rcases o5 with _ | t5
  · exact absurd HR.out.symm hnr
  try dsimp only at HR
  by_cases hl6 : ¬ t5.kind = 1
  · rw [if_neg hl6] at HR
    go_wp2_with fail
    · refine Calls.mono (take_miss HP.out t5 ht5 1 hl6) ?_
      rintro e wb hp
      have HF := hid' (FaultP.of_below hp HS.out.below)
      obtain ⟨gb, rfl, _⟩ := hp
      obtain rfl : R.bad false t5.pos = r := HR.out
      go_wp2
      exact ⟨rfl, HF.out⟩
  rw [Decidable.not_not] at hl6
  rw [if_pos hl6] at HR
  go_wp2_with fail
  refine Calls.mono (take_hit HP.out t5 ht5 1 hl6) ?_
  rintro e w8 ⟨rfl, hp, hst⟩
  have hs := hst.step w4.heap.size vl vs
  clear hst
  replace HS := hid' (HS.out.then (Nat.le_refl _) hs)
  replace HP := hid' hp
  clear hp hs
  generalize (PS.mk (PS.at_ s4 + 1) (PS.nodes s4) (PS.deep s4)) = s8 at HP HR
  clear hl6
  replace HS := hid' (HS.out.alloc (.cells #[.int .i64 (t5.kind : Int), .string (txt t5.text), .int .i64 (t5.pos : Int)] 71) HLO.out)
  replace HP := hid' (HP.out.alloc (.cells #[.int .i64 (t5.kind : Int), .string (txt t5.text), .int .i64 (t5.pos : Int)] 71))
  rw [addF] at HR
  by_cases hn9 : ¬ ((PS.nodes s8).length < 900000 ∧ (List.length ([z] : List Int)) < 900000)
  · rw [if_neg hn9] at HR
    exact absurd HR.out.symm hnr
  rw [Decidable.not_not] at hn9
  rw [if_pos hn9] at HR
  go_wp2_with fail
  refine Calls.mono (add_lit_at HP.out _ ?_ 12 _ (txt t5.text) (HTS.out _ (List.mem_of_getElem? ht5)) [z] (by simp) _ rfl _ rfl hn9.1) ?_
  · simp
  rintro e w9 ⟨rfl, vl9, vs9, hp, hs⟩
  replace HS := hid' (HS.out.then (Nat.le_refl _) hs)
  replace HP := hid' hp
  clear hp hs
  generalize hs9 : (PS.mk (PS.at_ s8) (PS.nodes s8 ++ [⟨12, 0, _, (txt t5.text), [z]⟩]) (PS.deep s8)) = s9 at HP HR
  clear hs9
  obtain rfl := HR.out
  go_wp2
  go_returns
  exact ⟨_, _, rfl, HP.out, HS.out⟩

set_option maxRecDepth 10000 in
set_option maxHeartbeats 1600000 in
theorem bound_step {A : Nat → Addr} {B pb : Nat} {ts : List Tok} {tv : Value} {m : Nat} (k : Nat) (sg0 : List UInt8) (hsg : (if k = 0 then ([58] : List UInt8) else [93]) = sg0) (H : All A B pb ts tv m) : Does A B pb ts tv 179 #[ptr pb, .string (txt sg0)] (.bound k) (m + 1) := by
  intro W s vl vs r h hr hnr
  have HR := hid' hr
  have HP := hid' h
  have HS := hid' (Step.refl W.heap.size B pb W vl vs)
  have HLO := hid' h.lowB
  clear hr h
  rw [runF] at HR
  unfold bodyF at HR
  dsimp only at HR
  have hnot : ∀ (x : Bool) (w : World), (Op.unary .not (.bool x)).run Tryz.prog w = .ok (.bool (!x)) w := fun _ _ => rfl
  have hfk := tok_kind
  have hfp := tok_pos
  rw [hsg] at HR
  unfold ptr
  go_enter Tryz.func179, Tryz.ntmps179
  rw [Px.signF] at HR
  generalize ht1 : ts[PS.at_ s]? = o1 at HR
  rcases o1 with _ | t1
  · exact absurd HR.out.symm hnr
  try dsimp only at HR
  go_wp2_with fail
  refine Calls.mono (sees_any HP.out t1 ht1 sg0) ?_
  rintro e w2 ⟨rfl, b⟩
  have hp := HP.out.low b
  have hs := Step.low (n := W.heap.size) HP.out b
  clear b
  replace HS := hid' (HS.out.then (Nat.le_refl _) hs)
  replace HP := hid' hp
  clear hp hs
  by_cases hl : sg t1 = sg0
  · rw [if_pos hl] at HR
    rw [decide_eq_true hl]
    rw [nextF] at HR
    rw [ht1] at HR
    try dsimp only at HR
    go_wp2_with fail
    refine Calls.mono (p_token_any HP.out t1 ht1) ?_
    rintro e w3 ⟨rfl, b⟩
    have hp := HP.out.low b
    have hs := Step.low (n := w2.heap.size) HP.out b
    clear b
    replace HS := hid' (HS.out.then (Nat.le_refl _) hs)
    replace HP := hid' hp
    clear hp hs
    rw [addF] at HR
    by_cases hn4 : ¬ ((PS.nodes s).length < 900000 ∧ (List.length ([] : List Int)) < 900000)
    · rw [if_neg hn4] at HR
      exact absurd HR.out.symm hnr
    rw [Decidable.not_not] at hn4
    rw [if_pos hn4] at HR
    go_wp2_with fail
    refine Calls.mono (add_none HP.out 15 _ ⟨#[]⟩ (by decide) hn4.1) ?_
    rintro e w4 ⟨rfl, vl4, vs4, hp, hs⟩
    replace HS := hid' (HS.out.then (Nat.le_refl _) hs)
    replace HP := hid' hp
    clear hp hs
    generalize hs4 : (PS.mk (PS.at_ s) (PS.nodes s ++ [⟨15, 0, _, ⟨#[]⟩, []⟩]) (PS.deep s)) = s4 at HP HR
    clear hs4
    obtain rfl := HR.out
    go_wp2
    go_returns
    exact ⟨_, _, rfl, HP.out, HS.out⟩
  rw [if_neg hl] at HR
  rw [decide_eq_false hl]
  go_wp2_with fail
  refine Calls.mono (H.test _ _ _ _ _ HP.out HR.out hnr) ?_
  rintro e we hp
  clear HR
  rcases r with _ | ⟨lr, pr⟩ | ⟨zr, yr, cr, sr⟩
  · exact hp.elim
  · have HF := hid' (FaultP.of_below hp HS.out.below)
    obtain ⟨gb, rfl, _⟩ := hp
    go_wp2
    exact ⟨rfl, HF.out⟩
  obtain ⟨vle, vse, rfl, hp, hs⟩ := hp
  have HQ := hid' (HS.out.then (Nat.le_refl _) hs)
  have HP2 := hid' hp
  clear hp hs
  go_wp2
  go_returns
  exact ⟨_, _, rfl, HP2.out, HQ.out⟩

set_option maxRecDepth 10000 in
set_option maxHeartbeats 3200000 in
theorem index_step {A : Nat → Addr} {B pb : Nat} {ts : List Tok} {tv : Value} {m : Nat} (z : Int) (H : All A B pb ts tv m) : Does A B pb ts tv 165 #[ptr pb, .int .i64 z] (.index z) (m + 1) := by
  intro W s vl vs r h hr hnr
  have HR := hid' hr
  have HP := hid' h
  have HS := hid' (Step.refl W.heap.size B pb W vl vs)
  have HLO := hid' h.lowB
  clear hr h
  rw [runF] at HR
  unfold bodyF at HR
  dsimp only at HR
  have hnot : ∀ (x : Bool) (w : World), (Op.unary .not (.bool x)).run Tryz.prog w = .ok (.bool (!x)) w := fun _ _ => rfl
  have hfk := tok_kind
  have hfp := tok_pos
  unfold ptr
  go_enter Tryz.func165, Tryz.ntmps165
  rw [enterF, needF] at HR
  generalize ht1 : ts[PS.at_ s]? = o1 at HR
  rcases o1 with _ | t1
  · exact absurd HR.out.symm hnr
  try dsimp only at HR
  by_cases hl2 : ¬ sg t1 = [91]
  · rw [if_neg hl2] at HR
    go_wp2_with fail
    · refine Calls.mono (enter_miss HP.out t1 ht1 [91] hl2) ?_
      rintro e wb hp
      have HF := hid' (FaultP.of_below hp HS.out.below)
      obtain ⟨gb, rfl, _⟩ := hp
      obtain rfl : R.bad false t1.pos = r := HR.out
      go_wp2
      exact ⟨rfl, HF.out⟩
  rw [Decidable.not_not] at hl2
  rw [if_pos hl2] at HR
  try dsimp only at HR
  by_cases hd4 : PS.deep s = 60
  · rw [if_pos hd4] at HR
    go_wp2_with fail
    · refine Calls.mono (enter_deep HP.out t1 ht1 [91] hl2 hd4) ?_
      rintro e wb hp
      have HF := hid' (FaultP.of_below hp HS.out.below)
      obtain ⟨gb, rfl, _⟩ := hp
      obtain rfl : R.bad true t1.pos = r := HR.out
      go_wp2
      exact ⟨rfl, HF.out⟩
  rw [if_neg hd4] at HR
  go_wp2_with fail
  refine Calls.mono (enter_hit HP.out t1 ht1 [91] hl2 hd4) ?_
  rintro e w6 ⟨rfl, hp, hst⟩
  have hs := hst.step W.heap.size vl vs
  clear hst
  replace HS := hid' (HS.out.then (Nat.le_refl _) hs)
  replace HP := hid' hp
  clear hp hs
  generalize (PS.mk (PS.at_ s + 1) (PS.nodes s) (PS.deep s + 1)) = s6 at HP HR
  go_wp2_with fail
  generalize hq7 : runF ts m (.bound 0) s6 = r7 at HR
  rcases r7 with _ | ⟨l7, p7⟩ | ⟨z7, y7, c7, s7⟩
  · exact absurd HR.out.symm hnr
  · refine Calls.mono (H.bound0 _ _ _ _ _ HP.out hq7 (by simp)) ?_
    rintro e wb hp
    have HF := hid' (FaultP.of_below hp HS.out.below)
    obtain ⟨gb, rfl, _⟩ := hp
    obtain rfl : R.bad l7 p7 = r := HR.out
    go_wp2
    exact ⟨rfl, HF.out⟩
  refine Calls.mono (H.bound0 _ _ _ _ _ HP.out hq7 (by simp)) ?_
  rintro e w7 ⟨vl7, vs7, rfl, hp, hs⟩
  have hle7 := HS.out.below.size
  replace HS := hid' (HS.out.then (Nat.le_refl _) hs)
  replace HP := hid' hp
  clear hp hs
  dsimp only [R.bind] at HR
  clear hq7
  have hol := own_new w7 B HP.out.lowB [z, z7] (by simp) #[.int .i64 z, .int .i64 z7] rfl 2 rfl
  have hle := HS.out.below.size
  have HV := hid' (fun k hk => Nat.le_trans hle (hol.2 k hk) : ∀ k, _ → W.heap.size ≤ k)
  have HOFF := hid' (Off.new HP.out hol.2)
  have HOZ := hid' hol.1
  clear hol hle
  replace HS := hid' (HS.out.alloc (.cells #[.int .i64 z, .int .i64 z7] 3) HLO.out)
  replace HP := hid' (HP.out.alloc (.cells #[.int .i64 z, .int .i64 z7] 3))
  rw [Px.signF] at HR
  generalize ht9 : ts[PS.at_ s7]? = o9 at HR
  rcases o9 with _ | t9
  · exact absurd HR.out.symm hnr
  try dsimp only at HR
  have HSK := hid' (skip_any HP.out t9 ht9 [58])
  by_cases hl : sg t9 = [58]
  · rw [if_pos hl] at HR
    rw [decide_eq_true hl, if_pos hl] at HSK
    go_wp2_with fail
    refine Calls.mono (HSK.out) ?_
    rintro e w10 ⟨rfl, hp, hst⟩
    have hs := hst.step (w7.alloc (.cells #[.int .i64 z, .int .i64 z7] 3)).heap.size vl7 vs7
    clear hst
    have hoz := HOZ.out.step HP.out hs
    replace HOFF := hid' (HOFF.out.step hs (fun k hk => (World.ownsRow.lt HOZ.out k hk).2))
    replace HOZ := hid' hoz
    clear hoz
    replace HS := hid' (HS.out.then (Nat.le_refl _) hs)
    replace HP := hid' hp
    clear hp hs
    generalize (PS.mk (PS.at_ s7 + 1) (PS.nodes s7) (PS.deep s7)) = s10 at HP HR
    go_wp2_with fail
    generalize hq11 : runF ts m (.bound 1) s10 = r11 at HR
    rcases r11 with _ | ⟨l11, p11⟩ | ⟨z11, y11, c11, s11⟩
    · exact absurd HR.out.symm hnr
    · refine Calls.mono (H.bound1 _ _ _ _ _ HP.out hq11 (by simp)) ?_
      rintro e wb hp
      have HF := hid' (FaultP.of_below hp HS.out.below)
      obtain ⟨gb, rfl, _⟩ := hp
      obtain rfl : R.bad l11 p11 = r := HR.out
      go_wp2
      exact ⟨rfl, HF.out⟩
    refine Calls.mono (H.bound1 _ _ _ _ _ HP.out hq11 (by simp)) ?_
    rintro e w11 ⟨vl11, vs11, rfl, hp, hs⟩
    have hle11 := HS.out.below.size
    have hoz := HOZ.out.step HP.out hs
    replace HOFF := hid' (HOFF.out.step hs (fun k hk => (World.ownsRow.lt HOZ.out k hk).2))
    replace HOZ := hid' hoz
    clear hoz
    replace HS := hid' (HS.out.then (Nat.le_refl _) hs)
    replace HP := hid' hp
    clear hp hs
    dsimp only [R.bind] at HR
    clear hq11
    go_wp2_with (at_builtin; refine num_plain HOZ.out z11 3 rfl HP.out.lowB (by simp) rfl (.tmp 16) (.tmp 19) (by rfl) (by rfl) (by rfl) ?_; intro g5 cap5 w5 q1 q2 q3 q4 q5; have HQ := hid' (row_push (m := 3) HP.out HS.out HOZ.out HOFF.out HV.out q2 q3 g5 cap5 q4); have HZ5 := hid' q1; clear q1 q2 q3 q4 q5)
    have HP9 := hid' HQ.out.1
    have HS9 := hid' HQ.out.2.1
    have HF9 := hid' HQ.out.2.2.1
    have HV9 := hid' HQ.out.2.2.2
    clear HP HS HOZ HOFF HV HQ
    have HP := HP9
    have HS := HS9
    have HOZ := HZ5
    have HOFF := HF9
    have HV := HV9
    clear HP9 HS9 HF9 HV9 HZ5
    rw [shutF] at HR
    rw [needF] at HR
    generalize ht13 : ts[PS.at_ s11]? = o13 at HR
    rcases o13 with _ | t13
    · exact absurd HR.out.symm hnr
    try dsimp only at HR
    by_cases hl14 : ¬ sg t13 = [93]
    · rw [if_neg hl14] at HR
      go_wp2_with fail
      · refine Calls.mono (shut_miss HP.out t13 ht13 [93] hl14) ?_
        rintro e wb hp
        have HF := hid' (FaultP.of_below hp HS.out.below)
        obtain ⟨gb, rfl, _⟩ := hp
        obtain rfl : R.bad false t13.pos = r := HR.out
        go_wp2
        exact ⟨rfl, HF.out⟩
    rw [Decidable.not_not] at hl14
    rw [if_pos hl14, leaveF] at HR
    try dsimp only at HR
    by_cases hd15 : PS.deep s11 = 0
    · rw [if_pos hd15] at HR
      exact absurd HR.out.symm hnr
    rw [if_neg hd15] at HR
    go_wp2_with fail
    refine Calls.mono (shut_hit HP.out t13 ht13 [93] hl14 hd15) ?_
    rintro e w17 ⟨rfl, hp, hst⟩
    have hs := hst.step w5.heap.size vl11 vs11
    clear hst
    have hoz := HOZ.out.step HP.out hs
    replace HOFF := hid' (HOFF.out.step hs (fun k hk => (World.ownsRow.lt HOZ.out k hk).2))
    replace HOZ := hid' hoz
    clear hoz
    replace HS := hid' (HS.out.then (Nat.le_refl _) hs)
    replace HP := hid' hp
    clear hp hs
    generalize (PS.mk (PS.at_ s11 + 1) (PS.nodes s11) (PS.deep s11 - 1)) = s17 at HP HR
    have HVW := HV
    rw [addF] at HR
    by_cases hn18 : ¬ ((PS.nodes s17).length < 900000 ∧ (List.length ([z, z7, z11] : List Int)) < 900000)
    · rw [if_neg hn18] at HR
      exact absurd HR.out.symm hnr
    rw [Decidable.not_not] at hn18
    rw [if_pos hn18] at HR
    go_wp2_with fail
    refine Calls.mono (p_add_any HP.out 14 _ ⟨#[]⟩ (by decide) _ ([z, z7, z11]) HOZ.out HOFF.out hn18.1 hn18.2 (n := W.heap.size) HVW.out) ?_
    rintro e w18 ⟨rfl, vl18, vs18, hp, hs⟩
    replace HS := hid' (HS.out.trans hs)
    replace HP := hid' hp
    clear hp hs
    obtain rfl := HR.out
    go_wp2
    go_returns
    exact ⟨_, _, rfl, HP.out, HS.out⟩
  rw [if_neg hl] at HR
  rw [decide_eq_false hl, if_neg hl] at HSK
  go_wp2_with fail
  refine Calls.mono (HSK.out) ?_
  rintro e w19 ⟨rfl, hp, hst⟩
  have hs := hst.step (w7.alloc (.cells #[.int .i64 z, .int .i64 z7] 3)).heap.size vl7 vs7
  clear hst
  have hoz := HOZ.out.step HP.out hs
  replace HOFF := hid' (HOFF.out.step hs (fun k hk => (World.ownsRow.lt HOZ.out k hk).2))
  replace HOZ := hid' hoz
  clear hoz
  replace HS := hid' (HS.out.then (Nat.le_refl _) hs)
  replace HP := hid' hp
  clear hp hs
  rw [shutF] at HR
  rw [needF] at HR
  generalize ht20 : ts[PS.at_ s7]? = o20 at HR
  rcases o20 with _ | t20
  · exact absurd HR.out.symm hnr
  try dsimp only at HR
  by_cases hl21 : ¬ sg t20 = [93]
  · rw [if_neg hl21] at HR
    go_wp2_with fail
    · refine Calls.mono (shut_miss HP.out t20 ht20 [93] hl21) ?_
      rintro e wb hp
      have HF := hid' (FaultP.of_below hp HS.out.below)
      obtain ⟨gb, rfl, _⟩ := hp
      obtain rfl : R.bad false t20.pos = r := HR.out
      go_wp2
      exact ⟨rfl, HF.out⟩
  rw [Decidable.not_not] at hl21
  rw [if_pos hl21, leaveF] at HR
  try dsimp only at HR
  by_cases hd22 : PS.deep s7 = 0
  · rw [if_pos hd22] at HR
    exact absurd HR.out.symm hnr
  rw [if_neg hd22] at HR
  go_wp2_with fail
  refine Calls.mono (shut_hit HP.out t20 ht20 [93] hl21 hd22) ?_
  rintro e w24 ⟨rfl, hp, hst⟩
  have hs := hst.step w19.heap.size vl7 vs7
  clear hst
  have hoz := HOZ.out.step HP.out hs
  replace HOFF := hid' (HOFF.out.step hs (fun k hk => (World.ownsRow.lt HOZ.out k hk).2))
  replace HOZ := hid' hoz
  clear hoz
  replace HS := hid' (HS.out.then (Nat.le_refl _) hs)
  replace HP := hid' hp
  clear hp hs
  generalize (PS.mk (PS.at_ s7 + 1) (PS.nodes s7) (PS.deep s7 - 1)) = s24 at HP HR
  have HVW := HV
  rw [addF] at HR
  by_cases hn25 : ¬ ((PS.nodes s24).length < 900000 ∧ (List.length ([z, z7] : List Int)) < 900000)
  · rw [if_neg hn25] at HR
    exact absurd HR.out.symm hnr
  rw [Decidable.not_not] at hn25
  rw [if_pos hn25] at HR
  go_wp2_with fail
  refine Calls.mono (p_add_any HP.out 13 _ ⟨#[]⟩ (by decide) _ ([z, z7]) HOZ.out HOFF.out hn25.1 hn25.2 (n := W.heap.size) HVW.out) ?_
  rintro e w25 ⟨rfl, vl25, vs25, hp, hs⟩
  replace HS := hid' (HS.out.trans hs)
  replace HP := hid' hp
  clear hp hs
  obtain rfl := HR.out
  go_wp2
  go_returns
  exact ⟨_, _, rfl, HP.out, HS.out⟩

set_option maxRecDepth 10000 in
set_option maxHeartbeats 3200000 in
theorem list_step {A : Nat → Addr} {B pb : Nat} {ts : List Tok} {tv : Value} {m : Nat} (H : All A B pb ts tv m) : Does A B pb ts tv 175 #[ptr pb] .list (m + 1) := by
  intro W s vl vs r h hr hnr
  have HR := hid' hr
  have HP := hid' h
  have HS := hid' (Step.refl W.heap.size B pb W vl vs)
  have HLO := hid' h.lowB
  clear hr h
  rw [runF] at HR
  unfold bodyF at HR
  dsimp only at HR
  have hnot : ∀ (x : Bool) (w : World), (Op.unary .not (.bool x)).run Tryz.prog w = .ok (.bool (!x)) w := fun _ _ => rfl
  have hfk := tok_kind
  have hfp := tok_pos
  unfold ptr
  go_enter Tryz.func175, Tryz.ntmps175
  rw [enterF, needF] at HR
  generalize ht1 : ts[PS.at_ s]? = o1 at HR
  rcases o1 with _ | t1
  · exact absurd HR.out.symm hnr
  try dsimp only at HR
  by_cases hl2 : ¬ sg t1 = [91]
  · rw [if_neg hl2] at HR
    go_wp2_with fail
    · refine Calls.mono (enter_miss HP.out t1 ht1 [91] hl2) ?_
      rintro e wb hp
      have HF := hid' (FaultP.of_below hp HS.out.below)
      obtain ⟨gb, rfl, _⟩ := hp
      obtain rfl : R.bad false t1.pos = r := HR.out
      go_wp2
      exact ⟨rfl, HF.out⟩
  rw [Decidable.not_not] at hl2
  rw [if_pos hl2] at HR
  try dsimp only at HR
  by_cases hd4 : PS.deep s = 60
  · rw [if_pos hd4] at HR
    go_wp2_with fail
    · refine Calls.mono (enter_deep HP.out t1 ht1 [91] hl2 hd4) ?_
      rintro e wb hp
      have HF := hid' (FaultP.of_below hp HS.out.below)
      obtain ⟨gb, rfl, _⟩ := hp
      obtain rfl : R.bad true t1.pos = r := HR.out
      go_wp2
      exact ⟨rfl, HF.out⟩
  rw [if_neg hd4] at HR
  go_wp2_with fail
  refine Calls.mono (enter_hit HP.out t1 ht1 [91] hl2 hd4) ?_
  rintro e w6 ⟨rfl, hp, hst⟩
  have hs := hst.step W.heap.size vl vs
  clear hst
  replace HS := hid' (HS.out.then (Nat.le_refl _) hs)
  replace HP := hid' hp
  clear hp hs
  generalize (PS.mk (PS.at_ s + 1) (PS.nodes s) (PS.deep s + 1)) = s6 at HP HR
  go_wp2_with fail
  generalize hq7 : runF ts m .orNone s6 = r7 at HR
  rcases r7 with _ | ⟨l7, p7⟩ | ⟨z7, y7, c7, s7⟩
  · exact absurd HR.out.symm hnr
  · refine Calls.mono (H.orNone _ _ _ _ _ HP.out hq7 (by simp)) ?_
    rintro e wb hp
    have HF := hid' (FaultP.of_below hp HS.out.below)
    obtain ⟨gb, rfl, _⟩ := hp
    obtain rfl : R.bad l7 p7 = r := HR.out
    go_wp2
    exact ⟨rfl, HF.out⟩
  refine Calls.mono (H.orNone _ _ _ _ _ HP.out hq7 (by simp)) ?_
  rintro e w7 ⟨v7, vl7, vs7, rfl, hp, hs, ho, hv, hf⟩
  have HOZ := hid' ho
  have HV := hid' hv
  have HOFF := hid' hf
  clear ho hv hf
  have hle7 := HS.out.below.size
  replace HS := hid' (HS.out.then (Nat.le_refl _) hs)
  replace HP := hid' hp
  clear hp hs
  dsimp only [R.bind] at HR
  clear hq7
  have HV9 := hid' (fun k hk => Nat.le_trans hle7 (HV.out k hk) : ∀ k, _ → W.heap.size ≤ k)
  clear HV
  have HV := HV9
  clear HV9
  cases c7 with
  | true =>
    rw [if_pos rfl, shutF] at HR
    rw [needF] at HR
    generalize ht9 : ts[PS.at_ s7]? = o9 at HR
    rcases o9 with _ | t9
    · exact absurd HR.out.symm hnr
    try dsimp only at HR
    by_cases hl10 : ¬ sg t9 = [93]
    · rw [if_neg hl10] at HR
      go_wp2_with fail
      · refine Calls.mono (shut_miss HP.out t9 ht9 [93] hl10) ?_
        rintro e wb hp
        have HF := hid' (FaultP.of_below hp HS.out.below)
        obtain ⟨gb, rfl, _⟩ := hp
        obtain rfl : R.bad false t9.pos = r := HR.out
        go_wp2
        exact ⟨rfl, HF.out⟩
    rw [Decidable.not_not] at hl10
    rw [if_pos hl10, leaveF] at HR
    try dsimp only at HR
    by_cases hd11 : PS.deep s7 = 0
    · rw [if_pos hd11] at HR
      exact absurd HR.out.symm hnr
    rw [if_neg hd11] at HR
    go_wp2_with fail
    refine Calls.mono (shut_hit HP.out t9 ht9 [93] hl10 hd11) ?_
    rintro e w13 ⟨rfl, hp, hst⟩
    have hs := hst.step w7.heap.size vl7 vs7
    clear hst
    have hoz := HOZ.out.step HP.out hs
    replace HOFF := hid' (HOFF.out.step hs (fun k hk => (World.ownsRow.lt HOZ.out k hk).2))
    replace HOZ := hid' hoz
    clear hoz
    replace HS := hid' (HS.out.then (Nat.le_refl _) hs)
    replace HP := hid' hp
    clear hp hs
    generalize (PS.mk (PS.at_ s7 + 1) (PS.nodes s7) (PS.deep s7 - 1)) = s13 at HP HR
    have HVW := HV
    rw [addF] at HR
    by_cases hn14 : ¬ ((PS.nodes s13).length < 900000 ∧ (List.length (y7 : List Int)) < 900000)
    · rw [if_neg hn14] at HR
      exact absurd HR.out.symm hnr
    rw [Decidable.not_not] at hn14
    rw [if_pos hn14] at HR
    go_wp2_with fail
    refine Calls.mono (p_add_any HP.out 7 _ ⟨#[]⟩ (by decide) _ (y7) HOZ.out HOFF.out hn14.1 hn14.2 (n := W.heap.size) HVW.out) ?_
    rintro e w14 ⟨rfl, vl14, vs14, hp, hs⟩
    replace HS := hid' (HS.out.trans hs)
    replace HP := hid' hp
    clear hp hs
    obtain rfl := HR.out
    go_wp2
    go_returns
    exact ⟨_, _, rfl, HP.out, HS.out⟩
  | false =>
    rw [if_neg (by simp)] at HR
    rw [Px.signF] at HR
    generalize ht15 : ts[PS.at_ s7]? = o15 at HR
    rcases o15 with _ | t15
    · exact absurd HR.out.symm hnr
    try dsimp only at HR
    go_wp2_with fail
    refine Calls.mono (sees_any HP.out t15 ht15 sFor) ?_
    rintro e w16 ⟨rfl, b⟩
    have hp := HP.out.low b
    have hs := Step.low (n := w7.heap.size) HP.out b
    clear b
    have hoz := HOZ.out.step HP.out hs
    replace HOFF := hid' (HOFF.out.step hs (fun k hk => (World.ownsRow.lt HOZ.out k hk).2))
    replace HOZ := hid' hoz
    clear hoz
    replace HS := hid' (HS.out.then (Nat.le_refl _) hs)
    replace HP := hid' hp
    clear hp hs
    by_cases hl : sg t15 = sFor
    · rw [if_pos hl] at HR
      rw [decide_eq_true hl]
      go_wp2_with fail
      generalize hq17 : runF ts m .rounds s7 = r17 at HR
      rcases r17 with _ | ⟨l17, p17⟩ | ⟨z17, y17, c17, s17⟩
      · exact absurd HR.out.symm hnr
      · refine Calls.mono (H.rounds _ _ _ _ _ HP.out hq17 (by simp)) ?_
        rintro e wb hp
        have HF := hid' (FaultP.of_below hp HS.out.below)
        obtain ⟨gb, rfl, _⟩ := hp
        obtain rfl : R.bad l17 p17 = r := HR.out
        go_wp2
        exact ⟨rfl, HF.out⟩
      refine Calls.mono (H.rounds _ _ _ _ _ HP.out hq17 (by simp)) ?_
      rintro e w17 ⟨v17, vl17, vs17, rfl, hp, hs, ho, hv, hf⟩
      have HOU := hid' ho
      clear ho hv hf
      have hoz := HOZ.out.step HP.out hs
      replace HOFF := hid' (HOFF.out.step hs (fun k hk => (World.ownsRow.lt HOZ.out k hk).2))
      replace HOZ := hid' hoz
      clear hoz
      replace HS := hid' (HS.out.then (Nat.le_refl _) hs)
      replace HP := hid' hp
      clear hp hs
      try dsimp only [R.bind] at HR
      clear hq17
      rcases y17 with _ | ⟨r0, rr⟩
      · exact absurd HR.out.symm hnr
      try dsimp only at HR
      by_cases hrl : ¬ y7.length + (r0 :: rr).length < 900000
      · rw [if_neg hrl] at HR
        exact absurd HR.out.symm hnr
      rw [Decidable.not_not] at hrl
      rw [if_pos hrl] at HR
      go_wp2_with (at_builtin; refine zs_plain HOZ.out HOU.out (by simp) (y7.length + (r0 :: rr).length) rfl HP.out.lowB (by omega) rfl (.tmp 20) (.tmp 22) (by rfl) (by rfl) (by rfl) ?_; intro g5 cap5 w5 q1 q2 q3 q4; have HQ := hid' (row_push2 (m := y7.length + (r0 :: rr).length) HP.out HS.out HOZ.out HOFF.out HV.out q2 q3 g5 cap5 q4); have HZ5 := hid' q1; clear q1 q2 q3 q4)
      have HP9 := hid' HQ.out.1
      have HS9 := hid' HQ.out.2.1
      have HF9 := hid' HQ.out.2.2.1
      have HV9 := hid' HQ.out.2.2.2
      clear HP HS HOZ HOU HOFF HV HQ
      have HP := HP9
      have HS := HS9
      have HOZ := HZ5
      have HOFF := HF9
      have HV := HV9
      clear HP9 HS9 HF9 HV9 HZ5
      rw [shutF] at HR
      rw [needF] at HR
      generalize ht19 : ts[PS.at_ s17]? = o19 at HR
      rcases o19 with _ | t19
      · exact absurd HR.out.symm hnr
      try dsimp only at HR
      by_cases hl20 : ¬ sg t19 = [93]
      · rw [if_neg hl20] at HR
        go_wp2_with fail
        · refine Calls.mono (shut_miss HP.out t19 ht19 [93] hl20) ?_
          rintro e wb hp
          have HF := hid' (FaultP.of_below hp HS.out.below)
          obtain ⟨gb, rfl, _⟩ := hp
          obtain rfl : R.bad false t19.pos = r := HR.out
          go_wp2
          exact ⟨rfl, HF.out⟩
      rw [Decidable.not_not] at hl20
      rw [if_pos hl20, leaveF] at HR
      try dsimp only at HR
      by_cases hd21 : PS.deep s17 = 0
      · rw [if_pos hd21] at HR
        exact absurd HR.out.symm hnr
      rw [if_neg hd21] at HR
      go_wp2_with fail
      refine Calls.mono (shut_hit HP.out t19 ht19 [93] hl20 hd21) ?_
      rintro e w23 ⟨rfl, hp, hst⟩
      have hs := hst.step w5.heap.size vl17 vs17
      clear hst
      have hoz := HOZ.out.step HP.out hs
      replace HOFF := hid' (HOFF.out.step hs (fun k hk => (World.ownsRow.lt HOZ.out k hk).2))
      replace HOZ := hid' hoz
      clear hoz
      replace HS := hid' (HS.out.then (Nat.le_refl _) hs)
      replace HP := hid' hp
      clear hp hs
      generalize (PS.mk (PS.at_ s17 + 1) (PS.nodes s17) (PS.deep s17 - 1)) = s23 at HP HR
      have HVW := HV
      rw [addF] at HR
      by_cases hn24 : ¬ ((PS.nodes s23).length < 900000 ∧ (List.length (y7 ++ (r0 :: rr) : List Int)) < 900000)
      · rw [if_neg hn24] at HR
        exact absurd HR.out.symm hnr
      rw [Decidable.not_not] at hn24
      rw [if_pos hn24] at HR
      go_wp2_with fail
      refine Calls.mono (p_add_any HP.out 34 _ ⟨#[]⟩ (by decide) _ (y7 ++ (r0 :: rr)) HOZ.out HOFF.out hn24.1 hn24.2 (n := W.heap.size) HVW.out) ?_
      rintro e w24 ⟨rfl, vl24, vs24, hp, hs⟩
      replace HS := hid' (HS.out.trans hs)
      replace HP := hid' hp
      clear hp hs
      obtain rfl := HR.out
      go_wp2
      go_returns
      exact ⟨_, _, rfl, HP.out, HS.out⟩
    rw [if_neg hl] at HR
    rw [decide_eq_false hl]
    rw [shutF] at HR
    rw [needF] at HR
    generalize ht25 : ts[PS.at_ s7]? = o25 at HR
    rcases o25 with _ | t25
    · exact absurd HR.out.symm hnr
    try dsimp only at HR
    by_cases hl26 : ¬ sg t25 = [93]
    · rw [if_neg hl26] at HR
      go_wp2_with fail
      · refine Calls.mono (shut_miss HP.out t25 ht25 [93] hl26) ?_
        rintro e wb hp
        have HF := hid' (FaultP.of_below hp HS.out.below)
        obtain ⟨gb, rfl, _⟩ := hp
        obtain rfl : R.bad false t25.pos = r := HR.out
        go_wp2
        exact ⟨rfl, HF.out⟩
    rw [Decidable.not_not] at hl26
    rw [if_pos hl26, leaveF] at HR
    try dsimp only at HR
    by_cases hd27 : PS.deep s7 = 0
    · rw [if_pos hd27] at HR
      exact absurd HR.out.symm hnr
    rw [if_neg hd27] at HR
    go_wp2_with fail
    refine Calls.mono (shut_hit HP.out t25 ht25 [93] hl26 hd27) ?_
    rintro e w29 ⟨rfl, hp, hst⟩
    have hs := hst.step w16.heap.size vl7 vs7
    clear hst
    have hoz := HOZ.out.step HP.out hs
    replace HOFF := hid' (HOFF.out.step hs (fun k hk => (World.ownsRow.lt HOZ.out k hk).2))
    replace HOZ := hid' hoz
    clear hoz
    replace HS := hid' (HS.out.then (Nat.le_refl _) hs)
    replace HP := hid' hp
    clear hp hs
    generalize (PS.mk (PS.at_ s7 + 1) (PS.nodes s7) (PS.deep s7 - 1)) = s29 at HP HR
    have HVW := HV
    rw [addF] at HR
    by_cases hn30 : ¬ ((PS.nodes s29).length < 900000 ∧ (List.length (y7 : List Int)) < 900000)
    · rw [if_neg hn30] at HR
      exact absurd HR.out.symm hnr
    rw [Decidable.not_not] at hn30
    rw [if_pos hn30] at HR
    go_wp2_with fail
    refine Calls.mono (p_add_any HP.out 7 _ ⟨#[]⟩ (by decide) _ (y7) HOZ.out HOFF.out hn30.1 hn30.2 (n := W.heap.size) HVW.out) ?_
    rintro e w30 ⟨rfl, vl30, vs30, hp, hs⟩
    replace HS := hid' (HS.out.trans hs)
    replace HP := hid' hp
    clear hp hs
    obtain rfl := HR.out
    go_wp2
    go_returns
    exact ⟨_, _, rfl, HP.out, HS.out⟩

set_option maxRecDepth 10000 in
set_option maxHeartbeats 3200000 in
theorem rounds_step {A : Nat → Addr} {B pb : Nat} {ts : List Tok} {tv : Value} {m : Nat} (H : All A B pb ts tv m) : DoesL A B pb ts tv 186 #[ptr pb] .rounds (m + 1) := by
  intro W s vl vs r h hr hnr
  have HR := hid' hr
  have HP := hid' h
  have HS := hid' (Step.refl W.heap.size B pb W vl vs)
  have HLO := hid' h.lowB
  clear hr h
  rw [runF] at HR
  unfold bodyF at HR
  dsimp only at HR
  have hnot : ∀ (x : Bool) (w : World), (Op.unary .not (.bool x)).run Tryz.prog w = .ok (.bool (!x)) w := fun _ _ => rfl
  have hfk := tok_kind
  have hfp := tok_pos
  unfold ptr
  go_enter Tryz.func186, Tryz.ntmps186
  rw [needF] at HR
  generalize ht1 : ts[PS.at_ s]? = o1 at HR
  rcases o1 with _ | t1
  · exact absurd HR.out.symm hnr
  try dsimp only at HR
  by_cases hl2 : ¬ sg t1 = sFor
  · rw [if_neg hl2] at HR
    go_wp2_with fail
    · refine Calls.mono (need_miss HP.out t1 ht1 sFor hl2) ?_
      rintro e wb hp
      have HF := hid' (FaultP.of_below hp HS.out.below)
      obtain ⟨gb, rfl, _⟩ := hp
      obtain rfl : R.bad false t1.pos = r := HR.out
      go_wp2
      exact ⟨rfl, HF.out⟩
  rw [Decidable.not_not] at hl2
  rw [if_pos hl2] at HR
  go_wp2_with fail
  refine Calls.mono (need_hit HP.out t1 ht1 sFor hl2) ?_
  rintro e w4 ⟨rfl, hp, hst⟩
  have hs := hst.step W.heap.size vl vs
  clear hst
  replace HS := hid' (HS.out.then (Nat.le_refl _) hs)
  replace HP := hid' hp
  clear hp hs
  generalize (PS.mk (PS.at_ s + 1) (PS.nodes s) (PS.deep s)) = s4 at HP HR
  go_wp2_with fail
  generalize hq5 : runF ts m (.bare 1) s4 = r5 at HR
  rcases r5 with _ | ⟨l5, p5⟩ | ⟨z5, y5, c5, s5⟩
  · exact absurd HR.out.symm hnr
  · refine Calls.mono (H.targets _ _ _ _ _ HP.out hq5 (by simp)) ?_
    rintro e wb hp
    have HF := hid' (FaultP.of_below hp HS.out.below)
    obtain ⟨gb, rfl, _⟩ := hp
    obtain rfl : R.bad l5 p5 = r := HR.out
    go_wp2
    exact ⟨rfl, HF.out⟩
  refine Calls.mono (H.targets _ _ _ _ _ HP.out hq5 (by simp)) ?_
  rintro e w5 ⟨vl5, vs5, rfl, hp, hs⟩
  have hle5 := HS.out.below.size
  replace HS := hid' (HS.out.then (Nat.le_refl _) hs)
  replace HP := hid' hp
  clear hp hs
  dsimp only [R.bind] at HR
  clear hq5
  have hol := own_new w5 B HP.out.lowB [z5] (by simp) #[.int .i64 z5] rfl 1 rfl
  have hle := HS.out.below.size
  have HV := hid' (fun k hk => Nat.le_trans hle (hol.2 k hk) : ∀ k, _ → W.heap.size ≤ k)
  have HOFF := hid' (Off.new HP.out hol.2)
  have HOZ := hid' hol.1
  clear hol hle
  replace HS := hid' (HS.out.alloc (.cells #[.int .i64 z5] 3) HLO.out)
  replace HP := hid' (HP.out.alloc (.cells #[.int .i64 z5] 3))
  rw [needF] at HR
  generalize ht7 : ts[PS.at_ s5]? = o7 at HR
  rcases o7 with _ | t7
  · exact absurd HR.out.symm hnr
  try dsimp only at HR
  by_cases hl8 : ¬ sg t7 = sIn
  · rw [if_neg hl8] at HR
    go_wp2_with fail
    · refine Calls.mono (need_miss HP.out t7 ht7 sIn hl8) ?_
      rintro e wb hp
      have HF := hid' (FaultP.of_below hp HS.out.below)
      obtain ⟨gb, rfl, _⟩ := hp
      obtain rfl : R.bad false t7.pos = r := HR.out
      go_wp2
      exact ⟨rfl, HF.out⟩
  rw [Decidable.not_not] at hl8
  rw [if_pos hl8] at HR
  go_wp2_with fail
  refine Calls.mono (need_hit HP.out t7 ht7 sIn hl8) ?_
  rintro e w10 ⟨rfl, hp, hst⟩
  have hs := hst.step (w5.alloc (.cells #[.int .i64 z5] 3)).heap.size vl5 vs5
  clear hst
  have hoz := HOZ.out.step HP.out hs
  replace HOFF := hid' (HOFF.out.step hs (fun k hk => (World.ownsRow.lt HOZ.out k hk).2))
  replace HOZ := hid' hoz
  clear hoz
  replace HS := hid' (HS.out.then (Nat.le_refl _) hs)
  replace HP := hid' hp
  clear hp hs
  generalize (PS.mk (PS.at_ s5 + 1) (PS.nodes s5) (PS.deep s5)) = s10 at HP HR
  go_wp2_with fail
  generalize hq11 : runF ts m (.bin 0) s10 = r11 at HR
  rcases r11 with _ | ⟨l11, p11⟩ | ⟨z11, y11, c11, s11⟩
  · exact absurd HR.out.symm hnr
  · refine Calls.mono (H.or _ _ _ _ _ HP.out hq11 (by simp)) ?_
    rintro e wb hp
    have HF := hid' (FaultP.of_below hp HS.out.below)
    obtain ⟨gb, rfl, _⟩ := hp
    obtain rfl : R.bad l11 p11 = r := HR.out
    go_wp2
    exact ⟨rfl, HF.out⟩
  refine Calls.mono (H.or _ _ _ _ _ HP.out hq11 (by simp)) ?_
  rintro e w11 ⟨vl11, vs11, rfl, hp, hs⟩
  have hle11 := HS.out.below.size
  have hoz := HOZ.out.step HP.out hs
  replace HOFF := hid' (HOFF.out.step hs (fun k hk => (World.ownsRow.lt HOZ.out k hk).2))
  replace HOZ := hid' hoz
  clear hoz
  replace HS := hid' (HS.out.then (Nat.le_refl _) hs)
  replace HP := hid' hp
  clear hp hs
  dsimp only [R.bind] at HR
  clear hq11
  go_wp2_with (at_builtin; refine num_plain HOZ.out z11 2 rfl HP.out.lowB (by simp) rfl (.tmp 11) (.tmp 14) (by rfl) (by rfl) (by rfl) ?_; intro g5 cap5 w5 q1 q2 q3 q4 q5; have HQ := hid' (row_push (m := 2) HP.out HS.out HOZ.out HOFF.out HV.out q2 q3 g5 cap5 q4); have HZ5 := hid' q1; clear q1 q2 q3 q4 q5)
  have HP9 := hid' HQ.out.1
  have HS9 := hid' HQ.out.2.1
  have HF9 := hid' HQ.out.2.2.1
  have HV9 := hid' HQ.out.2.2.2
  clear HP HS HOZ HOFF HV HQ
  have HP := HP9
  have HS := HS9
  have HOZ := HZ5
  have HOFF := HF9
  have HV := HV9
  clear HP9 HS9 HF9 HV9 HZ5
  rw [Px.signF] at HR
  generalize ht13 : ts[PS.at_ s11]? = o13 at HR
  rcases o13 with _ | t13
  · exact absurd HR.out.symm hnr
  try dsimp only at HR
  have HSK := hid' (skip_any HP.out t13 ht13 sIf)
  by_cases hl : sg t13 = sIf
  · rw [if_pos hl] at HR
    rw [decide_eq_true hl, if_pos hl] at HSK
    go_wp2_with fail
    refine Calls.mono (HSK.out) ?_
    rintro e w14 ⟨rfl, hp, hst⟩
    have hs := hst.step w5.heap.size vl11 vs11
    clear hst
    have hoz := HOZ.out.step HP.out hs
    replace HOFF := hid' (HOFF.out.step hs (fun k hk => (World.ownsRow.lt HOZ.out k hk).2))
    replace HOZ := hid' hoz
    clear hoz
    replace HS := hid' (HS.out.then (Nat.le_refl _) hs)
    replace HP := hid' hp
    clear hp hs
    generalize (PS.mk (PS.at_ s11 + 1) (PS.nodes s11) (PS.deep s11)) = s14 at HP HR
    go_wp2_with fail
    generalize hq15 : runF ts m (.bin 0) s14 = r15 at HR
    rcases r15 with _ | ⟨l15, p15⟩ | ⟨z15, y15, c15, s15⟩
    · exact absurd HR.out.symm hnr
    · refine Calls.mono (H.or _ _ _ _ _ HP.out hq15 (by simp)) ?_
      rintro e wb hp
      have HF := hid' (FaultP.of_below hp HS.out.below)
      obtain ⟨gb, rfl, _⟩ := hp
      obtain rfl : R.bad l15 p15 = r := HR.out
      go_wp2
      exact ⟨rfl, HF.out⟩
    refine Calls.mono (H.or _ _ _ _ _ HP.out hq15 (by simp)) ?_
    rintro e w15 ⟨vl15, vs15, rfl, hp, hs⟩
    have hle15 := HS.out.below.size
    have hoz := HOZ.out.step HP.out hs
    replace HOFF := hid' (HOFF.out.step hs (fun k hk => (World.ownsRow.lt HOZ.out k hk).2))
    replace HOZ := hid' hoz
    clear hoz
    replace HS := hid' (HS.out.then (Nat.le_refl _) hs)
    replace HP := hid' hp
    clear hp hs
    dsimp only [R.bind] at HR
    clear hq15
    go_wp2_with (at_builtin; refine num_plain HOZ.out z15 3 rfl HP.out.lowB (by simp) rfl (.tmp 18) (.tmp 21) (by rfl) (by rfl) (by rfl) ?_; intro g5 cap5 w5 q1 q2 q3 q4 q5; have HQ := hid' (row_push (m := 3) HP.out HS.out HOZ.out HOFF.out HV.out q2 q3 g5 cap5 q4); have HZ5 := hid' q1; clear q1 q2 q3 q4 q5)
    have HP9 := hid' HQ.out.1
    have HS9 := hid' HQ.out.2.1
    have HF9 := hid' HQ.out.2.2.1
    have HV9 := hid' HQ.out.2.2.2
    clear HP HS HOZ HOFF HV HQ
    have HP := HP9
    have HS := HS9
    have HOZ := HZ5
    have HOFF := HF9
    have HV := HV9
    clear HP9 HS9 HF9 HV9 HZ5
    obtain rfl := HR.out
    go_wp2
    go_returns
    exact ⟨_, _, _, rfl, HP.out, HS.out, HOZ.out, HV.out, HOFF.out⟩
  rw [if_neg hl] at HR
  rw [decide_eq_false hl, if_neg hl] at HSK
  go_wp2_with fail
  refine Calls.mono (HSK.out) ?_
  rintro e w17 ⟨rfl, hp, hst⟩
  have hs := hst.step w5.heap.size vl11 vs11
  clear hst
  have hoz := HOZ.out.step HP.out hs
  replace HOFF := hid' (HOFF.out.step hs (fun k hk => (World.ownsRow.lt HOZ.out k hk).2))
  replace HOZ := hid' hoz
  clear hoz
  replace HS := hid' (HS.out.then (Nat.le_refl _) hs)
  replace HP := hid' hp
  clear hp hs
  obtain rfl := HR.out
  go_wp2
  go_returns
  exact ⟨_, _, _, rfl, HP.out, HS.out, HOZ.out, HV.out, HOFF.out⟩

set_option maxRecDepth 10000 in
set_option maxHeartbeats 1600000 in
theorem result_step {A : Nat → Addr} {B pb : Nat} {ts : List Tok} {tv : Value} {m : Nat} (H : All A B pb ts tv m) : Does A B pb ts tv 109 #[ptr pb] .result (m + 1) := by
  intro W s vl vs r h hr hnr
  have HR := hid' hr
  have HP := hid' h
  have HS := hid' (Step.refl W.heap.size B pb W vl vs)
  have HLO := hid' h.lowB
  clear hr h
  rw [runF] at HR
  unfold bodyF at HR
  dsimp only at HR
  have hnot : ∀ (x : Bool) (w : World), (Op.unary .not (.bool x)).run Tryz.prog w = .ok (.bool (!x)) w := fun _ _ => rfl
  have hfk := tok_kind
  have hfp := tok_pos
  unfold ptr
  go_enter Tryz.func109, Tryz.ntmps109
  rw [needF] at HR
  generalize ht1 : ts[PS.at_ s]? = o1 at HR
  rcases o1 with _ | t1
  · exact absurd HR.out.symm hnr
  try dsimp only at HR
  by_cases hl2 : ¬ sg t1 = [114, 101, 116, 117, 114, 110]
  · rw [if_neg hl2] at HR
    go_wp2_with fail
    · refine Calls.mono (need_miss HP.out t1 ht1 [114, 101, 116, 117, 114, 110] hl2) ?_
      rintro e wb hp
      have HF := hid' (FaultP.of_below hp HS.out.below)
      obtain ⟨gb, rfl, _⟩ := hp
      obtain rfl : R.bad false t1.pos = r := HR.out
      go_wp2
      exact ⟨rfl, HF.out⟩
  rw [Decidable.not_not] at hl2
  rw [if_pos hl2] at HR
  go_wp2_with fail
  refine Calls.mono (need_hit HP.out t1 ht1 [114, 101, 116, 117, 114, 110] hl2) ?_
  rintro e w4 ⟨rfl, hp, hst⟩
  have hs := hst.step W.heap.size vl vs
  clear hst
  replace HS := hid' (HS.out.then (Nat.le_refl _) hs)
  replace HP := hid' hp
  clear hp hs
  generalize (PS.mk (PS.at_ s + 1) (PS.nodes s) (PS.deep s)) = s4 at HP HR
  rw [beginsF] at HR
  generalize ht5 : ts[PS.at_ s4]? = o5 at HR
  rcases o5 with _ | t5
  · exact absurd HR.out.symm hnr
  try dsimp only at HR
  go_wp2_with fail
  refine Calls.mono (begins_any HP.out t5 ht5) ?_
  rintro e w6 ⟨rfl, b⟩
  have hp := HP.out.low b
  have hs := Step.low (n := w4.heap.size) HP.out b
  clear b
  replace HS := hid' (HS.out.then (Nat.le_refl _) hs)
  replace HP := hid' hp
  clear hp hs
  by_cases hb : begins (sg t5) t5.kind = true
  · rw [if_pos hb] at HR
    rw [hb]
    go_wp2_with fail
    generalize hq7 : runF ts m (.bare 0) s4 = r7 at HR
    rcases r7 with _ | ⟨l7, p7⟩ | ⟨z7, y7, c7, s7⟩
    · exact absurd HR.out.symm hnr
    · refine Calls.mono (H.tuple _ _ _ _ _ HP.out hq7 (by simp)) ?_
      rintro e wb hp
      have HF := hid' (FaultP.of_below hp HS.out.below)
      obtain ⟨gb, rfl, _⟩ := hp
      obtain rfl : R.bad l7 p7 = r := HR.out
      go_wp2
      exact ⟨rfl, HF.out⟩
    refine Calls.mono (H.tuple _ _ _ _ _ HP.out hq7 (by simp)) ?_
    rintro e w7 ⟨vl7, vs7, rfl, hp, hs⟩
    have hle7 := HS.out.below.size
    replace HS := hid' (HS.out.then (Nat.le_refl _) hs)
    replace HP := hid' hp
    clear hp hs
    dsimp only [R.bind] at HR
    clear hq7
    rw [addF] at HR
    by_cases hn9 : ¬ ((PS.nodes s7).length < 900000 ∧ (List.length ([z7] : List Int)) < 900000)
    · rw [if_neg hn9] at HR
      exact absurd HR.out.symm hnr
    rw [Decidable.not_not] at hn9
    rw [if_pos hn9] at HR
    go_wp2_with fail
    refine Calls.mono (add_lit HP.out 41 _ ⟨#[]⟩ (by decide) [z7] (by simp) _ rfl _ rfl hn9.1) ?_
    rintro e w9 ⟨rfl, vl9, vs9, hp, hs⟩
    replace HS := hid' (HS.out.then (Nat.le_refl _) hs)
    replace HP := hid' hp
    clear hp hs
    generalize hs9 : (PS.mk (PS.at_ s7) (PS.nodes s7 ++ [⟨41, 0, _, ⟨#[]⟩, [z7]⟩]) (PS.deep s7)) = s9 at HP HR
    clear hs9
    obtain rfl := HR.out
    go_wp2
    go_returns
    exact ⟨_, _, rfl, HP.out, HS.out⟩
  rw [if_neg hb] at HR
  rw [Bool.not_eq_true] at hb
  rw [hb]
  rw [addF] at HR
  by_cases hn10 : ¬ ((PS.nodes s4).length < 900000 ∧ (List.length ([] : List Int)) < 900000)
  · rw [if_neg hn10] at HR
    exact absurd HR.out.symm hnr
  rw [Decidable.not_not] at hn10
  rw [if_pos hn10] at HR
  go_wp2_with fail
  refine Calls.mono (add_none HP.out 41 _ ⟨#[]⟩ (by decide) hn10.1) ?_
  rintro e w10 ⟨rfl, vl10, vs10, hp, hs⟩
  replace HS := hid' (HS.out.then (Nat.le_refl _) hs)
  replace HP := hid' hp
  clear hp hs
  generalize hs10 : (PS.mk (PS.at_ s4) (PS.nodes s4 ++ [⟨41, 0, _, ⟨#[]⟩, []⟩]) (PS.deep s4)) = s10 at HP HR
  clear hs10
  obtain rfl := HR.out
  go_wp2
  go_returns
  exact ⟨_, _, rfl, HP.out, HS.out⟩
end Go.Proofs.YtpjjofdphlgeiaaGreatDoor

namespace Go.Proofs.YtpjjofdphlgeiaaGreatDoor
open Go.RowKit
open Lx Ax Px

set_option maxRecDepth 10000 in
set_option maxHeartbeats 3200000 in
theorem target_step {A : Nat → Addr} {B pb : Nat} {ts : List Tok} {tv : Value} {m : Nat} (H : All A B pb ts tv m) : Does A B pb ts tv 125 #[ptr pb] .target (m + 1) := by
  intro W s vl vs r h hr hnr
  have HR := hid' hr
  have HP := hid' h
  have HS := hid' (Step.refl W.heap.size B pb W vl vs)
  have HLO := hid' h.lowB
  clear hr h
  rw [runF] at HR
  unfold bodyF at HR
  dsimp only at HR
  have hnot : ∀ (x : Bool) (w : World), (Op.unary .not (.bool x)).run Tryz.prog w = .ok (.bool (!x)) w := fun _ _ => rfl
  have hfk := tok_kind
  have hfp := tok_pos
  unfold ptr
  go_enter Tryz.func125, Tryz.ntmps125
  have hmf : ∀ (fn : Fn) (first cap : Array Value) (w : World), (Instr.makeFunc fn first cap).run Tryz.prog w = .ok (.func fn first cap) w := fun _ _ _ _ => rfl
  rw [Px.signF] at HR
  generalize ht1 : ts[PS.at_ s]? = o1 at HR
  rcases o1 with _ | t1
  · exact absurd HR.out.symm hnr
  try dsimp only at HR
  go_wp2_with fail
  refine Calls.mono (sees_any HP.out t1 ht1 [40]) ?_
  rintro e w2 ⟨rfl, b⟩
  have hp := HP.out.low b
  have hs := Step.low (n := W.heap.size) HP.out b
  clear b
  replace HS := hid' (HS.out.then (Nat.le_refl _) hs)
  replace HP := hid' hp
  clear hp hs
  by_cases hl : sg t1 = [40]
  · rw [if_pos hl] at HR
    rw [decide_eq_true hl]
    go_wp2_with fail
    refine Calls.mono (H.round1 _ _ _ _ _ HP.out HR.out hnr) ?_
    rintro e we hp
    clear HR
    rcases r with _ | ⟨lr, pr⟩ | ⟨zr, yr, cr, sr⟩
    · exact hp.elim
    · have HF := hid' (FaultP.of_below hp HS.out.below)
      obtain ⟨gb, rfl, _⟩ := hp
      go_wp2
      exact ⟨rfl, HF.out⟩
    obtain ⟨vle, vse, rfl, hp, hs⟩ := hp
    have HQ := hid' (HS.out.then (Nat.le_refl _) hs)
    have HP2 := hid' hp
    clear hp hs
    go_wp2
    go_returns
    exact ⟨_, _, rfl, HP2.out, HQ.out⟩
  rw [if_neg hl] at HR
  rw [decide_eq_false hl]
  rw [nextF] at HR
  rw [ht1] at HR
  try dsimp only at HR
  go_wp2_with fail
  refine Calls.mono (tBegins_any HP.out t1 ht1) ?_
  rintro e w3 ⟨rfl, b⟩
  have hp := HP.out.low b
  have hs := Step.low (n := w2.heap.size) HP.out b
  clear b
  replace HS := hid' (HS.out.then (Nat.le_refl _) hs)
  replace HP := hid' hp
  clear hp hs
  cases hb : tBegins t1 with
  | false =>
    rw [hb, if_neg (by simp)] at HR
    go_wp2_with fail
    · refine Calls.mono (allow_false HP.out t1 ht1) ?_
      rintro e wb hp
      have HF := hid' (FaultP.of_below hp HS.out.below)
      obtain ⟨gb, rfl, _⟩ := hp
      obtain rfl : R.bad false t1.pos = r := HR.out
      go_wp2
      exact ⟨rfl, HF.out⟩
  | true =>
    rw [hb, if_pos rfl] at HR
    clear hb
    go_wp2_with fail
    refine Calls.mono (allow_true _ _) ?_
    rintro e wo ⟨rfl, hwo⟩
    rw [hwo]
    clear hwo wo
    go_wp2_with fail
    refine Calls.mono (p_token_any HP.out t1 ht1) ?_
    rintro e w5 ⟨rfl, b⟩
    have hp := HP.out.low b
    have hs := Step.low (n := w3.heap.size) HP.out b
    clear b
    replace HS := hid' (HS.out.then (Nat.le_refl _) hs)
    replace HP := hid' hp
    clear hp hs
    have BX := hid' (row_new w5 71 [.int .i64 (t1.kind : Int), .string (txt t1.text), .int .i64 (t1.pos : Int)])
    replace HS := hid' (HS.out.alloc (.cells #[.int .i64 (t1.kind : Int), .string (txt t1.text), .int .i64 (t1.pos : Int)] 71) HLO.out)
    replace HP := hid' (HP.out.alloc (.cells #[.int .i64 (t1.kind : Int), .string (txt t1.text), .int .i64 (t1.pos : Int)] 71))
    go_wp2_with fail
    generalize hq6 : runF ts m .primary s = r6 at HR
    rcases r6 with _ | ⟨l6, p6⟩ | ⟨z6, y6, c6, s6⟩
    · exact absurd HR.out.symm hnr
    · refine Calls.mono (H.primary _ _ _ _ _ HP.out hq6 (by simp)) ?_
      rintro e wb hp
      have HF := hid' (FaultP.of_below hp HS.out.below)
      obtain ⟨gb, rfl, _⟩ := hp
      obtain rfl : R.bad l6 p6 = r := HR.out
      go_wp2
      exact ⟨rfl, HF.out⟩
    refine Calls.mono (H.primary _ _ _ _ _ HP.out hq6 (by simp)) ?_
    rintro e w6 ⟨vl6, vs6, rfl, hp, hs⟩
    have hle6 := HS.out.below.size
    replace BX := hid' (BX.out.stepR (by decide) (by decide) HP.out hs)
    replace HS := hid' (HS.out.then (Nat.le_refl _) hs)
    replace HP := hid' hp
    clear hp hs
    dsimp only [R.bind] at HR
    clear hq6
    generalize hx : targetF (s6.nodes.length + 1) s6.nodes z6 = ox at HR
    rcases ox with _ | bt
    · exact absurd HR.out.symm hnr
    try dsimp only at HR
    obtain ⟨k, rfl⟩ := targetF_nat hx
    go_wp2_with fail
    refine Calls.mono (isTarget_any _ HP.out k bt hx) ?_
    rintro e w8 ⟨rfl, b⟩
    have hp := HP.out.low b
    have hs := Step.low (n := w6.heap.size) HP.out b
    clear b
    replace BX := hid' (BX.out.stepR (by decide) (by decide) HP.out hs)
    replace HS := hid' (HS.out.then (Nat.le_refl _) hs)
    replace HP := hid' hp
    clear hp hs
    cases bt with
    | true =>
      rw [if_pos rfl] at HR
      clear hx BX
      obtain rfl := HR.out
      go_wp2
      go_returns
      exact ⟨_, _, rfl, HP.out, HS.out⟩
    | false =>
      rw [if_neg (by simp)] at HR
      clear hx
      have bx2 := BX.out.cell (j := 2) rfl
      have bxl := BX.out.lt
      have hce := HP.out.env.parse
      go_wp2_with (go_at_call 78; refine Calls.mono (p_fault_any A 1 _ _) ?_; rintro e wf ⟨rfl, rfl⟩)
      go_wp2
      obtain rfl : R.bad false t1.pos = r := HR.out
      exact ⟨rfl, (fault_end (Below.refl _ w8) HP.out.lowB false 1 rfl _).of_below HS.out.below⟩
end Go.Proofs.YtpjjofdphlgeiaaGreatDoor

namespace Go.Proofs.YtpjjofdphlgeiaaGreatDoor
open Go.RowKit
open Lx Ax Px

/-- A store into a boxed place. -/
theorem PV.setBox {A : Nat → Addr} {B pb : Nat} {ts : List Tok} {tv : Value} {W : World} {s : PS} {vl : Value} {vs : List Value} (h : PV A B pb ts tv W s vl vs) {b0 : Nat} {t : TypeId} {cs : List Value} (hb : RowV W b0 t cs) (ht : t ≠ 69) (ht2 : 32 ≠ t) (ht3 : 3 ≠ t) (hB : B ≤ b0) (i : Nat) (v : Value) : PV A B pb ts tv (W.setCell ⟨b0, i, none⟩ v) s vl vs := by
  have hne : ¬ pb = b0 := fun e => RowV.apart hb h.row ht e.symm
  have hbl : Below B W (W.setCell ⟨b0, i, none⟩ v) := (Below.refl _ _).setCell hB _
  refine ⟨row_past h.row ⟨b0, i, none⟩ v hne, h.tr.keep' (fun k e _ => heap_setCell_other _ _ k _ (ne_kind h.tr.own hb ht2 k e)) (fun j u hu k e _ => heap_setCell_other _ _ k _ ?_), h.high, h.toks.below hbl, h.few, h.env.below hbl⟩
  have hj : j < s.nodes.length := by rw [← h.tr.len]; exact (List.getElem?_eq_some_iff.1 hu).1
  exact ne_kind (h.tr.kid j _ u (List.getElem?_eq_getElem hj) hu) hb ht3 k e

set_option maxRecDepth 10000 in
set_option maxHeartbeats 6400000 in
theorem loop_step {A : Nat → Addr} {B pb : Nat} {ts : List Tok} {tv : Value} {m : Nat} (p : Pl) (H : All A B pb ts tv m) : Does A B pb ts tv 54 #[ptr pb, plV p] (.loop p) (m + 1) := by
  intro W s vl vs r h hr hnr
  have HR := hid' hr
  have HP := hid' h
  have HS := hid' (Step.refl W.heap.size B pb W vl vs)
  have HLO := hid' h.lowB
  clear hr h
  rw [runF] at HR
  unfold bodyF at HR
  dsimp only at HR
  have hnot : ∀ (x : Bool) (w : World), (Op.unary .not (.bool x)).run Tryz.prog w = .ok (.bool (!x)) w := fun _ _ => rfl
  have hfk := tok_kind
  have hfp := tok_pos
  unfold ptr plV
  go_enter Tryz.func54, Tryz.ntmps54
  go_wp2_with fail
  have hp := HP.out.alloc (.cells #[.bool p.inner, .bool p.d, .bool p.l] 75)
  replace HS := hid' (HS.out.alloc (.cells #[.bool p.inner, .bool p.d, .bool p.l] 75) HLO.out)
  have BX := hid' (row_new W 75 [.bool p.inner, .bool p.d, .bool p.l])
  generalize hw0 : W.alloc (.cells #[.bool p.inner, .bool p.d, .bool p.l] 75) = w0 at hp HS
  have HW0 := hid' hw0
  clear hw0
  replace BX : Hid (RowV w0 W.heap.size 75 [.bool p.inner, .bool p.d, .bool p.l]) := hid' (by rw [← HW0.out]; exact BX.out)
  clear HW0
  replace HP := hid' hp
  clear hp
  rw [needF] at HR
  generalize ht1 : ts[PS.at_ s]? = o1 at HR
  rcases o1 with _ | t1
  · exact absurd HR.out.symm hnr
  try dsimp only at HR
  by_cases hl2 : ¬ sg t1 = sFor
  · rw [if_neg hl2] at HR
    go_wp2_with fail
    · refine Calls.mono (need_miss HP.out t1 ht1 sFor hl2) ?_
      rintro e wb hp
      have HF := hid' (FaultP.of_below hp HS.out.below)
      obtain ⟨gb, rfl, _⟩ := hp
      obtain rfl : R.bad false t1.pos = r := HR.out
      go_wp2
      exact ⟨rfl, HF.out⟩
  rw [Decidable.not_not] at hl2
  rw [if_pos hl2] at HR
  go_wp2_with fail
  refine Calls.mono (need_hit HP.out t1 ht1 sFor hl2) ?_
  rintro e w4 ⟨rfl, hp, hst⟩
  have hs := hst.step w0.heap.size vl vs
  clear hst
  replace BX := hid' (BX.out.stepR (by decide) (by decide) HP.out hs)
  replace HS := hid' (HS.out.then (Nat.le_refl _) hs)
  replace HP := hid' hp
  clear hp hs
  generalize (PS.mk (PS.at_ s + 1) (PS.nodes s) (PS.deep s)) = s4 at HP HR
  go_wp2_with fail
  generalize hq5 : runF ts m (.bare 1) s4 = r5 at HR
  rcases r5 with _ | ⟨l5, p5⟩ | ⟨z5, y5, c5, s5⟩
  · exact absurd HR.out.symm hnr
  · refine Calls.mono (H.targets _ _ _ _ _ HP.out hq5 (by simp)) ?_
    rintro e wb hp
    have HF := hid' (FaultP.of_below hp HS.out.below)
    obtain ⟨gb, rfl, _⟩ := hp
    obtain rfl : R.bad l5 p5 = r := HR.out
    go_wp2
    exact ⟨rfl, HF.out⟩
  refine Calls.mono (H.targets _ _ _ _ _ HP.out hq5 (by simp)) ?_
  rintro e w5 ⟨vl5, vs5, rfl, hp, hs⟩
  have hle5 := HS.out.below.size
  replace BX := hid' (BX.out.stepR (by decide) (by decide) HP.out hs)
  replace HS := hid' (HS.out.then (Nat.le_refl _) hs)
  replace HP := hid' hp
  clear hp hs
  dsimp only [R.bind] at HR
  clear hq5
  rw [needF] at HR
  generalize ht7 : ts[PS.at_ s5]? = o7 at HR
  rcases o7 with _ | t7
  · exact absurd HR.out.symm hnr
  try dsimp only at HR
  by_cases hl8 : ¬ sg t7 = sIn
  · rw [if_neg hl8] at HR
    go_wp2_with fail
    · refine Calls.mono (need_miss HP.out t7 ht7 sIn hl8) ?_
      rintro e wb hp
      have HF := hid' (FaultP.of_below hp HS.out.below)
      obtain ⟨gb, rfl, _⟩ := hp
      obtain rfl : R.bad false t7.pos = r := HR.out
      go_wp2
      exact ⟨rfl, HF.out⟩
  rw [Decidable.not_not] at hl8
  rw [if_pos hl8] at HR
  go_wp2_with fail
  refine Calls.mono (need_hit HP.out t7 ht7 sIn hl8) ?_
  rintro e w10 ⟨rfl, hp, hst⟩
  have hs := hst.step w5.heap.size vl5 vs5
  clear hst
  replace BX := hid' (BX.out.stepR (by decide) (by decide) HP.out hs)
  replace HS := hid' (HS.out.then (Nat.le_refl _) hs)
  replace HP := hid' hp
  clear hp hs
  generalize (PS.mk (PS.at_ s5 + 1) (PS.nodes s5) (PS.deep s5)) = s10 at HP HR
  go_wp2_with fail
  generalize hq11 : runF ts m (.bare 0) s10 = r11 at HR
  rcases r11 with _ | ⟨l11, p11⟩ | ⟨z11, y11, c11, s11⟩
  · exact absurd HR.out.symm hnr
  · refine Calls.mono (H.tuple _ _ _ _ _ HP.out hq11 (by simp)) ?_
    rintro e wb hp
    have HF := hid' (FaultP.of_below hp HS.out.below)
    obtain ⟨gb, rfl, _⟩ := hp
    obtain rfl : R.bad l11 p11 = r := HR.out
    go_wp2
    exact ⟨rfl, HF.out⟩
  refine Calls.mono (H.tuple _ _ _ _ _ HP.out hq11 (by simp)) ?_
  rintro e w11 ⟨vl11, vs11, rfl, hp, hs⟩
  have hle11 := HS.out.below.size
  replace BX := hid' (BX.out.stepR (by decide) (by decide) HP.out hs)
  replace HS := hid' (HS.out.then (Nat.le_refl _) hs)
  replace HP := hid' hp
  clear hp hs
  dsimp only [R.bind] at HR
  clear hq11
  have hbx := BX.out
  have hbo := hbx.open_ 2
  have hbc0 := hbx.cell (j := 0) rfl
  have hbc1 := hbx.cell (j := 1) rfl
  have hbc2 := hbx.cell (j := 2) rfl
  have hbl := hbx.lt
  go_wp2_with fail
  replace HP := hid' (HP.out.setBox hbx (by decide) (by decide) (by decide) HLO.out 2 (.bool true))
  replace HS := hid' (HS.out.set ⟨W.heap.size, 2, none⟩ (.bool true) (.inl (Nat.le_refl _)) HLO.out HP.out.high)
  replace BX : Hid (RowV (w11.setCell ⟨W.heap.size, 2, none⟩ (.bool true)) W.heap.size 75 [.bool p.inner, .bool p.d, .bool true]) := hid' (hbx.set 2 (.bool true))
  clear hbx hbo hbc0 hbc1 hbc2 hbl
  have hQQ := hid' (rfl : plV { p with l := true } = .agg #[.bool p.inner, .bool p.d, .bool true])
  go_wp2_with fail
  generalize hq13 : runF ts m (.block { p with l := true }) s11 = r13 at HR
  rcases r13 with _ | ⟨l13, p13⟩ | ⟨z13, y13, c13, s13⟩
  · exact absurd HR.out.symm hnr
  · refine Calls.mono (H.block { p with l := true } _ _ _ _ _ HP.out hq13 (by simp)) ?_
    rintro e wb hp
    have HF := hid' (FaultP.of_below hp HS.out.below)
    obtain ⟨gb, rfl, _⟩ := hp
    obtain rfl : R.bad l13 p13 = r := HR.out
    go_wp2
    exact ⟨rfl, HF.out⟩
  refine Calls.mono (H.block { p with l := true } _ _ _ _ _ HP.out hq13 (by simp)) ?_
  rintro e w13 ⟨vl13, vs13, rfl, hp, hs⟩
  have hle13 := HS.out.below.size
  replace BX := hid' (BX.out.stepR (by decide) (by decide) HP.out hs)
  replace HS := hid' (HS.out.then (Nat.le_refl _) hs)
  replace HP := hid' hp
  clear hp hs
  dsimp only [R.bind] at HR
  clear hq13
  rw [addF] at HR
  by_cases hn15 : ¬ ((PS.nodes s13).length < 900000 ∧ (List.length ([z5, z11, z13] : List Int)) < 900000)
  · rw [if_neg hn15] at HR
    exact absurd HR.out.symm hnr
  rw [Decidable.not_not] at hn15
  rw [if_pos hn15] at HR
  go_wp2_with fail
  refine Calls.mono (add_lit HP.out 44 _ ⟨#[]⟩ (by decide) [z5, z11, z13] (by simp) _ rfl _ rfl hn15.1) ?_
  rintro e w15 ⟨rfl, vl15, vs15, hp, hs⟩
  replace BX := hid' (BX.out.stepR (by decide) (by decide) HP.out hs)
  replace HS := hid' (HS.out.then (Nat.le_refl _) hs)
  replace HP := hid' hp
  clear hp hs
  generalize hs15 : (PS.mk (PS.at_ s13) (PS.nodes s13 ++ [⟨44, 0, _, ⟨#[]⟩, [z5, z11, z13]⟩]) (PS.deep s13)) = s15 at HP HR
  clear hs15
  clear BX
  obtain rfl := HR.out
  go_wp2
  go_returns
  exact ⟨_, _, rfl, HP.out, HS.out⟩
end Go.Proofs.YtpjjofdphlgeiaaGreatDoor

namespace Go.Proofs.YtpjjofdphlgeiaaGreatDoor
open Go.RowKit
open Lx Ax Px

set_option maxRecDepth 10000 in
set_option maxHeartbeats 12800000 in
theorem cond_step {A : Nat → Addr} {B pb : Nat} {ts : List Tok} {tv : Value} {m : Nat} (pos : Int) (p : Pl) (H : All A B pb ts tv m) : Does A B pb ts tv 52 #[ptr pb, .int .i64 pos, plV p] (.cond pos p) (m + 1) := by
  intro W s vl vs r h hr hnr
  have HR := hid' hr
  have HP := hid' h
  have HS := hid' (Step.refl W.heap.size B pb W vl vs)
  have HLO := hid' h.lowB
  clear hr h
  rw [runF] at HR
  unfold bodyF at HR
  dsimp only at HR
  have hnot : ∀ (x : Bool) (w : World), (Op.unary .not (.bool x)).run Tryz.prog w = .ok (.bool (!x)) w := fun _ _ => rfl
  have hfk := tok_kind
  have hfp := tok_pos
  unfold ptr plV
  go_enter Tryz.func52, Tryz.ntmps52
  go_wp2_with fail
  have hp := HP.out.alloc (.cells #[.bool p.inner, .bool p.d, .bool p.l] 75)
  replace HS := hid' (HS.out.alloc (.cells #[.bool p.inner, .bool p.d, .bool p.l] 75) HLO.out)
  have BX := hid' (row_new W 75 [.bool p.inner, .bool p.d, .bool p.l])
  generalize hw0 : W.alloc (.cells #[.bool p.inner, .bool p.d, .bool p.l] 75) = w0 at hp HS
  have HW0 := hid' hw0
  clear hw0
  replace BX : Hid (RowV w0 W.heap.size 75 [.bool p.inner, .bool p.d, .bool p.l]) := hid' (by rw [← HW0.out]; exact BX.out)
  clear HW0
  replace HP := hid' hp
  clear hp
  try go_wp2
  refine wp_region_held_drew (S := fun W' => RowV W' W.heap.size 75 [.bool p.inner, .bool p.d, .bool p.l]) (by kernel_rfl) (by exact BX.out) (fun hHeld => ?_)
  have hp : PV A B pb ts tv w0.drew s vl vs := HP.out.drewN 1
  have hs : Step w0.heap.size B pb w0 vl vs w0.drew vl vs := Step.drewN (Step.refl w0.heap.size B pb w0 vl vs) 1
  replace HS := hid' (HS.out.then (Nat.le_refl _) hs)
  replace HP := hid' hp
  clear hp hs
  replace BX : Hid (RowV w0.drew W.heap.size 75 [.bool p.inner, .bool p.d, .bool p.l]) := hid' hHeld
  refine take_val' (i := 0) (v := .pointer (some ⟨pb, 0, none⟩)) rfl (by kernel_rfl) (by kernel_rfl) (by kernel_rfl) (some 8) rfl (fun _ _ _ h => h) (Or.inl ⟨by rfl, fun W' hW => by go_simp⟩) hHeld ?_
  try simp only [Act.put, List.setIfInBounds_toArray, List.set_cons_zero, List.set_cons_succ]
  refine take_val' (i := 2) (v := .pointer (some ⟨pb, 0, none⟩)) rfl (by kernel_rfl) (by kernel_rfl) (by kernel_rfl) (some 10) rfl (fun _ _ _ h => h) (Or.inl ⟨by rfl, fun W' hW => by go_simp⟩) hHeld ?_
  try simp only [Act.put, List.setIfInBounds_toArray, List.set_cons_zero, List.set_cons_succ]
  refine take_val' (i := 3) (v := .agg #[.bool p.inner, .bool p.d, .bool p.l]) rfl (by kernel_rfl) (by kernel_rfl) (by kernel_rfl) (some 11) rfl (fun _ _ _ h => h) (Or.inl ⟨by rfl, fun W' hW => by have y0 := RowV.cell hW (j := 0) rfl; have y1 := RowV.cell hW (j := 1) rfl; have y2 := RowV.cell hW (j := 2) rfl; go_simp⟩) hHeld ?_
  try simp only [Act.put, List.setIfInBounds_toArray, List.set_cons_zero, List.set_cons_succ]
  refine wpAnyH_ready (rs := [1]) (by kernel_rfl) (by simp) ?_
  refine AllReadyH.cons rfl (fun K hK => ?_) AllReadyH.nil
  go_simp
  generalize hq1 : runF ts m .test s = r1 at HR
  rcases r1 with _ | ⟨l1, p1⟩ | ⟨z1, y1, c1, s1⟩
  · exact absurd HR.out.symm hnr
  · refine Calls.mono (H.test _ _ _ _ _ HP.out hq1 (by simp)) ?_
    rintro e wb hp
    have HF := hid' (FaultP.of_below hp HS.out.below)
    obtain ⟨gb, rfl, _⟩ := hp
    obtain rfl : R.bad l1 p1 = r := HR.out
    exact ⟨rfl, HF.out⟩
  refine Calls.mono (H.test _ _ _ _ _ HP.out hq1 (by simp)) ?_
  rintro e w1 ⟨vl1, vs1, rfl, hp, hs⟩
  replace BX := hid' (BX.out.stepR (by decide) (by decide) HP.out hs)
  replace HS := hid' (HS.out.then (Nat.le_refl _) hs)
  replace HP := hid' hp
  clear hp hs
  try dsimp only [R.bind] at HR
  clear hq1 hHeld
  refine hK.out _ _ BX.out (fun hHeld => ?_)
  clear hK K
  try simp only [Act.put, List.setIfInBounds_toArray, List.set_cons_zero, List.set_cons_succ]
  refine wpAnyH_ready (rs := [4]) (by kernel_rfl) (by simp) ?_
  refine AllReadyH.cons rfl (fun K hK => ?_) AllReadyH.nil
  go_simp
  generalize hq2 : runF ts m (.block p) s1 = r2 at HR
  rcases r2 with _ | ⟨l2, p2⟩ | ⟨z2, y2, c2, s2⟩
  · exact absurd HR.out.symm hnr
  · refine Calls.mono (H.block p _ _ _ _ _ HP.out hq2 (by simp)) ?_
    rintro e wb hp
    have HF := hid' (FaultP.of_below hp HS.out.below)
    obtain ⟨gb, rfl, _⟩ := hp
    obtain rfl : R.bad l2 p2 = r := HR.out
    exact ⟨rfl, HF.out⟩
  refine Calls.mono (H.block p _ _ _ _ _ HP.out hq2 (by simp)) ?_
  rintro e w2 ⟨vl2, vs2, rfl, hp, hs⟩
  replace BX := hid' (BX.out.stepR (by decide) (by decide) HP.out hs)
  replace HS := hid' (HS.out.then (Nat.le_refl _) hs)
  replace HP := hid' hp
  clear hp hs
  try dsimp only [R.bind] at HR
  clear hq2 hHeld
  refine hK.out _ _ BX.out (fun hHeld => ?_)
  clear hK K
  try simp only [Act.put, List.setIfInBounds_toArray, List.set_cons_zero, List.set_cons_succ]
  refine wpAnyH_ready (rs := [5]) (by kernel_rfl) (by simp) ?_
  refine AllReadyH.cons rfl (fun K hK => ?_) AllReadyH.nil
  go_simp
  clear hHeld
  refine hK.out _ _ (row_alloc BX.out (.cells #[.int .i64 z1, .int .i64 z2] 3)) (fun hHeld => ?_)
  clear hK K
  try simp only [Act.put, List.setIfInBounds_toArray, List.set_cons_zero, List.set_cons_succ]
  refine take_val' (i := 6) (v := .slice (some ⟨w2.heap.size, 0, none⟩) 2 2) rfl (by kernel_rfl) (by kernel_rfl) (by kernel_rfl) (some 7) rfl (fun _ _ _ h => h) (Or.inl ⟨by rfl, fun W' hW => by go_simp⟩) hHeld ?_
  try simp only [Act.put, List.setIfInBounds_toArray, List.set_cons_zero, List.set_cons_succ]
  refine wpAnyH_done (by kernel_rfl) ?_ _
  replace BX := hid' (row_alloc BX.out (.cells #[.int .i64 z1, .int .i64 z2] 3))
  clear hHeld
  have hol := own_new w2 B HP.out.lowB [z1, z2] (by simp) #[.int .i64 z1, .int .i64 z2] rfl 2 rfl
  have hle := HS.out.below.size
  have HV := hid' (fun k hk => Nat.le_trans hle (hol.2 k hk) : ∀ k, _ → W.heap.size ≤ k)
  have HOFF := hid' (Off.new HP.out hol.2)
  have HOZ := hid' hol.1
  clear hol hle
  replace HS := hid' (HS.out.alloc (.cells #[.int .i64 z1, .int .i64 z2] 3) HLO.out)
  replace HP := hid' (HP.out.alloc (.cells #[.int .i64 z1, .int .i64 z2] 3))
  rw [Px.signF] at HR
  generalize ht3 : ts[PS.at_ s2]? = o3 at HR
  rcases o3 with _ | t3
  · exact absurd HR.out.symm hnr
  try dsimp only at HR
  go_wp2_with fail
  refine Calls.mono (sees_any HP.out t3 ht3 sElif) ?_
  rintro e w4 ⟨rfl, b⟩
  have hp := HP.out.low b
  have hs := Step.low (n := (w2.alloc (.cells #[.int .i64 z1, .int .i64 z2] 3)).heap.size) HP.out b
  clear b
  replace BX := hid' (BX.out.stepR (by decide) (by decide) HP.out hs)
  have hoz := HOZ.out.step HP.out hs
  replace HOFF := hid' (HOFF.out.step hs (fun k hk => (World.ownsRow.lt HOZ.out k hk).2))
  replace HOZ := hid' hoz
  clear hoz
  replace HS := hid' (HS.out.then (Nat.le_refl _) hs)
  replace HP := hid' hp
  clear hp hs
  by_cases hl : sg t3 = sElif
  · rw [if_pos hl] at HR
    rw [decide_eq_true hl]
    have bx0 := BX.out.cell (j := 0) rfl
    have bx1 := BX.out.cell (j := 1) rfl
    have bx2 := BX.out.cell (j := 2) rfl
    have bxl := BX.out.lt
    go_wp2_with fail
    generalize hq5 : runF ts m (.elif p) s2 = r5 at HR
    rcases r5 with _ | ⟨l5, p5⟩ | ⟨z5, y5, c5, s5⟩
    · exact absurd HR.out.symm hnr
    · refine Calls.mono (H.elif p _ _ _ _ _ HP.out hq5 (by simp)) ?_
      rintro e wb hp
      have HF := hid' (FaultP.of_below hp HS.out.below)
      obtain ⟨gb, rfl, _⟩ := hp
      obtain rfl : R.bad l5 p5 = r := HR.out
      go_wp2
      exact ⟨rfl, HF.out⟩
    refine Calls.mono (H.elif p _ _ _ _ _ HP.out hq5 (by simp)) ?_
    rintro e w5 ⟨vl5, vs5, rfl, hp, hs⟩
    have hle5 := HS.out.below.size
    replace BX := hid' (BX.out.stepR (by decide) (by decide) HP.out hs)
    have hoz := HOZ.out.step HP.out hs
    replace HOFF := hid' (HOFF.out.step hs (fun k hk => (World.ownsRow.lt HOZ.out k hk).2))
    replace HOZ := hid' hoz
    clear hoz
    replace HS := hid' (HS.out.then (Nat.le_refl _) hs)
    replace HP := hid' hp
    clear hp hs
    dsimp only [R.bind] at HR
    clear hq5
    clear bxl bx0 bx1 bx2
    go_wp2_with (at_builtin; refine num_plain HOZ.out z5 3 rfl HP.out.lowB (by simp) rfl (.tmp 16) (.tmp 20) (by rfl) (by rfl) (by rfl) ?_; intro g5 cap5 w5 q1 q2 q3 q4 q5; have HQ := hid' (row_push (m := 3) HP.out HS.out HOZ.out HOFF.out HV.out q2 q3 g5 cap5 q4); have HZ5 := hid' q1; clear q1 q2 q3 q4 q5)
    have HP9 := hid' HQ.out.1
    have HS9 := hid' HQ.out.2.1
    have HF9 := hid' HQ.out.2.2.1
    have HV9 := hid' HQ.out.2.2.2
    clear HP HS HOZ HOFF HV HQ BX
    have HP := HP9
    have HS := HS9
    have HOZ := HZ5
    have HOFF := HF9
    have HV := HV9
    clear HP9 HS9 HF9 HV9 HZ5
    have HVW := HV
    rw [addF] at HR
    by_cases hn7 : ¬ ((PS.nodes s5).length < 900000 ∧ (List.length ([z1, z2, z5] : List Int)) < 900000)
    · rw [if_neg hn7] at HR
      exact absurd HR.out.symm hnr
    rw [Decidable.not_not] at hn7
    rw [if_pos hn7] at HR
    go_wp2_with fail
    refine Calls.mono (p_add_any HP.out 43 pos ⟨#[]⟩ (by decide) _ ([z1, z2, z5]) HOZ.out HOFF.out hn7.1 hn7.2 (n := W.heap.size) HVW.out) ?_
    rintro e w7 ⟨rfl, vl7, vs7, hp, hs⟩
    replace HS := hid' (HS.out.trans hs)
    replace HP := hid' hp
    clear hp hs
    obtain rfl := HR.out
    go_wp2
    go_returns
    exact ⟨_, _, rfl, HP.out, HS.out⟩
  rw [if_neg hl] at HR
  rw [decide_eq_false hl]
  have HSK := hid' (skip_any HP.out t3 ht3 sElse)
  by_cases h2 : sg t3 = sElse
  · rw [if_pos h2] at HR
    rw [decide_eq_true h2, if_pos h2] at HSK
    go_wp2_with fail
    refine Calls.mono (HSK.out) ?_
    rintro e w8 ⟨rfl, hp, hst⟩
    have hs := hst.step w4.heap.size vl2 vs2
    clear hst
    replace BX := hid' (BX.out.stepR (by decide) (by decide) HP.out hs)
    have hoz := HOZ.out.step HP.out hs
    replace HOFF := hid' (HOFF.out.step hs (fun k hk => (World.ownsRow.lt HOZ.out k hk).2))
    replace HOZ := hid' hoz
    clear hoz
    replace HS := hid' (HS.out.then (Nat.le_refl _) hs)
    replace HP := hid' hp
    clear hp hs
    generalize (PS.mk (PS.at_ s2 + 1) (PS.nodes s2) (PS.deep s2)) = s8 at HP HR
    have bx0 := BX.out.cell (j := 0) rfl
    have bx1 := BX.out.cell (j := 1) rfl
    have bx2 := BX.out.cell (j := 2) rfl
    have bxl := BX.out.lt
    go_wp2_with fail
    generalize hq9 : runF ts m (.block p) s8 = r9 at HR
    rcases r9 with _ | ⟨l9, p9⟩ | ⟨z9, y9, c9, s9⟩
    · exact absurd HR.out.symm hnr
    · refine Calls.mono (H.block p _ _ _ _ _ HP.out hq9 (by simp)) ?_
      rintro e wb hp
      have HF := hid' (FaultP.of_below hp HS.out.below)
      obtain ⟨gb, rfl, _⟩ := hp
      obtain rfl : R.bad l9 p9 = r := HR.out
      go_wp2
      exact ⟨rfl, HF.out⟩
    refine Calls.mono (H.block p _ _ _ _ _ HP.out hq9 (by simp)) ?_
    rintro e w9 ⟨vl9, vs9, rfl, hp, hs⟩
    have hle9 := HS.out.below.size
    replace BX := hid' (BX.out.stepR (by decide) (by decide) HP.out hs)
    have hoz := HOZ.out.step HP.out hs
    replace HOFF := hid' (HOFF.out.step hs (fun k hk => (World.ownsRow.lt HOZ.out k hk).2))
    replace HOZ := hid' hoz
    clear hoz
    replace HS := hid' (HS.out.then (Nat.le_refl _) hs)
    replace HP := hid' hp
    clear hp hs
    dsimp only [R.bind] at HR
    clear hq9
    clear bxl bx0 bx1 bx2
    go_wp2_with (at_builtin; refine num_plain HOZ.out z9 3 rfl HP.out.lowB (by simp) rfl (.tmp 24) (.tmp 28) (by rfl) (by rfl) (by rfl) ?_; intro g5 cap5 w5 q1 q2 q3 q4 q5; have HQ := hid' (row_push (m := 3) HP.out HS.out HOZ.out HOFF.out HV.out q2 q3 g5 cap5 q4); have HZ5 := hid' q1; clear q1 q2 q3 q4 q5)
    have HP9 := hid' HQ.out.1
    have HS9 := hid' HQ.out.2.1
    have HF9 := hid' HQ.out.2.2.1
    have HV9 := hid' HQ.out.2.2.2
    clear HP HS HOZ HOFF HV HQ BX
    have HP := HP9
    have HS := HS9
    have HOZ := HZ5
    have HOFF := HF9
    have HV := HV9
    clear HP9 HS9 HF9 HV9 HZ5
    have HVW := HV
    rw [addF] at HR
    by_cases hn11 : ¬ ((PS.nodes s9).length < 900000 ∧ (List.length ([z1, z2, z9] : List Int)) < 900000)
    · rw [if_neg hn11] at HR
      exact absurd HR.out.symm hnr
    rw [Decidable.not_not] at hn11
    rw [if_pos hn11] at HR
    go_wp2_with fail
    refine Calls.mono (p_add_any HP.out 43 pos ⟨#[]⟩ (by decide) _ ([z1, z2, z9]) HOZ.out HOFF.out hn11.1 hn11.2 (n := W.heap.size) HVW.out) ?_
    rintro e w11 ⟨rfl, vl11, vs11, hp, hs⟩
    replace HS := hid' (HS.out.trans hs)
    replace HP := hid' hp
    clear hp hs
    obtain rfl := HR.out
    go_wp2
    go_returns
    exact ⟨_, _, rfl, HP.out, HS.out⟩
  rw [if_neg h2] at HR
  rw [decide_eq_false h2, if_neg h2] at HSK
  go_wp2_with fail
  refine Calls.mono (HSK.out) ?_
  rintro e w12 ⟨rfl, hp, hst⟩
  have hs := hst.step w4.heap.size vl2 vs2
  clear hst
  replace BX := hid' (BX.out.stepR (by decide) (by decide) HP.out hs)
  have hoz := HOZ.out.step HP.out hs
  replace HOFF := hid' (HOFF.out.step hs (fun k hk => (World.ownsRow.lt HOZ.out k hk).2))
  replace HOZ := hid' hoz
  clear hoz
  replace HS := hid' (HS.out.then (Nat.le_refl _) hs)
  replace HP := hid' hp
  clear hp hs
  clear BX
  have HVW := HV
  rw [addF] at HR
  by_cases hn13 : ¬ ((PS.nodes s2).length < 900000 ∧ (List.length ([z1, z2] : List Int)) < 900000)
  · rw [if_neg hn13] at HR
    exact absurd HR.out.symm hnr
  rw [Decidable.not_not] at hn13
  rw [if_pos hn13] at HR
  go_wp2_with fail
  refine Calls.mono (p_add_any HP.out 43 pos ⟨#[]⟩ (by decide) _ ([z1, z2]) HOZ.out HOFF.out hn13.1 hn13.2 (n := W.heap.size) HVW.out) ?_
  rintro e w13 ⟨rfl, vl13, vs13, hp, hs⟩
  replace HS := hid' (HS.out.trans hs)
  replace HP := hid' hp
  clear hp hs
  obtain rfl := HR.out
  go_wp2
  go_returns
  exact ⟨_, _, rfl, HP.out, HS.out⟩

set_option maxRecDepth 10000 in
set_option maxHeartbeats 3200000 in
theorem elif_step {A : Nat → Addr} {B pb : Nat} {ts : List Tok} {tv : Value} {m : Nat} (p : Pl) (H : All A B pb ts tv m) : Does A B pb ts tv 75 #[ptr pb, plV p] (.elif p) (m + 1) := by
  intro W s vl vs r h hr hnr
  have HR := hid' hr
  have HP := hid' h
  have HS := hid' (Step.refl W.heap.size B pb W vl vs)
  have HLO := hid' h.lowB
  clear hr h
  rw [runF] at HR
  unfold bodyF at HR
  dsimp only at HR
  have hnot : ∀ (x : Bool) (w : World), (Op.unary .not (.bool x)).run Tryz.prog w = .ok (.bool (!x)) w := fun _ _ => rfl
  have hfk := tok_kind
  have hfp := tok_pos
  unfold ptr plV
  go_enter Tryz.func75, Tryz.ntmps75
  go_wp2_with fail
  have hp := HP.out.alloc (.cells #[.bool p.inner, .bool p.d, .bool p.l] 75)
  replace HS := hid' (HS.out.alloc (.cells #[.bool p.inner, .bool p.d, .bool p.l] 75) HLO.out)
  have BX := hid' (row_new W 75 [.bool p.inner, .bool p.d, .bool p.l])
  generalize hw0 : W.alloc (.cells #[.bool p.inner, .bool p.d, .bool p.l] 75) = w0 at hp HS
  have HW0 := hid' hw0
  clear hw0
  replace BX : Hid (RowV w0 W.heap.size 75 [.bool p.inner, .bool p.d, .bool p.l]) := hid' (by rw [← HW0.out]; exact BX.out)
  clear HW0
  replace HP := hid' hp
  clear hp
  rw [enterF, needF] at HR
  generalize ht1 : ts[PS.at_ s]? = o1 at HR
  rcases o1 with _ | t1
  · exact absurd HR.out.symm hnr
  try dsimp only at HR
  by_cases hl2 : ¬ sg t1 = sElif
  · rw [if_neg hl2] at HR
    go_wp2_with fail
    · refine Calls.mono (enter_miss HP.out t1 ht1 sElif hl2) ?_
      rintro e wb hp
      have HF := hid' (FaultP.of_below hp HS.out.below)
      obtain ⟨gb, rfl, _⟩ := hp
      obtain rfl : R.bad false t1.pos = r := HR.out
      go_wp2
      exact ⟨rfl, HF.out⟩
  rw [Decidable.not_not] at hl2
  rw [if_pos hl2] at HR
  try dsimp only at HR
  by_cases hd4 : PS.deep s = 60
  · rw [if_pos hd4] at HR
    go_wp2_with fail
    · refine Calls.mono (enter_deep HP.out t1 ht1 sElif hl2 hd4) ?_
      rintro e wb hp
      have HF := hid' (FaultP.of_below hp HS.out.below)
      obtain ⟨gb, rfl, _⟩ := hp
      obtain rfl : R.bad true t1.pos = r := HR.out
      go_wp2
      exact ⟨rfl, HF.out⟩
  rw [if_neg hd4] at HR
  go_wp2_with fail
  refine Calls.mono (enter_hit HP.out t1 ht1 sElif hl2 hd4) ?_
  rintro e w6 ⟨rfl, hp, hst⟩
  have hs := hst.step w0.heap.size vl vs
  clear hst
  replace BX := hid' (BX.out.stepR (by decide) (by decide) HP.out hs)
  replace HS := hid' (HS.out.then (Nat.le_refl _) hs)
  replace HP := hid' hp
  clear hp hs
  generalize (PS.mk (PS.at_ s + 1) (PS.nodes s) (PS.deep s + 1)) = s6 at HP HR
  have bx0 := BX.out.cell (j := 0) rfl
  have bx1 := BX.out.cell (j := 1) rfl
  have bx2 := BX.out.cell (j := 2) rfl
  have bxl := BX.out.lt
  go_wp2_with fail
  generalize hq7 : runF ts m (.cond _ p) s6 = r7 at HR
  rcases r7 with _ | ⟨l7, p7⟩ | ⟨z7, y7, c7, s7⟩
  · exact absurd HR.out.symm hnr
  clear bxl bx0 bx1 bx2
  · refine Calls.mono (H.cond _ p _ _ _ _ _ HP.out hq7 (by simp)) ?_
    rintro e wb hp
    have HF := hid' (FaultP.of_below hp HS.out.below)
    obtain ⟨gb, rfl, _⟩ := hp
    obtain rfl : R.bad l7 p7 = r := HR.out
    go_wp2
    exact ⟨rfl, HF.out⟩
  refine Calls.mono (H.cond _ p _ _ _ _ _ HP.out hq7 (by simp)) ?_
  rintro e w7 ⟨vl7, vs7, rfl, hp, hs⟩
  replace BX := hid' (BX.out.stepR (by decide) (by decide) HP.out hs)
  replace HS := hid' (HS.out.then (Nat.le_refl _) hs)
  replace HP := hid' hp
  clear hp hs
  try dsimp only [R.bind] at HR
  clear hq7
  clear BX
  rw [leaveF] at HR
  by_cases hd9 : PS.deep s7 = 0
  · rw [if_pos hd9] at HR
    exact absurd HR.out.symm hnr
  rw [if_neg hd9] at HR
  go_wp2_with fail
  refine Calls.mono (leave_any HP.out hd9) ?_
  rintro e w10 ⟨rfl, hp, hst⟩
  have hs := hst.step w7.heap.size vl7 vs7
  clear hst
  replace HS := hid' (HS.out.then (Nat.le_refl _) hs)
  replace HP := hid' hp
  clear hp hs
  generalize (PS.mk (PS.at_ s7) (PS.nodes s7) (PS.deep s7 - 1)) = s10 at HP HR
  have hol := own_new w10 B HP.out.lowB [z7] (by simp) #[.int .i64 z7] rfl 1 rfl
  have hle := HS.out.below.size
  have HV := hid' (fun k hk => Nat.le_trans hle (hol.2 k hk) : ∀ k, _ → W.heap.size ≤ k)
  have HOFF := hid' (Off.new HP.out hol.2)
  have HOZ := hid' hol.1
  clear hol hle
  replace HS := hid' (HS.out.alloc (.cells #[.int .i64 z7] 3) HLO.out)
  replace HP := hid' (HP.out.alloc (.cells #[.int .i64 z7] 3))
  unfold blockF at HR
  try dsimp only at HR
  go_wp2_with fail
  refine Calls.mono (addBlock_any HP.out _ z7 [] HOZ.out HOFF.out _ HR.out hnr W.heap.size HV.out) ?_
  rintro e we ⟨zb, sb, vle, vse, rfl, rfl, hp, hs⟩
  have HS2 := hid' (HS.out.trans hs)
  have HP2 := hid' hp
  clear hp hs
  go_wp2
  go_returns
  exact ⟨_, _, rfl, HP2.out, HS2.out⟩

set_option maxRecDepth 10000 in
set_option maxHeartbeats 6400000 in
theorem block_step {A : Nat → Addr} {B pb : Nat} {ts : List Tok} {tv : Value} {m : Nat} (p : Pl) (H : All A B pb ts tv m) : Does A B pb ts tv 73 #[ptr pb, plV p] (.block p) (m + 1) := by
  intro W s vl vs r h hr hnr
  have HR := hid' hr
  have HP := hid' h
  have HS := hid' (Step.refl W.heap.size B pb W vl vs)
  have HLO := hid' h.lowB
  clear hr h
  rw [runF] at HR
  unfold bodyF at HR
  dsimp only at HR
  have hnot : ∀ (x : Bool) (w : World), (Op.unary .not (.bool x)).run Tryz.prog w = .ok (.bool (!x)) w := fun _ _ => rfl
  have hfk := tok_kind
  have hfp := tok_pos
  unfold ptr plV
  go_enter Tryz.func73, Tryz.ntmps73
  go_wp2_with fail
  have hp := HP.out.alloc (.cells #[.bool p.inner, .bool p.d, .bool p.l] 75)
  replace HS := hid' (HS.out.alloc (.cells #[.bool p.inner, .bool p.d, .bool p.l] 75) HLO.out)
  have BX := hid' (row_new W 75 [.bool p.inner, .bool p.d, .bool p.l])
  generalize hw0 : W.alloc (.cells #[.bool p.inner, .bool p.d, .bool p.l] 75) = w0 at hp HS
  have HW0 := hid' hw0
  clear hw0
  replace BX : Hid (RowV w0 W.heap.size 75 [.bool p.inner, .bool p.d, .bool p.l]) := hid' (by rw [← HW0.out]; exact BX.out)
  clear HW0
  replace HP := hid' hp
  clear hp
  rw [enterF, needF] at HR
  generalize ht1 : ts[PS.at_ s]? = o1 at HR
  rcases o1 with _ | t1
  · exact absurd HR.out.symm hnr
  try dsimp only at HR
  by_cases hl2 : ¬ sg t1 = [58]
  · rw [if_neg hl2] at HR
    go_wp2_with fail
    · refine Calls.mono (enter_miss HP.out t1 ht1 [58] hl2) ?_
      rintro e wb hp
      have HF := hid' (FaultP.of_below hp HS.out.below)
      obtain ⟨gb, rfl, _⟩ := hp
      obtain rfl : R.bad false t1.pos = r := HR.out
      go_wp2
      exact ⟨rfl, HF.out⟩
  rw [Decidable.not_not] at hl2
  rw [if_pos hl2] at HR
  try dsimp only at HR
  by_cases hd4 : PS.deep s = 60
  · rw [if_pos hd4] at HR
    go_wp2_with fail
    · refine Calls.mono (enter_deep HP.out t1 ht1 [58] hl2 hd4) ?_
      rintro e wb hp
      have HF := hid' (FaultP.of_below hp HS.out.below)
      obtain ⟨gb, rfl, _⟩ := hp
      obtain rfl : R.bad true t1.pos = r := HR.out
      go_wp2
      exact ⟨rfl, HF.out⟩
  rw [if_neg hd4] at HR
  go_wp2_with fail
  refine Calls.mono (enter_hit HP.out t1 ht1 [58] hl2 hd4) ?_
  rintro e w6 ⟨rfl, hp, hst⟩
  have hs := hst.step w0.heap.size vl vs
  clear hst
  replace BX := hid' (BX.out.stepR (by decide) (by decide) HP.out hs)
  replace HS := hid' (HS.out.then (Nat.le_refl _) hs)
  replace HP := hid' hp
  clear hp hs
  generalize (PS.mk (PS.at_ s + 1) (PS.nodes s) (PS.deep s + 1)) = s6 at HP HR
  rw [kindF] at HR
  generalize ht7 : ts[PS.at_ s6]? = o7 at HR
  rcases o7 with _ | t7
  · exact absurd HR.out.symm hnr
  try dsimp only at HR
  have hbx := BX.out
  have hbo := hbx.open_ 0
  have hbc0 := hbx.cell (j := 0) rfl
  have hbc1 := hbx.cell (j := 1) rfl
  have hbc2 := hbx.cell (j := 2) rfl
  have hbl := hbx.lt
  go_wp2_with fail
  replace HP := hid' (HP.out.setBox hbx (by decide) (by decide) (by decide) HLO.out 0 (.bool true))
  replace HS := hid' (HS.out.set ⟨W.heap.size, 0, none⟩ (.bool true) (.inl (Nat.le_refl _)) HLO.out HP.out.high)
  replace BX : Hid (RowV (w6.setCell ⟨W.heap.size, 0, none⟩ (.bool true)) W.heap.size 75 [.bool true, .bool p.d, .bool p.l]) := hid' (hbx.set 0 (.bool true))
  clear hbx hbo hbc0 hbc1 hbc2 hbl
  go_wp2_with fail
  refine Calls.mono (p_token_any HP.out t7 ht7) ?_
  rintro e w8 ⟨rfl, b⟩
  have hp := HP.out.low b
  have hs := Step.low (n := (w6.setCell ⟨W.heap.size, 0, none⟩ (.bool true)).heap.size) HP.out b
  clear b
  replace BX := hid' (BX.out.stepR (by decide) (by decide) HP.out hs)
  replace HS := hid' (HS.out.then (Nat.le_refl _) hs)
  replace HP := hid' hp
  clear hp hs
  by_cases h5 : t7.kind = 5
  · rw [if_pos h5] at HR
    have q5 : ((t7.kind : Int) == 5) = true := by rw [h5]; rfl
    clear h5
    have bx0 := BX.out.cell (j := 0) rfl
    have bx1 := BX.out.cell (j := 1) rfl
    have bx2 := BX.out.cell (j := 2) rfl
    have bxl := BX.out.lt
    go_wp2_with fail
    generalize hq9 : runF ts m (.lines { p with inner := true }) s6 = r9 at HR
    rcases r9 with _ | ⟨l9, p9⟩ | ⟨z9, y9, c9, s9⟩
    · exact absurd HR.out.symm hnr
    clear bxl bx0 bx1 bx2
    · refine Calls.mono (H.lines { p with inner := true } _ _ _ _ _ HP.out hq9 (by simp)) ?_
      rintro e wb hp
      have HF := hid' (FaultP.of_below hp HS.out.below)
      obtain ⟨gb, rfl, _⟩ := hp
      obtain rfl : R.bad l9 p9 = r := HR.out
      go_wp2
      exact ⟨rfl, HF.out⟩
    refine Calls.mono (H.lines { p with inner := true } _ _ _ _ _ HP.out hq9 (by simp)) ?_
    rintro e w9 ⟨v9, vl9, vs9, rfl, hp, hs, ho, hv, hf⟩
    have HOZ := hid' ho
    have hle := HS.out.below.size
    have HV := hid' (fun k hk => Nat.le_trans hle (hv k hk) : ∀ k, _ → W.heap.size ≤ k)
    have HOFF := hid' hf
    clear ho hv hf hle BX
    replace HS := hid' (HS.out.then (Nat.le_refl _) hs)
    replace HP := hid' hp
    clear hp hs
    try dsimp only [R.bind] at HR
    clear hq9
    rw [leaveF] at HR
    by_cases hd11 : PS.deep s9 = 0
    · rw [if_pos hd11] at HR
      exact absurd HR.out.symm hnr
    rw [if_neg hd11] at HR
    go_wp2_with fail
    refine Calls.mono (leave_any HP.out hd11) ?_
    rintro e w12 ⟨rfl, hp, hst⟩
    have hs := hst.step w9.heap.size vl9 vs9
    clear hst
    have hoz := HOZ.out.step HP.out hs
    replace HOFF := hid' (HOFF.out.step hs (fun k hk => (World.ownsRow.lt HOZ.out k hk).2))
    replace HOZ := hid' hoz
    clear hoz
    replace HS := hid' (HS.out.then (Nat.le_refl _) hs)
    replace HP := hid' hp
    clear hp hs
    generalize (PS.mk (PS.at_ s9) (PS.nodes s9) (PS.deep s9 - 1)) = s12 at HP HR
    rcases y9 with _ | ⟨z0, zr0⟩
    · exact absurd HR.out.symm hnr
    unfold blockF at HR
    try dsimp only at HR
    go_wp2_with fail
    refine Calls.mono (addBlock_any HP.out _ z0 zr0 HOZ.out HOFF.out _ HR.out hnr W.heap.size HV.out) ?_
    rintro e we ⟨zb, sb, vle, vse, rfl, rfl, hp, hs⟩
    have HS2 := hid' (HS.out.trans hs)
    have HP2 := hid' hp
    clear hp hs
    go_wp2
    go_returns
    exact ⟨_, _, rfl, HP2.out, HS2.out⟩
  rw [if_neg h5] at HR
  have q5 : ((t7.kind : Int) == 5) = false := by simp; omega
  clear h5
  have bx0 := BX.out.cell (j := 0) rfl
  have bx1 := BX.out.cell (j := 1) rfl
  have bx2 := BX.out.cell (j := 2) rfl
  have bxl := BX.out.lt
  go_wp2_with fail
  generalize hq14 : runF ts m (.line { p with inner := true }) s6 = r14 at HR
  rcases r14 with _ | ⟨l14, p14⟩ | ⟨z14, y14, c14, s14⟩
  · exact absurd HR.out.symm hnr
  · refine Calls.mono (H.line { p with inner := true } _ _ _ _ _ HP.out hq14 (by simp)) ?_
    rintro e wb hp
    have HF := hid' (FaultP.of_below hp HS.out.below)
    obtain ⟨gb, rfl, _⟩ := hp
    obtain rfl : R.bad l14 p14 = r := HR.out
    go_wp2
    exact ⟨rfl, HF.out⟩
  refine Calls.mono (H.line { p with inner := true } _ _ _ _ _ HP.out hq14 (by simp)) ?_
  rintro e w14 ⟨vl14, vs14, rfl, hp, hs⟩
  have hle14 := HS.out.below.size
  replace BX := hid' (BX.out.stepR (by decide) (by decide) HP.out hs)
  replace HS := hid' (HS.out.then (Nat.le_refl _) hs)
  replace HP := hid' hp
  clear hp hs
  dsimp only [R.bind] at HR
  clear hq14
  clear bxl bx0 bx1 bx2
  have HOZ := hid' (OwnZ.nil w14 B)
  have HOFF := hid' (off_nil vs14 0 0)
  have HV := hid' (fun _ e => by simp [Value.ownBlock] at e : ∀ k, (Value.slice none 0 0).ownBlock = some k → W.heap.size ≤ k)
  go_wp2_with (at_builtin; refine num_plain HOZ.out z14 1 rfl HP.out.lowB (by simp) rfl (.tmp 16) (.tmp 20) (by rfl) (by rfl) (by rfl) ?_; intro g5 cap5 w5 q1 q2 q3 q4 q5; have HQ := hid' (row_push (m := 1) HP.out HS.out HOZ.out HOFF.out HV.out q2 q3 g5 cap5 q4); have HZ5 := hid' q1; clear q1 q2 q3 q4 q5)
  have HP9 := hid' HQ.out.1
  have HS9 := hid' HQ.out.2.1
  have HF9 := hid' HQ.out.2.2.1
  have HV9 := hid' HQ.out.2.2.2
  clear HP HS HOZ HOFF HV HQ BX
  have HP := HP9
  have HS := HS9
  have HOZ := HZ5
  have HOFF := HF9
  have HV := HV9
  clear HP9 HS9 HF9 HV9 HZ5
  rw [leaveF] at HR
  by_cases hd16 : PS.deep s14 = 0
  · rw [if_pos hd16] at HR
    exact absurd HR.out.symm hnr
  rw [if_neg hd16] at HR
  go_wp2_with fail
  refine Calls.mono (leave_any HP.out hd16) ?_
  rintro e w17 ⟨rfl, hp, hst⟩
  have hs := hst.step w5.heap.size vl14 vs14
  clear hst
  have hoz := HOZ.out.step HP.out hs
  replace HOFF := hid' (HOFF.out.step hs (fun k hk => (World.ownsRow.lt HOZ.out k hk).2))
  replace HOZ := hid' hoz
  clear hoz
  replace HS := hid' (HS.out.then (Nat.le_refl _) hs)
  replace HP := hid' hp
  clear hp hs
  generalize (PS.mk (PS.at_ s14) (PS.nodes s14) (PS.deep s14 - 1)) = s17 at HP HR
  unfold blockF at HR
  try dsimp only at HR
  go_wp2_with fail
  refine Calls.mono (addBlock_any HP.out _ z14 [] HOZ.out HOFF.out _ HR.out hnr W.heap.size HV.out) ?_
  rintro e we ⟨zb, sb, vle, vse, rfl, rfl, hp, hs⟩
  have HS2 := hid' (HS.out.trans hs)
  have HP2 := hid' hp
  clear hp hs
  go_wp2
  go_returns
  exact ⟨_, _, rfl, HP2.out, HS2.out⟩

theorem own_apart_box {W : World} {B b0 : Nat} {v : Value} {zs : List Int} {cs : List Value} (h : OwnZ W B v zs) (hb : RowV W b0 75 cs) : v.ownBlock ≠ some b0 := fun e => ne_kind h hb (by decide) b0 e rfl

set_option maxRecDepth 10000 in
set_option maxHeartbeats 6400000 in
theorem lines_step {A : Nat → Addr} {B pb : Nat} {ts : List Tok} {tv : Value} {m : Nat} (p : Pl) (H : ∀ j, j ≤ m → All A B pb ts tv j) : DoesL A B pb ts tv 103 #[ptr pb, plV p] (.lines p) (m + 1) := by
  intro W s vl vs r h hr hnr
  have HR := hid' hr
  have HP := hid' h
  have HS := hid' (Step.refl W.heap.size B pb W vl vs)
  have HLO := hid' h.lowB
  clear hr h
  rw [runF] at HR
  unfold bodyF at HR
  dsimp only at HR
  have hnot : ∀ (x : Bool) (w : World), (Op.unary .not (.bool x)).run Tryz.prog w = .ok (.bool (!x)) w := fun _ _ => rfl
  have hfk := tok_kind
  have hfp := tok_pos
  unfold ptr plV
  go_enter Tryz.func103, Tryz.ntmps103
  go_wp2_with fail
  have hp := HP.out.alloc (.cells #[.bool p.inner, .bool p.d, .bool p.l] 75)
  replace HS := hid' (HS.out.alloc (.cells #[.bool p.inner, .bool p.d, .bool p.l] 75) HLO.out)
  have BX := hid' (row_new W 75 [.bool p.inner, .bool p.d, .bool p.l])
  generalize hw0 : W.alloc (.cells #[.bool p.inner, .bool p.d, .bool p.l] 75) = w0 at hp HS
  have HW0 := hid' hw0
  clear hw0
  replace BX : Hid (RowV w0 W.heap.size 75 [.bool p.inner, .bool p.d, .bool p.l]) := hid' (by rw [← HW0.out]; exact BX.out)
  clear HW0
  replace HP := hid' hp
  clear hp
  rw [takeKF] at HR
  generalize ht1 : ts[PS.at_ s]? = o1 at HR
  rcases o1 with _ | t1
  · exact absurd HR.out.symm hnr
  try dsimp only at HR
  by_cases hl2 : ¬ t1.kind = 5
  · rw [if_neg hl2] at HR
    go_wp2_with fail
    · refine Calls.mono (take_miss HP.out t1 ht1 5 hl2) ?_
      rintro e wb hp
      have HF := hid' (FaultP.of_below hp HS.out.below)
      obtain ⟨gb, rfl, _⟩ := hp
      obtain rfl : R.bad false t1.pos = r := HR.out
      go_wp2
      exact ⟨rfl, HF.out⟩
  rw [Decidable.not_not] at hl2
  rw [if_pos hl2] at HR
  go_wp2_with fail
  refine Calls.mono (take_hit HP.out t1 ht1 5 hl2) ?_
  rintro e w4 ⟨rfl, hp, hst⟩
  have hs := hst.step w0.heap.size vl vs
  clear hst
  replace BX := hid' (BX.out.stepR (by decide) (by decide) HP.out hs)
  replace HS := hid' (HS.out.then (Nat.le_refl _) hs)
  replace HP := hid' hp
  clear hp hs
  generalize (PS.mk (PS.at_ s + 1) (PS.nodes s) (PS.deep s)) = s4 at HP HR
  clear hl2
  rw [takeKF] at HR
  generalize ht5 : ts[PS.at_ s4]? = o5 at HR
  rcases o5 with _ | t5
  · exact absurd HR.out.symm hnr
  try dsimp only at HR
  by_cases hl6 : ¬ t5.kind = 6
  · rw [if_neg hl6] at HR
    go_wp2_with fail
    · refine Calls.mono (take_miss HP.out t5 ht5 6 hl6) ?_
      rintro e wb hp
      have HF := hid' (FaultP.of_below hp HS.out.below)
      obtain ⟨gb, rfl, _⟩ := hp
      obtain rfl : R.bad false t5.pos = r := HR.out
      go_wp2
      exact ⟨rfl, HF.out⟩
  rw [Decidable.not_not] at hl6
  rw [if_pos hl6] at HR
  go_wp2_with fail
  refine Calls.mono (take_hit HP.out t5 ht5 6 hl6) ?_
  rintro e w8 ⟨rfl, hp, hst⟩
  have hs := hst.step w4.heap.size vl vs
  clear hst
  replace BX := hid' (BX.out.stepR (by decide) (by decide) HP.out hs)
  replace HS := hid' (HS.out.then (Nat.le_refl _) hs)
  replace HP := hid' hp
  clear hp hs
  generalize (PS.mk (PS.at_ s4 + 1) (PS.nodes s4) (PS.deep s4)) = s8 at HP HR
  clear hl6
  have bx0 := BX.out.cell (j := 0) rfl
  have bx1 := BX.out.cell (j := 1) rfl
  have bx2 := BX.out.cell (j := 2) rfl
  have bxl := BX.out.lt
  go_wp2_with fail
  generalize hq9 : runF ts m (.statement p) s8 = r9 at HR
  rcases r9 with _ | ⟨l9, p9⟩ | ⟨z9, y9, c9, s9⟩
  · exact absurd HR.out.symm hnr
  · refine Calls.mono ((H m (Nat.le_refl _)).statement p _ _ _ _ _ HP.out hq9 (by simp)) ?_
    rintro e wb hp
    have HF := hid' (FaultP.of_below hp HS.out.below)
    obtain ⟨gb, rfl, _⟩ := hp
    obtain rfl : R.bad l9 p9 = r := HR.out
    go_wp2
    exact ⟨rfl, HF.out⟩
  refine Calls.mono ((H m (Nat.le_refl _)).statement p _ _ _ _ _ HP.out hq9 (by simp)) ?_
  rintro e w9 ⟨vl9, vs9, rfl, hp, hs⟩
  have hle9 := HS.out.below.size
  replace BX := hid' (BX.out.stepR (by decide) (by decide) HP.out hs)
  replace HS := hid' (HS.out.then (Nat.le_refl _) hs)
  replace HP := hid' hp
  clear hp hs
  dsimp only [R.bind] at HR
  clear hq9
  clear bxl bx0 bx1 bx2
  replace BX := hid' (row_alloc BX.out (.cells #[.int .i64 z9] 3))
  have hol := own_new w9 B HP.out.lowB [z9] (by simp) #[.int .i64 z9] rfl 1 rfl
  have hle := HS.out.below.size
  have HV := hid' (fun k hk => Nat.le_trans hle (hol.2 k hk) : ∀ k, _ → W.heap.size ≤ k)
  have HOFF := hid' (Off.new HP.out hol.2)
  have HOZ := hid' hol.1
  clear hol hle
  replace HS := hid' (HS.out.alloc (.cells #[.int .i64 z9] 3) HLO.out)
  replace HP := hid' (HP.out.alloc (.cells #[.int .i64 z9] 3))
  go_wp2_with fail
  go_loopg [5] m (fun gk u5 wr => ∃ (v : Value) (zs : List Int) (sr : PS) (vlr : Value) (vsr : List Value), gk ≤ m ∧ u5 = v ∧ zs.length < 900001 ∧ Hid (PV A B pb ts tv wr sr vlr vsr) ∧ Hid (Step W.heap.size B pb W vl vs wr vlr vsr) ∧ Hid (OwnZ wr B v zs) ∧ Hid (Off v vsr) ∧ Hid (∀ k, v.ownBlock = some k → W.heap.size ≤ k) ∧ Hid (RowV wr W.heap.size 75 [.bool p.inner, .bool p.d, .bool p.l]) ∧ Hid (runF ts gk (.linesLoop p zs) sr = r))
  case atStart => exact ⟨_, [z9], s9, vl9, vs9, Nat.le_refl _, rfl, by simp, HP, HS, HOZ, HOFF, HV, BX, HR⟩
  case round =>
    obtain ⟨v, zs, sr, vlr, vsr, hgk, rfl, hzl, HPr, HSr, HOZr, HOFFr, HVr, BXr, HRr⟩ := hrel
    clear HP HS HR HOZ HOFF HV BX
    have HP := HPr
    have HS := HSr
    have HR := HRr
    have HOZ := HOZr
    have HOFF := HOFFr
    have HV := HVr
    have BX := BXr
    clear HPr HSr HRr HOZr HOFFr HVr BXr
    rcases gk with _ | j
    · exact absurd HR.out.symm hnr
    rw [runF] at HR
    unfold bodyF at HR
    try dsimp only at HR
    rw [kindF] at HR
    generalize ht11 : ts[PS.at_ sr]? = o11 at HR
    rcases o11 with _ | t11
    · exact absurd HR.out.symm hnr
    try dsimp only at HR
    go_wp2_with fail
    refine Calls.mono (p_token_any HP.out t11 ht11) ?_
    rintro e w12 ⟨rfl, b⟩
    have hp := HP.out.low b
    have hs := Step.low (n := wr.heap.size) HP.out b
    clear b
    replace BX := hid' (BX.out.stepR (by decide) (by decide) HP.out hs)
    have hoz := HOZ.out.step HP.out hs
    replace HOFF := hid' (HOFF.out.step hs (fun k hk => (World.ownsRow.lt HOZ.out k hk).2))
    replace HOZ := hid' hoz
    clear hoz
    replace HS := hid' (HS.out.then (Nat.le_refl _) hs)
    replace HP := hid' hp
    clear hp hs
    by_cases h7 : t11.kind = 7
    · rw [if_pos h7] at HR
      have q7 : ((t11.kind : Int) != 7) = false := by rw [h7]; rfl
      clear h7 BX
      rw [takeKF] at HR
      generalize ht13 : ts[PS.at_ sr]? = o13 at HR
      rcases o13 with _ | t13
      · exact absurd HR.out.symm hnr
      try dsimp only at HR
      by_cases hl14 : ¬ t13.kind = 7
      · rw [if_neg hl14] at HR
        go_wp2_with fail
        · refine Calls.mono (take_miss HP.out t13 ht13 7 hl14) ?_
          rintro e wb hp
          have HF := hid' (FaultP.of_below hp HS.out.below)
          obtain ⟨gb, rfl, _⟩ := hp
          obtain rfl : R.bad false t13.pos = r := HR.out
          go_wp2
          exact ⟨rfl, HF.out⟩
      rw [Decidable.not_not] at hl14
      rw [if_pos hl14] at HR
      go_wp2_with fail
      refine Calls.mono (take_hit HP.out t13 ht13 7 hl14) ?_
      rintro e w16 ⟨rfl, hp, hst⟩
      have hs := hst.step w12.heap.size vlr vsr
      clear hst
      have hoz := HOZ.out.step HP.out hs
      replace HOFF := hid' (HOFF.out.step hs (fun k hk => (World.ownsRow.lt HOZ.out k hk).2))
      replace HOZ := hid' hoz
      clear hoz
      replace HS := hid' (HS.out.then (Nat.le_refl _) hs)
      replace HP := hid' hp
      clear hp hs
      generalize (PS.mk (PS.at_ sr + 1) (PS.nodes sr) (PS.deep sr)) = s16 at HP HR
      clear hl14
      obtain rfl := HR.out
      go_wp2
      go_returns
      exact ⟨_, _, _, rfl, HP.out, HS.out, HOZ.out, HV.out, HOFF.out⟩
    rw [if_neg h7] at HR
    have q7 : ((t11.kind : Int) != 7) = true := by simp; omega
    clear h7
    have bx0 := BX.out.cell (j := 0) rfl
    have bx1 := BX.out.cell (j := 1) rfl
    have bx2 := BX.out.cell (j := 2) rfl
    have bxl := BX.out.lt
    go_wp2_with fail
    generalize hq17 : runF ts j (.statement p) sr = r17 at HR
    rcases r17 with _ | ⟨l17, p17⟩ | ⟨z17, y17, c17, s17⟩
    · exact absurd HR.out.symm hnr
    · refine Calls.mono ((H j (by omega)).statement p _ _ _ _ _ HP.out hq17 (by simp)) ?_
      rintro e wb hp
      have HF := hid' (FaultP.of_below hp HS.out.below)
      obtain ⟨gb, rfl, _⟩ := hp
      obtain rfl : R.bad l17 p17 = r := HR.out
      go_wp2
      exact ⟨rfl, HF.out⟩
    refine Calls.mono ((H j (by omega)).statement p _ _ _ _ _ HP.out hq17 (by simp)) ?_
    rintro e w17 ⟨vl17, vs17, rfl, hp, hs⟩
    have hle17 := HS.out.below.size
    replace BX := hid' (BX.out.stepR (by decide) (by decide) HP.out hs)
    have hoz := HOZ.out.step HP.out hs
    replace HOFF := hid' (HOFF.out.step hs (fun k hk => (World.ownsRow.lt HOZ.out k hk).2))
    replace HOZ := hid' hoz
    clear hoz
    replace HS := hid' (HS.out.then (Nat.le_refl _) hs)
    replace HP := hid' hp
    clear hp hs
    dsimp only [R.bind] at HR
    clear hq17
    clear bxl bx0 bx1 bx2
    by_cases hzz : ¬ zs.length < 900000
    · rw [if_neg hzz] at HR
      exact absurd HR.out.symm hnr
    rw [Decidable.not_not] at hzz
    rw [if_pos hzz] at HR
    have HOZB := hid' (own_apart_box HOZ.out BX.out)
    go_wp2_with (at_builtin; refine num_plain HOZ.out z17 (zs.length + 1) rfl HP.out.lowB (by omega) rfl (.tmp 18) (.tmp 22) (by rfl) (by rfl) (by rfl) ?_; intro g5 cap5 w5 q1 q2 q3 q4 q5; have HQ := hid' (row_push (m := (zs.length + 1)) HP.out HS.out HOZ.out HOFF.out HV.out q2 q3 g5 cap5 q4); have HZ5 := hid' q1; have BX5 := hid' (RowV.far BX.out (q3 _ BX.out.lt HOZB.out)); clear q1 q2 q3 q4 q5)
    go_wp2
    go_roundg j
    case measure => omega
    case rel => exact ⟨_, zs ++ [z17], s17, vl17, vs17, by omega, rfl, by rw [List.length_append, List.length_singleton]; omega, HQ.out.1, HQ.out.2.1, HZ5, HQ.out.2.2.1, HQ.out.2.2.2, BX5, HR⟩
end Go.Proofs.YtpjjofdphlgeiaaGreatDoor
