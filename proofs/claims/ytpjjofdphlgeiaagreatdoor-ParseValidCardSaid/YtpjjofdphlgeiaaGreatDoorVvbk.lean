/- Parts of the proof, together. What leaf, word of the parser answers. Conditions: as told of less fuel. What atom of the parser answers. Conditions: as told of less fuel. What join of the parser answers. Conditions: as told of less fuel. What bare, tuple, round, testsOrNone of the parser answers. Conditions: as told of less fuel. What row, tests, targetRow of the parser answers. Conditions: as told of less fuel. What line, simple, statement of the parser answers. Conditions: as told of less fuel. What isCell, isTarget of the parser answers. Conditions: as told of less fuel. What assignment of the parser answers. Conditions: as told of less fuel. What alone of the parser answers. Conditions: as told of less fuel. What addBlock of the parser answers. Conditions: as told of less fuel. -/
import Derived.Test.YtpjjofdphlgeiaaGreatDoorVvbj
import Derived.Test.YtpjjofdphlgeiaaGreatDoorVvam
namespace Go.Proofs.YtpjjofdphlgeiaaGreatDoor
open Go.RowKit
open Lx Ax Px

set_option maxRecDepth 10000 in
set_option maxHeartbeats 1600000 in
theorem leaf_any {A : Nat → Addr} {B pb : Nat} {ts : List Tok} {tv : Value} {W : World} {s : PS} {vl : Value} {vs : List Value} (h : PV A B pb ts tv W s vl vs) (t : Tok) (ht : ts[s.at_]? = some t) (hsz : (txt t.text).size ≤ 1000000) (op : Int) (hn : s.nodes.length < 900000) :
    Calls Tryz.prog 172 #[.pointer (some ⟨pb, 0, none⟩), .int .i64 op] W fun e w' => e = .returned (.int .i64 (s.nodes.length : Int)) ∧ ∃ vl' vs', PV A B pb ts tv w' ⟨s.at_ + 1, s.nodes ++ [⟨op, 0, t.pos, txt t.text, []⟩], s.deep⟩ vl' vs' ∧ Step W.heap.size B pb W vl vs w' vl' vs' := by
  have HX := hid' (next_any h t ht)
  have HZ := hid' hsz
  have hlo := hid' h.lowB
  clear h ht hsz
  go_enter Tryz.func172, Tryz.ntmps172
  go_wp2_with fail
  refine Calls.mono HX.out ?_
  rintro e w2 ⟨rfl, p2, s2⟩
  have P2 := hid' p2
  have S2 := hid' s2
  clear p2 s2
  go_wp2_with fail
  refine Calls.mono (add_none (P2.out.alloc (.cells #[.int .i64 (t.kind : Int), .string (txt t.text), .int .i64 (t.pos : Int)] 71)) op t.pos (txt t.text) HZ.out hn) ?_
  rintro e w3 ⟨rfl, vl3, vs3, p3, s3⟩
  have P3 := hid' p3
  have S3 := hid' (((S2.out.step W.heap.size vl vs).alloc (.cells #[.int .i64 (t.kind : Int), .string (txt t.text), .int .i64 (t.pos : Int)] 71) hlo.out).then (Nat.le_refl _) s3)
  clear p3 s3
  go_wp2
  go_returns
  exact ⟨rfl, _, _, P3.out, S3.out⟩
set_option maxRecDepth 10000 in
theorem word_any {A : Nat → Addr} {B pb : Nat} {ts : List Tok} {tv : Value} {W : World} {s : PS} {vl : Value} {vs : List Value} (h : PV A B pb ts tv W s vl vs) (t : Tok) (ht : ts[s.at_]? = some t) (op : Int) (hn : s.nodes.length < 900000) :
    Calls Tryz.prog 108 #[.pointer (some ⟨pb, 0, none⟩), .int .i64 op] W fun e w' => e = .returned (.int .i64 (s.nodes.length : Int)) ∧ ∃ vl' vs', PV A B pb ts tv w' ⟨s.at_ + 1, s.nodes ++ [⟨op, 0, t.pos, ⟨#[]⟩, []⟩], s.deep⟩ vl' vs' ∧ Step W.heap.size B pb W vl vs w' vl' vs' := by
  have HX := hid' (next_any h t ht)
  have hfp := tok_pos
  have hlo := hid' h.lowB
  clear h ht
  go_enter Tryz.func108, Tryz.ntmps108
  go_wp2_with fail
  refine Calls.mono HX.out ?_
  rintro e w2 ⟨rfl, p2, s2⟩
  have P2 := hid' p2
  have S2 := hid' s2
  clear p2 s2
  go_wp2_with fail
  refine Calls.mono (add_none P2.out op t.pos ⟨#[]⟩ (by decide) hn) ?_
  rintro e w3 ⟨rfl, vl3, vs3, p3, s3⟩
  have P3 := hid' p3
  have S3 := hid' ((S2.out.step W.heap.size vl vs).then (Nat.le_refl _) s3)
  clear p3 s3
  go_wp2
  go_returns
  exact ⟨rfl, _, _, P3.out, S3.out⟩
end Go.Proofs.YtpjjofdphlgeiaaGreatDoor

namespace Go.Proofs.YtpjjofdphlgeiaaGreatDoor
open Go.RowKit
open Lx Ax Px

set_option maxRecDepth 10000 in
set_option maxHeartbeats 6400000 in
theorem atom_step {A : Nat → Addr} {B pb : Nat} {ts : List Tok} {tv : Value} {m : Nat} (hts : ∀ t ∈ ts, (txt t.text).size ≤ 1000000) (H : All A B pb ts tv m) : Does A B pb ts tv 162 #[ptr pb] .atom (m + 1) := by
  intro W s vl vs r h hr hnr
  have HR := hid' hr
  have HP := hid' h
  have HS := hid' (Step.refl W.heap.size B pb W vl vs)
  have HLO := hid' h.lowB
  clear hr h
  rw [runF] at HR
  unfold bodyF at HR
  dsimp only at HR
  have hnot : ∀ (x : Bool) (w : World), (Op.unary .not (.bool x)).run Tryz.prog w = .ok (.bool (!x)) w := fun _ _ => rfl
  have hfk := tok_kind
  have hfp := tok_pos
  have HTS := hid' hts
  clear hts
  unfold ptr
  go_enter Tryz.func162, Tryz.ntmps162
  have hmf : ∀ (fn : Fn) (first cap : Array Value) (w : World), (Instr.makeFunc fn first cap).run Tryz.prog w = .ok (.func fn first cap) w := fun _ _ _ _ => rfl
  rw [kindF] at HR
  generalize ht1 : ts[PS.at_ s]? = o1 at HR
  rcases o1 with _ | t1
  · exact absurd HR.out.symm hnr
  try dsimp only at HR
  go_wp2_with fail
  refine Calls.mono (p_token_any HP.out t1 ht1) ?_
  rintro e w2 ⟨rfl, b⟩
  have hp := HP.out.low b
  have hs := Step.low (n := W.heap.size) HP.out b
  clear b
  replace HS := hid' (HS.out.then (Nat.le_refl _) hs)
  replace HP := hid' hp
  clear hp hs
  by_cases k1 : t1.kind = 1
  · rw [if_pos k1] at HR
    have q1 : ((t1.kind : Int) == 1) = true := by rw [k1]; rfl
    clear k1
    rw [leafF, nextF, ht1] at HR
    try dsimp only at HR
    rw [addF] at HR
    by_cases hn : ¬ ((PS.nodes s).length < 900000 ∧ (List.length ([] : List Int)) < 900000)
    · rw [if_neg hn] at HR
      exact absurd HR.out.symm hnr
    rw [Decidable.not_not] at hn
    rw [if_pos hn] at HR
    go_wp2_with fail
    refine Calls.mono (leaf_any HP.out t1 ht1 (HTS.out _ (List.mem_of_getElem? ht1)) 6 hn.1) ?_
    rintro e we ⟨rfl, vle, vse, hp, hs⟩
    replace HS := hid' (HS.out.then (Nat.le_refl _) hs)
    replace HP := hid' hp
    clear hp hs
    obtain rfl := HR.out
    go_wp2
    go_returns
    exact ⟨_, _, rfl, HP.out, HS.out⟩
  rw [if_neg k1] at HR
  have q1 : ((t1.kind : Int) == 1) = false := by simp; omega
  by_cases k2 : t1.kind = 2
  · rw [if_pos k2] at HR
    have q2 : ((t1.kind : Int) == 2) = true := by rw [k2]; rfl
    clear k2
    rw [leafF, nextF, ht1] at HR
    try dsimp only at HR
    rw [addF] at HR
    by_cases hn : ¬ ((PS.nodes s).length < 900000 ∧ (List.length ([] : List Int)) < 900000)
    · rw [if_neg hn] at HR
      exact absurd HR.out.symm hnr
    rw [Decidable.not_not] at hn
    rw [if_pos hn] at HR
    go_wp2_with fail
    refine Calls.mono (leaf_any HP.out t1 ht1 (HTS.out _ (List.mem_of_getElem? ht1)) 4 hn.1) ?_
    rintro e we ⟨rfl, vle, vse, hp, hs⟩
    replace HS := hid' (HS.out.then (Nat.le_refl _) hs)
    replace HP := hid' hp
    clear hp hs
    obtain rfl := HR.out
    go_wp2
    go_returns
    exact ⟨_, _, rfl, HP.out, HS.out⟩
  rw [if_neg k2] at HR
  have q2 : ((t1.kind : Int) == 2) = false := by simp; omega
  by_cases k3 : t1.kind = 3
  · rw [if_pos k3] at HR
    have q3 : ((t1.kind : Int) == 3) = true := by rw [k3]; rfl
    clear k1 k2 k3
    go_wp2_with fail
    refine Calls.mono (H.texts _ _ _ _ _ HP.out HR.out hnr) ?_
    rintro e we hp
    clear HR
    rcases r with _ | ⟨lr, pr⟩ | ⟨zr, yr, cr, sr⟩
    · exact hp.elim
    · have HF := hid' (FaultP.of_below hp HS.out.below)
      obtain ⟨gb, rfl, _⟩ := hp
      go_wp2
      exact ⟨rfl, HF.out⟩
    obtain ⟨vle, vse, rfl, hp, hs⟩ := hp
    have HQ := hid' (HS.out.then (Nat.le_refl _) hs)
    have HP2 := hid' hp
    clear hp hs
    go_wp2
    go_returns
    exact ⟨_, _, rfl, HP2.out, HQ.out⟩
  rw [if_neg k3] at HR
  have q3 : ((t1.kind : Int) == 3) = false := by simp; omega
  clear k1 k2 k3
  rw [Px.signF] at HR
  rw [ht1] at HR
  try dsimp only at HR
  go_wp2_with fail
  refine Calls.mono (p_sign_any HP.out t1 ht1) ?_
  rintro e w3 ⟨rfl, b⟩
  have hp := HP.out.low b
  have hs := Step.low (n := w2.heap.size) HP.out b
  clear b
  replace HS := hid' (HS.out.then (Nat.le_refl _) hs)
  replace HP := hid' hp
  clear hp hs
  have f0 := str_is (sg t1) [78, 111, 110, 101]
  by_cases h0 : sg t1 = sNone
  · rw [if_pos h0] at HR
    rw [decide_eq_true (show sg t1 = [78, 111, 110, 101] from h0)] at f0
    clear h0
    rw [wordF, nextF, ht1] at HR
    try dsimp only at HR
    rw [addF] at HR
    by_cases hn : ¬ ((PS.nodes s).length < 900000 ∧ (List.length ([] : List Int)) < 900000)
    · rw [if_neg hn] at HR
      exact absurd HR.out.symm hnr
    rw [Decidable.not_not] at hn
    rw [if_pos hn] at HR
    go_wp2_with fail
    refine Calls.mono (word_any HP.out t1 ht1 1 hn.1) ?_
    rintro e we ⟨rfl, vle, vse, hp, hs⟩
    replace HS := hid' (HS.out.then (Nat.le_refl _) hs)
    replace HP := hid' hp
    clear hp hs
    obtain rfl := HR.out
    go_wp2
    go_returns
    exact ⟨_, _, rfl, HP.out, HS.out⟩
  rw [if_neg h0] at HR
  rw [decide_eq_false (show ¬ sg t1 = [78, 111, 110, 101] from h0)] at f0
  clear h0
  have f1 := str_is (sg t1) [84, 114, 117, 101]
  by_cases h1 : sg t1 = sTrue
  · rw [if_pos h1] at HR
    rw [decide_eq_true (show sg t1 = [84, 114, 117, 101] from h1)] at f1
    clear h1
    rw [wordF, nextF, ht1] at HR
    try dsimp only at HR
    rw [addF] at HR
    by_cases hn : ¬ ((PS.nodes s).length < 900000 ∧ (List.length ([] : List Int)) < 900000)
    · rw [if_neg hn] at HR
      exact absurd HR.out.symm hnr
    rw [Decidable.not_not] at hn
    rw [if_pos hn] at HR
    go_wp2_with fail
    refine Calls.mono (word_any HP.out t1 ht1 2 hn.1) ?_
    rintro e we ⟨rfl, vle, vse, hp, hs⟩
    replace HS := hid' (HS.out.then (Nat.le_refl _) hs)
    replace HP := hid' hp
    clear hp hs
    obtain rfl := HR.out
    go_wp2
    go_returns
    exact ⟨_, _, rfl, HP.out, HS.out⟩
  rw [if_neg h1] at HR
  rw [decide_eq_false (show ¬ sg t1 = [84, 114, 117, 101] from h1)] at f1
  clear h1
  have f2 := str_is (sg t1) [70, 97, 108, 115, 101]
  by_cases h2 : sg t1 = sFalse
  · rw [if_pos h2] at HR
    rw [decide_eq_true (show sg t1 = [70, 97, 108, 115, 101] from h2)] at f2
    clear h2
    rw [wordF, nextF, ht1] at HR
    try dsimp only at HR
    rw [addF] at HR
    by_cases hn : ¬ ((PS.nodes s).length < 900000 ∧ (List.length ([] : List Int)) < 900000)
    · rw [if_neg hn] at HR
      exact absurd HR.out.symm hnr
    rw [Decidable.not_not] at hn
    rw [if_pos hn] at HR
    go_wp2_with fail
    refine Calls.mono (word_any HP.out t1 ht1 3 hn.1) ?_
    rintro e we ⟨rfl, vle, vse, hp, hs⟩
    replace HS := hid' (HS.out.then (Nat.le_refl _) hs)
    replace HP := hid' hp
    clear hp hs
    obtain rfl := HR.out
    go_wp2
    go_returns
    exact ⟨_, _, rfl, HP.out, HS.out⟩
  rw [if_neg h2] at HR
  rw [decide_eq_false (show ¬ sg t1 = [70, 97, 108, 115, 101] from h2)] at f2
  clear h2
  have f3 := str_is (sg t1) [40]
  by_cases h3 : sg t1 = [40]
  · rw [if_pos h3] at HR
    rw [decide_eq_true (show sg t1 = [40] from h3)] at f3
    clear h3
    go_wp2_with fail
    refine Calls.mono (H.round _ _ _ _ _ HP.out HR.out hnr) ?_
    rintro e we hp
    clear HR
    rcases r with _ | ⟨lr, pr⟩ | ⟨zr, yr, cr, sr⟩
    · exact hp.elim
    · have HF := hid' (FaultP.of_below hp HS.out.below)
      obtain ⟨gb, rfl, _⟩ := hp
      go_wp2
      exact ⟨rfl, HF.out⟩
    obtain ⟨vle, vse, rfl, hp, hs⟩ := hp
    have HQ := hid' (HS.out.then (Nat.le_refl _) hs)
    have HP2 := hid' hp
    clear hp hs
    go_wp2
    go_returns
    exact ⟨_, _, rfl, HP2.out, HQ.out⟩
  rw [if_neg h3] at HR
  rw [decide_eq_false (show ¬ sg t1 = [40] from h3)] at f3
  clear h3
  have f4 := str_is (sg t1) [91]
  have f5 := str_is (sg t1) [123]
  by_cases h4 : sg t1 = [91]
  · rw [if_pos h4] at HR
    rw [decide_eq_true h4] at f4
    clear h4 f5
    go_wp2_with fail
    refine Calls.mono (H.list _ _ _ _ _ HP.out HR.out hnr) ?_
    rintro e we hp
    clear HR
    rcases r with _ | ⟨lr, pr⟩ | ⟨zr, yr, cr, sr⟩
    · exact hp.elim
    · have HF := hid' (FaultP.of_below hp HS.out.below)
      obtain ⟨gb, rfl, _⟩ := hp
      go_wp2
      exact ⟨rfl, HF.out⟩
    obtain ⟨vle, vse, rfl, hp, hs⟩ := hp
    have HQ := hid' (HS.out.then (Nat.le_refl _) hs)
    have HP2 := hid' hp
    clear hp hs
    go_wp2
    go_returns
    exact ⟨_, _, rfl, HP2.out, HQ.out⟩
  rw [if_neg h4] at HR
  rw [decide_eq_false h4] at f4
  clear h4
  by_cases h5 : sg t1 = [123]
  · rw [if_pos h5] at HR
    rw [decide_eq_true h5] at f5
    clear h5
    go_wp2_with fail
    refine Calls.mono (H.dict _ _ _ _ _ HP.out HR.out hnr) ?_
    rintro e we hp
    clear HR
    rcases r with _ | ⟨lr, pr⟩ | ⟨zr, yr, cr, sr⟩
    · exact hp.elim
    · have HF := hid' (FaultP.of_below hp HS.out.below)
      obtain ⟨gb, rfl, _⟩ := hp
      go_wp2
      exact ⟨rfl, HF.out⟩
    obtain ⟨vle, vse, rfl, hp, hs⟩ := hp
    have HQ := hid' (HS.out.then (Nat.le_refl _) hs)
    have HP2 := hid' hp
    clear hp hs
    go_wp2
    go_returns
    exact ⟨_, _, rfl, HP2.out, HQ.out⟩
  rw [if_neg h5] at HR
  rw [decide_eq_false h5] at f5
  clear h5
  rw [allowF, ht1] at HR
  try dsimp only at HR
  rw [if_neg (by simp)] at HR
  have hlo2 := HP.out.lowB
  have hce := HP.out.env.parse
  have hlow := Nat.lt_of_lt_of_le HP.out.env.low.1 hlo2
  go_wp2
  refine wp_region_held_drew (S := fun W' => Below w3.heap.size w3 W') (by kernel_rfl) (Below.refl _ _).drew (fun hHeld => ?_)
  refine take_val' (i := 0) (v := .pointer (some ⟨pb, 0, none⟩)) rfl (by kernel_rfl) (by kernel_rfl) (by kernel_rfl) (some 46) rfl (fun _ _ _ h => h) (Or.inl ⟨by rfl, fun W' hW => by go_simp⟩) hHeld ?_
  try simp only [Act.put, List.setIfInBounds_toArray, List.set_cons_zero, List.set_cons_succ]
  refine take_val' (i := 3) (v := E A 1) rfl (by kernel_rfl) (by kernel_rfl) (by kernel_rfl) (some 49) rfl (fun _ _ _ h => h) (Or.inl ⟨by rfl, fun W' hW => by have c2 := (hW.cell (p := ⟨3, 0, none⟩) hlow).trans hce; go_simp⟩) hHeld ?_
  try simp only [Act.put, List.setIfInBounds_toArray, List.set_cons_zero, List.set_cons_succ]
  refine wpAnyH_ready (rs := [1]) (by kernel_rfl) (by simp) ?_
  refine AllReadyH.cons rfl (fun K hK => ?_) AllReadyH.nil
  go_simp
  refine Calls.mono (p_token_any (HP.out.low hHeld) t1 ht1) ?_
  rintro e wq ⟨rfl, bq⟩
  have b3 := Below.thenB hHeld bq
  clear bq hHeld
  refine hK.out _ _ b3 (fun hHeld => ?_)
  clear hK K
  try simp only [Act.put, List.setIfInBounds_toArray, List.set_cons_zero, List.set_cons_succ]
  refine take_val' (i := 2) (v := .int .i64 (t1.pos : Int)) rfl (by kernel_rfl) (by kernel_rfl) (by kernel_rfl) (some 48) rfl (fun _ _ _ h => h) (Or.inl ⟨by rfl, fun W' hW => by go_simp⟩) hHeld ?_
  try simp only [Act.put, List.setIfInBounds_toArray, List.set_cons_zero, List.set_cons_succ]
  refine wpAnyH_ready (rs := [4]) (by kernel_rfl) (by simp) ?_
  refine AllReadyH.cons rfl (fun K hK => ?_) AllReadyH.nil
  go_simp
  refine Calls.mono (p_fault_any A 1 _ _) ?_
  rintro e wf ⟨rfl, rfl⟩
  have b4 := b3.alloc b3.size (.cells #[.int .i64 (t1.pos : Int), E A 1] 84)
  clear hHeld
  refine hK.out _ _ b4 (fun hHeld => ?_)
  clear hK K
  try simp only [Act.put, List.setIfInBounds_toArray, List.set_cons_zero, List.set_cons_succ]
  refine take_val' (i := 5) (v := .iface 67 (.pointer (some ⟨wq.heap.size, 0, none⟩))) rfl (by kernel_rfl) (by kernel_rfl) (by kernel_rfl) (some 51) rfl (fun _ _ _ h => h) (Or.inl ⟨by rfl, fun W' hW => by go_simp⟩) hHeld ?_
  try simp only [Act.put, List.setIfInBounds_toArray, List.set_cons_zero, List.set_cons_succ]
  refine wpAnyH_ready (rs := [6]) (by kernel_rfl) (by simp) ?_
  refine AllReadyH.cons rfl (fun K hK => ?_) AllReadyH.nil
  go_simp
  obtain rfl : R.bad false t1.pos = r := HR.out
  exact ⟨rfl, (fault_end b3 hlo2 false 1 rfl _).of_below HS.out.below⟩
end Go.Proofs.YtpjjofdphlgeiaaGreatDoor

namespace Go.Proofs.YtpjjofdphlgeiaaGreatDoor
open Go.RowKit
open Lx Ax Px

/-- What join answers. -/
def JoinP (A : Nat → Addr) (B pb : Nat) (ts : List Tok) (tv : Value) (W : World) (vl : Value) (vs : List Value) (n : Nat) (r : R) (e : Ending) (w' : World) : Prop := ∃ z s' vl' vs', r = .ok z [] false s' ∧ e = .returned (.int .i64 z) ∧ PV A B pb ts tv w' s' vl' vs' ∧ Step n B pb W vl vs w' vl' vs'
set_option maxRecDepth 10000 in
theorem join_any {A : Nat → Addr} {B pb : Nat} {ts : List Tok} {tv : Value} {W : World} {s : PS} {vl : Value} {vs : List Value} (h : PV A B pb ts tv W s vl vs) (v : Value) (zs : List Int) (c : Bool) (pos : Int) (hz : OwnZ W B v zs) (hoff : Off v vs) (r : R) (hr : joinF zs c pos s = r) (hnr : r ≠ .stuck) (n : Nat) (hv : ∀ k, v.ownBlock = some k → n ≤ k) :
    Calls Tryz.prog 90 #[.pointer (some ⟨pb, 0, none⟩), v, .bool c, .int .i64 pos] W (JoinP A B pb ts tv W vl vs n r) := by
  have hnot : ∀ (x : Bool) (w : World), (Op.unary .not (.bool x)).run Tryz.prog w = .ok (.bool (!x)) w := fun _ _ => rfl
  have HP := hid' h
  clear h
  unfold joinF at hr
  cases c with
  | false =>
    rw [if_neg (by simp)] at hr
    rcases zs with _ | ⟨z, zr⟩
    · exact absurd hr.symm hnr
    have HR := hid' hr
    obtain ⟨g, cap, rfl, hcap, _, hg, hc⟩ := own_some hz (by simp)
    have c0 := hc 0 (.int .i64 z) (by simp [nums])
    have hlen : (0 : Int) < ((z :: zr).length : Int) := by simp only [List.length_cons]; omega
    generalize (z :: zr).length = m at hlen hcap hz
    have hm : (0 : Int) ≤ 0 ∧ (0 : Int) < (m : Int) := ⟨by omega, hlen⟩
    clear hc hr hz hoff hv
    go_enter Tryz.func90, Tryz.ntmps90
    go_wp2
    go_returns
    exact ⟨z, s, vl, vs, HR.out.symm, rfl, HP.out, Step.refl _ _ _ _ _ _⟩
  | true =>
    rw [if_pos rfl, addF] at hr
    by_cases hn : ¬ (s.nodes.length < 900000 ∧ zs.length < 900000)
    · rw [if_neg hn] at hr
      exact absurd hr.symm hnr
    rw [Decidable.not_not] at hn
    rw [if_pos hn] at hr
    have HR := hid' hr
    have HA := hid' (p_add_any (n := n) HP.out 8 pos ⟨#[]⟩ (by decide) v zs hz hoff hn.1 hn.2 hv)
    clear hr hz hoff hv
    go_enter Tryz.func90, Tryz.ntmps90
    go_wp2_with fail
    refine Calls.mono HA.out ?_
    rintro e w2 ⟨rfl, vl2, vs2, p2, s2⟩
    have P2 := hid' p2
    have S2 := hid' s2
    clear p2 s2
    go_wp2
    go_returns
    exact ⟨_, _, _, _, HR.out.symm, rfl, P2.out, S2.out⟩
end Go.Proofs.YtpjjofdphlgeiaaGreatDoor

namespace Go.Proofs.YtpjjofdphlgeiaaGreatDoor
open Go.RowKit
open Lx Ax Px

set_option maxRecDepth 10000 in
set_option maxHeartbeats 1600000 in
theorem bare_step {A : Nat → Addr} {B pb : Nat} {ts : List Tok} {tv : Value} {m : Nat} (k : Nat) (fr : FuncId) (hcr : ∀ args w, (callFunc fr args).run Tryz.prog w = .ok (.enter fr args) w) (H : DoesR A B pb ts tv fr #[ptr pb] (.row k) m) : Does A B pb ts tv 66 #[ptr pb, bound fr pb] (.bare k) (m + 1) := by
  intro W s vl vs r h hr hnr
  have HR := hid' hr
  have HP := hid' h
  have HS := hid' (Step.refl W.heap.size B pb W vl vs)
  have HLO := hid' h.lowB
  clear hr h
  rw [runF] at HR
  unfold bodyF at HR
  dsimp only at HR
  have hnot : ∀ (x : Bool) (w : World), (Op.unary .not (.bool x)).run Tryz.prog w = .ok (.bool (!x)) w := fun _ _ => rfl
  have hfk := tok_kind
  have hfp := tok_pos
  unfold ptr bound
  go_enter Tryz.func66, Tryz.ntmps66
  rw [nextF] at HR
  generalize ht1 : ts[PS.at_ s]? = o1 at HR
  rcases o1 with _ | t1
  · exact absurd HR.out.symm hnr
  try dsimp only at HR
  go_wp2_with fail
  refine Calls.mono (p_token_any HP.out t1 ht1) ?_
  rintro e w2 ⟨rfl, b⟩
  have hp := HP.out.low b
  have hs := Step.low (n := W.heap.size) HP.out b
  clear b
  replace HS := hid' (HS.out.then (Nat.le_refl _) hs)
  replace HP := hid' hp
  clear hp hs
  go_wp2_with fail
  generalize hq3 : runF ts m (.row k) s = r3 at HR
  rcases r3 with _ | ⟨l3, p3⟩ | ⟨z3, y3, c3, s3⟩
  · exact absurd HR.out.symm hnr
  · refine Calls.mono (H _ _ _ _ _ HP.out hq3 (by simp)) ?_
    rintro e wb hp
    have HF := hid' (FaultP.of_below hp HS.out.below)
    obtain ⟨gb, rfl, _⟩ := hp
    obtain rfl : R.bad l3 p3 = r := HR.out
    go_wp2
    exact ⟨rfl, HF.out⟩
  refine Calls.mono (H _ _ _ _ _ HP.out hq3 (by simp)) ?_
  rintro e w3 ⟨v3, vl3, vs3, rfl, hp, hs, ho, hv, hf⟩
  have HOZ := hid' ho
  have HV := hid' hv
  have HOFF := hid' hf
  clear ho hv hf
  have hle3 := HS.out.below.size
  replace HS := hid' (HS.out.then (Nat.le_refl _) hs)
  replace HP := hid' hp
  clear hp hs
  dsimp only [R.bind] at HR
  clear hq3
  have hleV := hle3
  have HVW := hid' (fun k hk => Nat.le_trans hleV (HV.out k hk) : ∀ k, _ → W.heap.size ≤ k)
  go_wp2_with fail
  refine Calls.mono (join_any HP.out _ _ _ _ HOZ.out HOFF.out _ HR.out hnr W.heap.size HVW.out) ?_
  rintro e we ⟨zr, sr, vle, vse, rfl, rfl, hp, hs⟩
  have HS2 := hid' (HS.out.trans hs)
  have HP2 := hid' hp
  clear hp hs
  go_wp2
  go_returns
  exact ⟨_, _, rfl, HP2.out, HS2.out⟩

set_option maxRecDepth 10000 in
set_option maxHeartbeats 1600000 in
theorem tuple_step {A : Nat → Addr} {B pb : Nat} {ts : List Tok} {tv : Value} {m : Nat} (H : All A B pb ts tv m) : Does A B pb ts tv 46 #[ptr pb] (.bare 0) (m + 1) := by
  intro W s vl vs r h hr hnr
  have HR := hid' hr
  have HP := hid' h
  have HS := hid' (Step.refl W.heap.size B pb W vl vs)
  have HLO := hid' h.lowB
  clear hr h
  have hmf : ∀ (fn : Fn) (first cap : Array Value) (w : World), (Instr.makeFunc fn first cap).run Tryz.prog w = .ok (.func fn first cap) w := fun _ _ _ _ => rfl
  unfold ptr
  go_enter Tryz.func46, Tryz.ntmps46
  go_wp2_with fail
  refine Calls.mono (bare_step 0 67 (fun _ _ => rfl) H.tests _ _ _ _ _ HP.out HR.out hnr) ?_
  rintro e we hp
  clear HR
  rcases r with _ | ⟨lr, pr⟩ | ⟨zr, yr, cr, sr⟩
  · exact hp.elim
  · have HF := hid' (FaultP.of_below hp HS.out.below)
    obtain ⟨gb, rfl, _⟩ := hp
    go_wp2
    exact ⟨rfl, HF.out⟩
  obtain ⟨vle, vse, rfl, hp, hs⟩ := hp
  have HQ := hid' (HS.out.then (Nat.le_refl _) hs)
  have HP2 := hid' hp
  clear hp hs
  go_wp2
  go_returns
  exact ⟨_, _, rfl, HP2.out, HQ.out⟩

set_option maxRecDepth 10000 in
set_option maxHeartbeats 1600000 in
theorem targets_step {A : Nat → Addr} {B pb : Nat} {ts : List Tok} {tv : Value} {m : Nat} (H : All A B pb ts tv m) : Does A B pb ts tv 77 #[ptr pb] (.bare 1) (m + 1) := by
  intro W s vl vs r h hr hnr
  have HR := hid' hr
  have HP := hid' h
  have HS := hid' (Step.refl W.heap.size B pb W vl vs)
  have HLO := hid' h.lowB
  clear hr h
  have hmf : ∀ (fn : Fn) (first cap : Array Value) (w : World), (Instr.makeFunc fn first cap).run Tryz.prog w = .ok (.func fn first cap) w := fun _ _ _ _ => rfl
  unfold ptr
  go_enter Tryz.func77, Tryz.ntmps77
  go_wp2_with fail
  refine Calls.mono (bare_step 1 104 (fun _ _ => rfl) H.trow _ _ _ _ _ HP.out HR.out hnr) ?_
  rintro e we hp
  clear HR
  rcases r with _ | ⟨lr, pr⟩ | ⟨zr, yr, cr, sr⟩
  · exact hp.elim
  · have HF := hid' (FaultP.of_below hp HS.out.below)
    obtain ⟨gb, rfl, _⟩ := hp
    go_wp2
    exact ⟨rfl, HF.out⟩
  obtain ⟨vle, vse, rfl, hp, hs⟩ := hp
  have HQ := hid' (HS.out.then (Nat.le_refl _) hs)
  have HP2 := hid' hp
  clear hp hs
  go_wp2
  go_returns
  exact ⟨_, _, rfl, HP2.out, HQ.out⟩

set_option maxRecDepth 10000 in
set_option maxHeartbeats 1600000 in
theorem round_any {A : Nat → Addr} {B pb : Nat} {ts : List Tok} {tv : Value} {m : Nat} (k : Nat) (q : Q) (hqq : (if k = 0 then Q.orNone else Q.row 1) = q) (fr : FuncId) (hcr : ∀ args w, (callFunc fr args).run Tryz.prog w = .ok (.enter fr args) w) (H : DoesR A B pb ts tv fr #[ptr pb] q m) : Does A B pb ts tv 147 #[ptr pb, bound fr pb] (.round k) (m + 1) := by
  intro W s vl vs r h hr hnr
  have HR := hid' hr
  have HP := hid' h
  have HS := hid' (Step.refl W.heap.size B pb W vl vs)
  have HLO := hid' h.lowB
  clear hr h
  rw [runF] at HR
  unfold bodyF at HR
  dsimp only at HR
  have hnot : ∀ (x : Bool) (w : World), (Op.unary .not (.bool x)).run Tryz.prog w = .ok (.bool (!x)) w := fun _ _ => rfl
  have hfk := tok_kind
  have hfp := tok_pos
  rw [hqq] at HR
  unfold ptr bound
  go_enter Tryz.func147, Tryz.ntmps147
  rw [enterF, needF] at HR
  generalize ht1 : ts[PS.at_ s]? = o1 at HR
  rcases o1 with _ | t1
  · exact absurd HR.out.symm hnr
  try dsimp only at HR
  by_cases hl2 : ¬ sg t1 = [40]
  · rw [if_neg hl2] at HR
    go_wp2_with fail
    · refine Calls.mono (enter_miss HP.out t1 ht1 [40] hl2) ?_
      rintro e wb hp
      have HF := hid' (FaultP.of_below hp HS.out.below)
      obtain ⟨gb, rfl, _⟩ := hp
      obtain rfl : R.bad false t1.pos = r := HR.out
      go_wp2
      exact ⟨rfl, HF.out⟩
  rw [Decidable.not_not] at hl2
  rw [if_pos hl2] at HR
  try dsimp only at HR
  by_cases hd4 : PS.deep s = 60
  · rw [if_pos hd4] at HR
    go_wp2_with fail
    · refine Calls.mono (enter_deep HP.out t1 ht1 [40] hl2 hd4) ?_
      rintro e wb hp
      have HF := hid' (FaultP.of_below hp HS.out.below)
      obtain ⟨gb, rfl, _⟩ := hp
      obtain rfl : R.bad true t1.pos = r := HR.out
      go_wp2
      exact ⟨rfl, HF.out⟩
  rw [if_neg hd4] at HR
  go_wp2_with fail
  refine Calls.mono (enter_hit HP.out t1 ht1 [40] hl2 hd4) ?_
  rintro e w6 ⟨rfl, hp, hst⟩
  have hs := hst.step W.heap.size vl vs
  clear hst
  replace HS := hid' (HS.out.then (Nat.le_refl _) hs)
  replace HP := hid' hp
  clear hp hs
  generalize (PS.mk (PS.at_ s + 1) (PS.nodes s) (PS.deep s + 1)) = s6 at HP HR
  go_wp2_with fail
  generalize hq7 : runF ts m q s6 = r7 at HR
  rcases r7 with _ | ⟨l7, p7⟩ | ⟨z7, y7, c7, s7⟩
  · exact absurd HR.out.symm hnr
  · refine Calls.mono (H _ _ _ _ _ HP.out hq7 (by simp)) ?_
    rintro e wb hp
    have HF := hid' (FaultP.of_below hp HS.out.below)
    obtain ⟨gb, rfl, _⟩ := hp
    obtain rfl : R.bad l7 p7 = r := HR.out
    go_wp2
    exact ⟨rfl, HF.out⟩
  refine Calls.mono (H _ _ _ _ _ HP.out hq7 (by simp)) ?_
  rintro e w7 ⟨v7, vl7, vs7, rfl, hp, hs, ho, hv, hf⟩
  have HOZ := hid' ho
  have HV := hid' hv
  have HOFF := hid' hf
  clear ho hv hf
  have hle7 := HS.out.below.size
  replace HS := hid' (HS.out.then (Nat.le_refl _) hs)
  replace HP := hid' hp
  clear hp hs
  dsimp only [R.bind] at HR
  clear hq7
  have hleV := hle7
  rw [needF] at HR
  generalize ht9 : ts[PS.at_ s7]? = o9 at HR
  rcases o9 with _ | t9
  · exact absurd HR.out.symm hnr
  try dsimp only at HR
  by_cases hl10 : ¬ sg t9 = [41]
  · rw [if_neg hl10] at HR
    go_wp2_with fail
    · refine Calls.mono (shut_miss HP.out t9 ht9 [41] hl10) ?_
      rintro e wb hp
      have HF := hid' (FaultP.of_below hp HS.out.below)
      obtain ⟨gb, rfl, _⟩ := hp
      obtain rfl : R.bad false t9.pos = r := HR.out
      go_wp2
      exact ⟨rfl, HF.out⟩
  rw [Decidable.not_not] at hl10
  rw [if_pos hl10, leaveF] at HR
  try dsimp only at HR
  by_cases hd11 : PS.deep s7 = 0
  · rw [if_pos hd11] at HR
    exact absurd HR.out.symm hnr
  rw [if_neg hd11] at HR
  go_wp2_with fail
  refine Calls.mono (shut_hit HP.out t9 ht9 [41] hl10 hd11) ?_
  rintro e w13 ⟨rfl, hp, hst⟩
  have hs := hst.step w7.heap.size vl7 vs7
  clear hst
  have hoz := HOZ.out.step HP.out hs
  replace HOFF := hid' (HOFF.out.step hs (fun k hk => (World.ownsRow.lt HOZ.out k hk).2))
  replace HOZ := hid' hoz
  clear hoz
  replace HS := hid' (HS.out.then (Nat.le_refl _) hs)
  replace HP := hid' hp
  clear hp hs
  generalize (PS.mk (PS.at_ s7 + 1) (PS.nodes s7) (PS.deep s7 - 1)) = s13 at HP HR
  have HVW := hid' (fun k hk => Nat.le_trans hleV (HV.out k hk) : ∀ k, _ → W.heap.size ≤ k)
  go_wp2_with fail
  refine Calls.mono (join_any HP.out _ _ _ _ HOZ.out HOFF.out _ HR.out hnr W.heap.size HVW.out) ?_
  rintro e we ⟨zr, sr, vle, vse, rfl, rfl, hp, hs⟩
  have HS2 := hid' (HS.out.trans hs)
  have HP2 := hid' hp
  clear hp hs
  go_wp2
  go_returns
  exact ⟨_, _, rfl, HP2.out, HS2.out⟩

set_option maxRecDepth 20000 in
theorem round_step {A : Nat → Addr} {B pb : Nat} {ts : List Tok} {tv : Value} {m : Nat} (H : All A B pb ts tv m) : Does A B pb ts tv 147 #[ptr pb, bound 174 pb] (.round 0) (m + 1) := round_any 0 _ rfl 174 (fun _ _ => rfl) H.orNone

set_option maxRecDepth 20000 in
theorem round1_step {A : Nat → Addr} {B pb : Nat} {ts : List Tok} {tv : Value} {m : Nat} (H : All A B pb ts tv m) : Does A B pb ts tv 147 #[ptr pb, bound 104 pb] (.round 1) (m + 1) := round_any 1 _ rfl 104 (fun _ _ => rfl) H.trow

set_option maxRecDepth 10000 in
set_option maxHeartbeats 1600000 in
theorem orNone_step {A : Nat → Addr} {B pb : Nat} {ts : List Tok} {tv : Value} {m : Nat} (H : All A B pb ts tv m) : DoesR A B pb ts tv 174 #[ptr pb] .orNone (m + 1) := by
  intro W s vl vs r h hr hnr
  have HR := hid' hr
  have HP := hid' h
  have HS := hid' (Step.refl W.heap.size B pb W vl vs)
  have HLO := hid' h.lowB
  clear hr h
  rw [runF] at HR
  unfold bodyF at HR
  dsimp only at HR
  have hnot : ∀ (x : Bool) (w : World), (Op.unary .not (.bool x)).run Tryz.prog w = .ok (.bool (!x)) w := fun _ _ => rfl
  have hfk := tok_kind
  have hfp := tok_pos
  unfold ptr
  go_enter Tryz.func174, Tryz.ntmps174
  rw [beginsF] at HR
  generalize ht1 : ts[PS.at_ s]? = o1 at HR
  rcases o1 with _ | t1
  · exact absurd HR.out.symm hnr
  try dsimp only at HR
  go_wp2_with fail
  refine Calls.mono (begins_any HP.out t1 ht1) ?_
  rintro e w2 ⟨rfl, b⟩
  have hp := HP.out.low b
  have hs := Step.low (n := W.heap.size) HP.out b
  clear b
  replace HS := hid' (HS.out.then (Nat.le_refl _) hs)
  replace HP := hid' hp
  clear hp hs
  by_cases hb : begins (sg t1) t1.kind = true
  · rw [if_pos hb] at HR
    rw [hb]
    go_wp2_with fail
    refine Calls.mono (H.tests _ _ _ _ _ HP.out HR.out hnr) ?_
    rintro e we hp
    clear HR
    rcases r with _ | ⟨lr, pr⟩ | ⟨zr, yr, cr, sr⟩
    · exact hp.elim
    · have HF := hid' (FaultP.of_below hp HS.out.below)
      obtain ⟨gb, rfl, _⟩ := hp
      go_wp2
      exact ⟨rfl, HF.out⟩
    obtain ⟨vr, vle, vse, rfl, hp, hs, ho, hv, hf⟩ := hp
    have hle := HS.out.below.size
    have HQ := hid' (show RowP A B pb ts tv W vl vs (R.ok zr yr cr sr) (.returned (.tuple #[vr, .bool cr])) we from ⟨vr, vle, vse, rfl, hp, HS.out.then (Nat.le_refl _) hs, ho, fun k hk => Nat.le_trans hle (hv k hk), hf⟩)
    clear hp hs ho hv hf
    go_wp2
    go_returns
    exact HQ.out
  rw [if_neg hb] at HR
  rw [Bool.not_eq_true] at hb
  rw [hb]
  obtain rfl := HR.out
  have HQ := hid' (OwnZ.nil w2 B)
  go_wp2
  go_returns
  exact ⟨_, _, _, rfl, HP.out, HS.out, HQ.out, fun _ e => by simp [Value.ownBlock] at e, fun _ _ _ _ _ e => by simp [Value.ownBlock] at e⟩
end Go.Proofs.YtpjjofdphlgeiaaGreatDoor

namespace Go.Proofs.YtpjjofdphlgeiaaGreatDoor
open Go.RowKit
open Lx Ax Px

/-- A list of the call's own, one number longer: what the parser is, and what is kept. -/
theorem row_push {A : Nat → Addr} {n B pb : Nat} {ts : List Tok} {tv : Value} {W0 W W5 : World} {s : PS} {vl0 vl v : Value} {vs0 vs : List Value} {xs : List Int} {m : Nat} (HP : PV A B pb ts tv W s vl vs) (HS : Step n B pb W0 vl0 vs0 W vl vs) (hz : OwnZ W B v xs) (hoff : Off v vs) (hv : ∀ k, v.ownBlock = some k → W0.heap.size ≤ k)
    (hb : Below B W W5) (far : ∀ k, k < W.heap.size → v.ownBlock ≠ some k → W5.heap[k]? = W.heap[k]?) (g cap : Nat) (hg : (some g = v.ownBlock) ∨ g = W.heap.size + 1) :
    PV A B pb ts tv W5 s vl vs ∧ Step n B pb W0 vl0 vs0 W5 vl vs ∧ Off (.slice (some ⟨g, 0, none⟩) m cap) vs ∧ ∀ k, (Value.slice (some ⟨g, 0, none⟩) m cap).ownBlock = some k → W0.heap.size ≤ k := by
  have hsz := HS.below.size
  refine ⟨⟨HP.row.far (far pb HP.lt (fun e => ne_kind hz HP.row (by decide) pb e rfl)), HP.tr.keep' (fun k e hk => far k hk (fun e2 => own_apart hz HP.tr.own (by decide) k e2 e)) (fun j u hu k e hk => far k hk (hoff j u hu k e)), HP.high, HP.toks.below hb, HP.few, HP.env.below hb⟩,
    ⟨HS.below.trans hb, fun k hk hp hne => (far k (Nat.lt_of_lt_of_le hk hsz) (fun e => by have := hv k e; omega)).trans (HS.far k hk hp hne), HS.blk, HS.kids⟩, fun j u hu k hk e => ?_, fun k hk => ?_⟩
  · simp only [Value.ownBlock, Option.some.injEq] at e
    subst e
    rcases hg with hg | hg
    · exact hoff j u hu g hk hg.symm
    · have hj : j < s.nodes.length := by rw [← HP.tr.len]; exact (List.getElem?_eq_some_iff.1 hu).1
      have := (World.ownsRow.lt (HP.tr.kid j _ u (List.getElem?_eq_getElem hj) hu) g hk).2
      omega
  · simp only [Value.ownBlock, Option.some.injEq] at hk
    subst hk
    rcases hg with hg | hg
    · exact hv g hg.symm
    · omega
theorem off_nil (vs : List Value) (n c : Nat) : Off (.slice none n c) vs := fun _ _ _ _ _ e => by simp [Value.ownBlock] at e

set_option maxRecDepth 10000 in
set_option maxHeartbeats 1600000 in
theorem tBegins_any {A : Nat → Addr} {B pb : Nat} {ts : List Tok} {tv : Value} {W : World} {s : PS} {vl : Value} {vs : List Value} (h : PV A B pb ts tv W s vl vs) (t : Tok) (ht : ts[s.at_]? = some t) :
    Calls Tryz.prog 126 #[.pointer (some ⟨pb, 0, none⟩)] W fun e w' => e = .returned (.bool (tBegins t)) ∧ Below W.heap.size W w' := by
  have HT := hid' (p_token_any h t ht)
  have HX := fun W' (hb : Below W.heap.size W W') => hid' (sees_any (h.low hb) t ht [40])
  have hfk := tok_kind
  clear h ht
  by_cases k1 : t.kind = 1
  · have hz : tBegins t = true := by unfold tBegins; rw [k1]; rfl
    rw [hz]
    rw [k1] at HT
    clear hz
    go_enter Tryz.func126, Tryz.ntmps126
    go_wp2_with fail
    refine Calls.mono HT.out ?_
    rintro e w2 ⟨rfl, b2⟩
    go_wp2
    go_returns
    exact ⟨rfl, b2⟩
  have q1 : ((t.kind : Int) == 1) = false := by simp; omega
  have hz : tBegins t = decide (sg t = [40]) := by unfold tBegins; rw [show (t.kind == 1) = false by simpa using k1, Bool.false_or]; by_cases hs : sg t = [40] <;> simp [hs]
  rw [hz]
  clear hz k1
  go_enter Tryz.func126, Tryz.ntmps126
  go_wp2_with fail
  refine Calls.mono HT.out ?_
  rintro e w2 ⟨rfl, b2⟩
  go_wp2_with fail
  refine Calls.mono (HX _ b2).out ?_
  rintro e w3 ⟨rfl, b3⟩
  have b4 := Below.thenB b2 b3
  go_wp2
  go_returns
  exact ⟨rfl, b4⟩

set_option maxRecDepth 10000 in
set_option maxHeartbeats 6400000 in
theorem row_step {A : Nat → Addr} {B pb : Nat} {ts : List Tok} {tv : Value} {m : Nat} (k : Nat) (fp fb : FuncId) (hcp : ∀ args w, (callFunc fp args).run Tryz.prog w = .ok (.enter fp args) w) (hcb : ∀ args w, (callFunc fb args).run Tryz.prog w = .ok (.enter fb args) w) (hbeg : ∀ (W : World) (s : PS) (vl : Value) (vs : List Value), PV A B pb ts tv W s vl vs → ∀ t, ts[s.at_]? = some t → Calls Tryz.prog fb #[ptr pb] W fun e w' => e = .returned (.bool (rowB k t)) ∧ Below W.heap.size W w') (hpart : ∀ j, j ≤ m → Does A B pb ts tv fp #[ptr pb] (rowP k) j) : DoesR A B pb ts tv 91 #[ptr pb, bound fp pb, bound fb pb] (.row k) (m + 1) := by
  intro W s vl vs r h hr hnr
  have HR := hid' hr
  have HP := hid' h
  have HS := hid' (Step.refl W.heap.size B pb W vl vs)
  have HLO := hid' h.lowB
  clear hr h
  rw [runF] at HR
  unfold bodyF at HR
  dsimp only at HR
  have hnot : ∀ (x : Bool) (w : World), (Op.unary .not (.bool x)).run Tryz.prog w = .ok (.bool (!x)) w := fun _ _ => rfl
  have hfk := tok_kind
  have hfp := tok_pos
  unfold ptr bound
  go_enter Tryz.func91, Tryz.ntmps91
  go_wp2_with fail
  generalize hq1 : runF ts m (rowP k) s = r1 at HR
  rcases r1 with _ | ⟨l1, p1⟩ | ⟨z1, y1, c1, s1⟩
  · exact absurd HR.out.symm hnr
  · refine Calls.mono (hpart m (Nat.le_refl _) _ _ _ _ _ HP.out hq1 (by simp)) ?_
    rintro e wb hp
    have HF := hid' (FaultP.of_below hp HS.out.below)
    obtain ⟨gb, rfl, _⟩ := hp
    obtain rfl : R.bad l1 p1 = r := HR.out
    go_wp2
    exact ⟨rfl, HF.out⟩
  refine Calls.mono (hpart m (Nat.le_refl _) _ _ _ _ _ HP.out hq1 (by simp)) ?_
  rintro e w1 ⟨vl1, vs1, rfl, hp, hs⟩
  have hle1 := HS.out.below.size
  replace HS := hid' (HS.out.then (Nat.le_refl _) hs)
  replace HP := hid' hp
  clear hp hs
  dsimp only [R.bind] at HR
  clear hq1
  go_wp2_with (at_builtin; refine num_plain (OwnZ.nil w1 B) z1 1 rfl HP.out.lowB (by simp) rfl (.tmp 8) (.tmp 11) (by rfl) (by rfl) (by rfl) ?_; intro g5 cap5 w5 q1 q2 q3 q4 q5; have HQ := hid' (row_push (m := 1) HP.out HS.out (OwnZ.nil w1 B) (off_nil _ 0 0) (fun _ e => by simp [Value.ownBlock] at e) q2 q3 g5 cap5 q4); have HZ5 := hid' q1; clear q1 q2 q3 q4 q5)
  go_wp2_with fail
  go_loopg [6, 7] m (fun gk u6 u7 wr => ∃ (g cap : Nat) (zs : List Int) (c : Bool) (sr : PS) (vlr : Value) (vsr : List Value), gk ≤ m ∧ u6 = .slice (some ⟨g, 0, none⟩) zs.length cap ∧ u7 = .bool c ∧ zs.length < 900001 ∧ Hid (PV A B pb ts tv wr sr vlr vsr) ∧ Hid (Step W.heap.size B pb W vl vs wr vlr vsr) ∧ Hid (OwnZ wr B (.slice (some ⟨g, 0, none⟩) zs.length cap) zs) ∧ Hid (Off (.slice (some ⟨g, 0, none⟩) zs.length cap) vsr) ∧ Hid (∀ k, (Value.slice (some ⟨g, 0, none⟩) zs.length cap).ownBlock = some k → W.heap.size ≤ k) ∧ Hid (runF ts gk (.rowLoop k zs c) sr = r))
  case atStart => exact ⟨g5, cap5, [z1], false, s1, vl1, vs1, Nat.le_refl _, rfl, rfl, by simp, HQ.out.1, HQ.out.2.1, HZ5, HQ.out.2.2.1, HQ.out.2.2.2, HR⟩
  case round =>
    obtain ⟨g, cap, zs, c, sr, vlr, vsr, hgk, rfl, rfl, hzl, HPr, HSr, HOZ, HOFF, HV, HRr⟩ := hrel
    clear HP HS HR HQ HZ5
    have HP := HPr
    have HS := HSr
    have HR := HRr
    clear HPr HSr HRr
    rcases gk with _ | j
    · exact absurd HR.out.symm hnr
    rw [runF] at HR
    unfold bodyF at HR
    try dsimp only at HR
    rw [Px.signF] at HR
    generalize ht3 : ts[PS.at_ sr]? = o3 at HR
    rcases o3 with _ | t3
    · exact absurd HR.out.symm hnr
    try dsimp only at HR
    have HSK := hid' (skip_any HP.out t3 ht3 [44])
    by_cases hl : ¬ sg t3 = [44]
    · rw [if_neg hl] at HR
      rw [decide_eq_false hl, if_neg hl] at HSK
      go_wp2_with fail
      refine Calls.mono (HSK.out) ?_
      rintro e w4 ⟨rfl, hp, hst⟩
      have hs := hst.step wr.heap.size vlr vsr
      clear hst
      have hoz := HOZ.out.step HP.out hs
      replace HOFF := hid' (HOFF.out.step hs (fun k hk => (World.ownsRow.lt HOZ.out k hk).2))
      replace HOZ := hid' hoz
      clear hoz
      replace HS := hid' (HS.out.then (Nat.le_refl _) hs)
      replace HP := hid' hp
      clear hp hs
      obtain rfl := HR.out
      go_wp2
      go_returns
      exact ⟨_, _, _, rfl, HP.out, HS.out, HOZ.out, HV.out, HOFF.out⟩
    rw [Decidable.not_not] at hl
    rw [if_pos hl] at HR
    rw [decide_eq_true hl, if_pos hl] at HSK
    go_wp2_with fail
    refine Calls.mono (HSK.out) ?_
    rintro e w5 ⟨rfl, hp, hst⟩
    have hs := hst.step wr.heap.size vlr vsr
    clear hst
    have hoz := HOZ.out.step HP.out hs
    replace HOFF := hid' (HOFF.out.step hs (fun k hk => (World.ownsRow.lt HOZ.out k hk).2))
    replace HOZ := hid' hoz
    clear hoz
    replace HS := hid' (HS.out.then (Nat.le_refl _) hs)
    replace HP := hid' hp
    clear hp hs
    generalize (PS.mk (PS.at_ sr + 1) (PS.nodes sr) (PS.deep sr)) = s5 at HP HR
    rw [rowBF] at HR
    generalize ht6 : ts[PS.at_ s5]? = o6 at HR
    rcases o6 with _ | t6
    · exact absurd HR.out.symm hnr
    try dsimp only at HR
    go_wp2_with fail
    refine Calls.mono (hbeg _ _ _ _ HP.out t6 ht6) ?_
    rintro e w7 ⟨rfl, b⟩
    have hp := HP.out.low b
    have hs := Step.low (n := w5.heap.size) HP.out b
    clear b
    have hoz := HOZ.out.step HP.out hs
    replace HOFF := hid' (HOFF.out.step hs (fun k hk => (World.ownsRow.lt HOZ.out k hk).2))
    replace HOZ := hid' hoz
    clear hoz
    replace HS := hid' (HS.out.then (Nat.le_refl _) hs)
    replace HP := hid' hp
    clear hp hs
    by_cases hb : ¬ rowB k t6 = true
    · rw [if_neg hb] at HR
      rw [Bool.not_eq_true] at hb
      rw [hb]
      obtain rfl := HR.out
      go_wp2
      go_returns
      exact ⟨_, _, _, rfl, HP.out, HS.out, HOZ.out, HV.out, HOFF.out⟩
    rw [Decidable.not_not] at hb
    rw [if_pos hb] at HR
    rw [hb]
    go_wp2_with fail
    generalize hq8 : runF ts j (rowP k) s5 = r8 at HR
    rcases r8 with _ | ⟨l8, p8⟩ | ⟨z8, y8, c8, s8⟩
    · exact absurd HR.out.symm hnr
    · refine Calls.mono (hpart j (by omega) _ _ _ _ _ HP.out hq8 (by simp)) ?_
      rintro e wb hp
      have HF := hid' (FaultP.of_below hp HS.out.below)
      obtain ⟨gb, rfl, _⟩ := hp
      obtain rfl : R.bad l8 p8 = r := HR.out
      go_wp2
      exact ⟨rfl, HF.out⟩
    refine Calls.mono (hpart j (by omega) _ _ _ _ _ HP.out hq8 (by simp)) ?_
    rintro e w8 ⟨vl8, vs8, rfl, hp, hs⟩
    have hle8 := HS.out.below.size
    have hoz := HOZ.out.step HP.out hs
    replace HOFF := hid' (HOFF.out.step hs (fun k hk => (World.ownsRow.lt HOZ.out k hk).2))
    replace HOZ := hid' hoz
    clear hoz
    replace HS := hid' (HS.out.then (Nat.le_refl _) hs)
    replace HP := hid' hp
    clear hp hs
    dsimp only [R.bind] at HR
    clear hq8
    by_cases hzz : ¬ zs.length < 900000
    · rw [if_neg hzz] at HR
      exact absurd HR.out.symm hnr
    rw [Decidable.not_not] at hzz
    rw [if_pos hzz] at HR
    go_wp2_with (at_builtin; refine num_plain HOZ.out z8 (zs.length + 1) rfl HP.out.lowB (by omega) rfl (.tmp 18) (.tmp 21) (by rfl) (by rfl) (by rfl) ?_; intro g5 cap5 w5 q1 q2 q3 q4 q5; have HQ := hid' (row_push (m := (zs.length + 1)) HP.out HS.out HOZ.out HOFF.out HV.out q2 q3 g5 cap5 q4); have HZ5 := hid' q1; clear q1 q2 q3 q4 q5)
    go_wp2
    go_roundg j
    case measure => omega
    case rel => exact ⟨g5, cap5, zs ++ [z8], true, s8, vl8, vs8, by omega, by rw [List.length_append, List.length_singleton], rfl, by rw [List.length_append, List.length_singleton]; omega, HQ.out.1, HQ.out.2.1, by rw [List.length_append, List.length_singleton]; exact HZ5, by rw [List.length_append, List.length_singleton]; exact HQ.out.2.2.1, by rw [List.length_append, List.length_singleton]; exact HQ.out.2.2.2, HR⟩

set_option maxRecDepth 10000 in
set_option maxHeartbeats 1600000 in
theorem tests_step {A : Nat → Addr} {B pb : Nat} {ts : List Tok} {tv : Value} {m : Nat} (H : ∀ j, j ≤ m → All A B pb ts tv j) : DoesR A B pb ts tv 67 #[ptr pb] (.row 0) (m + 1) := by
  intro W s vl vs r h hr hnr
  have HR := hid' hr
  have HP := hid' h
  have HS := hid' (Step.refl W.heap.size B pb W vl vs)
  have HLO := hid' h.lowB
  clear hr h
  have hmf : ∀ (fn : Fn) (first cap : Array Value) (w : World), (Instr.makeFunc fn first cap).run Tryz.prog w = .ok (.func fn first cap) w := fun _ _ _ _ => rfl
  unfold ptr
  go_enter Tryz.func67, Tryz.ntmps67
  go_wp2_with fail
  refine Calls.mono (row_step 0 72 92 (fun _ _ => rfl) (fun _ _ => rfl) (fun _ _ _ _ h t ht => begins_any h t ht) (fun j hj => (H j hj).test) _ _ _ _ _ HP.out HR.out hnr) ?_
  rintro e we hp
  clear HR
  rcases r with _ | ⟨lr, pr⟩ | ⟨zr, yr, cr, sr⟩
  · exact hp.elim
  · have HF := hid' (FaultP.of_below hp HS.out.below)
    obtain ⟨gb, rfl, _⟩ := hp
    go_wp2
    exact ⟨rfl, HF.out⟩
  obtain ⟨vr, vle, vse, rfl, hp, hs, ho, hv, hf⟩ := hp
  have hle := HS.out.below.size
  have HQ := hid' (show RowP A B pb ts tv W vl vs (R.ok zr yr cr sr) (.returned (.tuple #[vr, .bool cr])) we from ⟨vr, vle, vse, rfl, hp, HS.out.then (Nat.le_refl _) hs, ho, fun k hk => Nat.le_trans hle (hv k hk), hf⟩)
  clear hp hs ho hv hf
  go_wp2
  go_returns
  exact HQ.out

set_option maxRecDepth 10000 in
set_option maxHeartbeats 1600000 in
theorem trow_step {A : Nat → Addr} {B pb : Nat} {ts : List Tok} {tv : Value} {m : Nat} (H : ∀ j, j ≤ m → All A B pb ts tv j) : DoesR A B pb ts tv 104 #[ptr pb] (.row 1) (m + 1) := by
  intro W s vl vs r h hr hnr
  have HR := hid' hr
  have HP := hid' h
  have HS := hid' (Step.refl W.heap.size B pb W vl vs)
  have HLO := hid' h.lowB
  clear hr h
  have hmf : ∀ (fn : Fn) (first cap : Array Value) (w : World), (Instr.makeFunc fn first cap).run Tryz.prog w = .ok (.func fn first cap) w := fun _ _ _ _ => rfl
  unfold ptr
  go_enter Tryz.func104, Tryz.ntmps104
  go_wp2_with fail
  refine Calls.mono (row_step 1 125 126 (fun _ _ => rfl) (fun _ _ => rfl) (fun _ _ _ _ h t ht => tBegins_any h t ht) (fun j hj => (H j hj).target) _ _ _ _ _ HP.out HR.out hnr) ?_
  rintro e we hp
  clear HR
  rcases r with _ | ⟨lr, pr⟩ | ⟨zr, yr, cr, sr⟩
  · exact hp.elim
  · have HF := hid' (FaultP.of_below hp HS.out.below)
    obtain ⟨gb, rfl, _⟩ := hp
    go_wp2
    exact ⟨rfl, HF.out⟩
  obtain ⟨vr, vle, vse, rfl, hp, hs, ho, hv, hf⟩ := hp
  have hle := HS.out.below.size
  have HQ := hid' (show RowP A B pb ts tv W vl vs (R.ok zr yr cr sr) (.returned (.tuple #[vr, .bool cr])) we from ⟨vr, vle, vse, rfl, hp, HS.out.then (Nat.le_refl _) hs, ho, fun k hk => Nat.le_trans hle (hv k hk), hf⟩)
  clear hp hs ho hv hf
  go_wp2
  go_returns
  exact HQ.out
end Go.Proofs.YtpjjofdphlgeiaaGreatDoor

namespace Go.Proofs.YtpjjofdphlgeiaaGreatDoor
open Go.RowKit
open Lx Ax Px

set_option maxRecDepth 10000 in
set_option maxHeartbeats 1600000 in
theorem line_step {A : Nat → Addr} {B pb : Nat} {ts : List Tok} {tv : Value} {m : Nat} (p : Pl) (H : All A B pb ts tv m) : Does A B pb ts tv 57 #[ptr pb, plV p] (.line p) (m + 1) := by
  intro W s vl vs r h hr hnr
  have HR := hid' hr
  have HP := hid' h
  have HS := hid' (Step.refl W.heap.size B pb W vl vs)
  have HLO := hid' h.lowB
  clear hr h
  rw [runF] at HR
  unfold bodyF at HR
  dsimp only at HR
  have hnot : ∀ (x : Bool) (w : World), (Op.unary .not (.bool x)).run Tryz.prog w = .ok (.bool (!x)) w := fun _ _ => rfl
  have hfk := tok_kind
  have hfp := tok_pos
  unfold ptr plV
  go_enter Tryz.func57, Tryz.ntmps57
  go_wp2_with fail
  have hp := HP.out.alloc (.cells #[.bool p.inner, .bool p.d, .bool p.l] 75)
  replace HS := hid' (HS.out.alloc (.cells #[.bool p.inner, .bool p.d, .bool p.l] 75) HLO.out)
  have BX := hid' (row_new W 75 [.bool p.inner, .bool p.d, .bool p.l])
  generalize hw0 : W.alloc (.cells #[.bool p.inner, .bool p.d, .bool p.l] 75) = w0 at hp HS
  have HW0 := hid' hw0
  clear hw0
  replace BX : Hid (RowV w0 W.heap.size 75 [.bool p.inner, .bool p.d, .bool p.l]) := hid' (by rw [← HW0.out]; exact BX.out)
  clear HW0
  replace HP := hid' hp
  clear hp
  go_wp2_with fail
  generalize hq1 : runF ts m (.simple p) s = r1 at HR
  rcases r1 with _ | ⟨l1, p1⟩ | ⟨z1, y1, c1, s1⟩
  · exact absurd HR.out.symm hnr
  · refine Calls.mono (H.simple p _ _ _ _ _ HP.out hq1 (by simp)) ?_
    rintro e wb hp
    have HF := hid' (FaultP.of_below hp HS.out.below)
    obtain ⟨gb, rfl, _⟩ := hp
    obtain rfl : R.bad l1 p1 = r := HR.out
    go_wp2
    exact ⟨rfl, HF.out⟩
  refine Calls.mono (H.simple p _ _ _ _ _ HP.out hq1 (by simp)) ?_
  rintro e w1 ⟨vl1, vs1, rfl, hp, hs⟩
  have hle1 := HS.out.below.size
  replace BX := hid' (BX.out.stepR (by decide) (by decide) HP.out hs)
  replace HS := hid' (HS.out.then (Nat.le_refl _) hs)
  replace HP := hid' hp
  clear hp hs
  dsimp only [R.bind] at HR
  clear hq1
  rw [takeKF] at HR
  generalize ht3 : ts[PS.at_ s1]? = o3 at HR
  rcases o3 with _ | t3
  · exact absurd HR.out.symm hnr
  try dsimp only at HR
  by_cases hl4 : ¬ t3.kind = 5
  · rw [if_neg hl4] at HR
    go_wp2_with fail
    · refine Calls.mono (take_miss HP.out t3 ht3 5 hl4) ?_
      rintro e wb hp
      have HF := hid' (FaultP.of_below hp HS.out.below)
      obtain ⟨gb, rfl, _⟩ := hp
      obtain rfl : R.bad false t3.pos = r := HR.out
      go_wp2
      exact ⟨rfl, HF.out⟩
  rw [Decidable.not_not] at hl4
  rw [if_pos hl4] at HR
  go_wp2_with fail
  refine Calls.mono (take_hit HP.out t3 ht3 5 hl4) ?_
  rintro e w6 ⟨rfl, hp, hst⟩
  have hs := hst.step w1.heap.size vl1 vs1
  clear hst
  replace BX := hid' (BX.out.stepR (by decide) (by decide) HP.out hs)
  replace HS := hid' (HS.out.then (Nat.le_refl _) hs)
  replace HP := hid' hp
  clear hp hs
  generalize (PS.mk (PS.at_ s1 + 1) (PS.nodes s1) (PS.deep s1)) = s6 at HP HR
  clear hl4
  obtain rfl := HR.out
  go_wp2
  go_returns
  exact ⟨_, _, rfl, HP.out, HS.out⟩

set_option maxRecDepth 10000 in
set_option maxHeartbeats 6400000 in
theorem simple_step {A : Nat → Addr} {B pb : Nat} {ts : List Tok} {tv : Value} {m : Nat} (p : Pl) (H : All A B pb ts tv m) : Does A B pb ts tv 80 #[ptr pb, plV p] (.simple p) (m + 1) := by
  intro W s vl vs r h hr hnr
  have HR := hid' hr
  have HP := hid' h
  have HS := hid' (Step.refl W.heap.size B pb W vl vs)
  have HLO := hid' h.lowB
  clear hr h
  rw [runF] at HR
  unfold bodyF at HR
  dsimp only at HR
  have hnot : ∀ (x : Bool) (w : World), (Op.unary .not (.bool x)).run Tryz.prog w = .ok (.bool (!x)) w := fun _ _ => rfl
  have hfk := tok_kind
  have hfp := tok_pos
  unfold ptr plV
  go_enter Tryz.func80, Tryz.ntmps80
  go_wp2_with fail
  have hp := HP.out.alloc (.cells #[.bool p.inner, .bool p.d, .bool p.l] 75)
  replace HS := hid' (HS.out.alloc (.cells #[.bool p.inner, .bool p.d, .bool p.l] 75) HLO.out)
  have BX := hid' (row_new W 75 [.bool p.inner, .bool p.d, .bool p.l])
  generalize hw0 : W.alloc (.cells #[.bool p.inner, .bool p.d, .bool p.l] 75) = w0 at hp HS
  have HW0 := hid' hw0
  clear hw0
  replace BX : Hid (RowV w0 W.heap.size 75 [.bool p.inner, .bool p.d, .bool p.l]) := hid' (by rw [← HW0.out]; exact BX.out)
  clear HW0
  replace HP := hid' hp
  clear hp
  rw [Px.signF] at HR
  generalize ht1 : ts[PS.at_ s]? = o1 at HR
  rcases o1 with _ | t1
  · exact absurd HR.out.symm hnr
  try dsimp only at HR
  go_wp2_with fail
  refine Calls.mono (p_sign_any HP.out t1 ht1) ?_
  rintro e w2 ⟨rfl, b⟩
  have hp := HP.out.low b
  have hs := Step.low (n := w0.heap.size) HP.out b
  clear b
  replace BX := hid' (BX.out.stepR (by decide) (by decide) HP.out hs)
  replace HS := hid' (HS.out.then (Nat.le_refl _) hs)
  replace HP := hid' hp
  clear hp hs
  have f0 := str_is (sg t1) [112, 97, 115, 115]
  by_cases h0 : sg t1 = [112, 97, 115, 115]
  · rw [if_pos h0] at HR
    rw [decide_eq_true h0] at f0
    clear h0
    rw [wordF, nextF, ht1] at HR
    try dsimp only at HR
    rw [addF] at HR
    by_cases hn : ¬ ((PS.nodes s).length < 900000 ∧ (List.length ([] : List Int)) < 900000)
    · rw [if_neg hn] at HR
      exact absurd HR.out.symm hnr
    rw [Decidable.not_not] at hn
    rw [if_pos hn] at HR
    go_wp2_with fail
    refine Calls.mono (word_any HP.out t1 ht1 38 hn.1) ?_
    rintro e we ⟨rfl, vle, vse, hp, hs⟩
    clear BX
    replace HS := hid' (HS.out.then (Nat.le_refl _) hs)
    replace HP := hid' hp
    clear hp hs
    obtain rfl := HR.out
    go_wp2
    go_returns
    exact ⟨_, _, rfl, HP.out, HS.out⟩
  rw [if_neg h0] at HR
  rw [decide_eq_false h0] at f0
  clear h0
  have f1 := str_is (sg t1) [98, 114, 101, 97, 107]
  by_cases h1 : sg t1 = [98, 114, 101, 97, 107]
  · rw [if_pos h1] at HR
    rw [decide_eq_true h1] at f1
    clear h1
    cases hfl : p.l with
    | false =>
      rw [hfl, allowF, ht1] at HR
      try dsimp only at HR
      rw [if_neg (by simp)] at HR
      rw [hfl] at BX
      clear hfl
      have bx0 := BX.out.cell (j := 0) rfl
      have bx1 := BX.out.cell (j := 1) rfl
      have bx2 := BX.out.cell (j := 2) rfl
      have bxl := BX.out.lt
      go_wp2_with fail
      clear bxl bx0 bx1 bx2
      · refine Calls.mono (allow_false HP.out t1 ht1) ?_
        rintro e wb hp
        have HF := hid' (FaultP.of_below hp HS.out.below)
        obtain ⟨gb, rfl, _⟩ := hp
        obtain rfl : R.bad false t1.pos = r := HR.out
        go_wp2
        exact ⟨rfl, HF.out⟩
    | true =>
      rw [hfl, allowF, ht1] at HR
      try dsimp only at HR
      rw [if_pos rfl] at HR
      rw [hfl] at BX
      clear hfl
      have bx0 := BX.out.cell (j := 0) rfl
      have bx1 := BX.out.cell (j := 1) rfl
      have bx2 := BX.out.cell (j := 2) rfl
      have bxl := BX.out.lt
      go_wp2_with fail
      clear bxl bx0 bx1 bx2
      refine Calls.mono (allow_true _ _) ?_
      rintro e wo ⟨rfl, hwo⟩
      rw [hwo]
      clear hwo wo
      rw [wordF, nextF, ht1] at HR
      try dsimp only at HR
      rw [addF] at HR
      by_cases hn : ¬ ((PS.nodes s).length < 900000 ∧ (List.length ([] : List Int)) < 900000)
      · rw [if_neg hn] at HR
        exact absurd HR.out.symm hnr
      rw [Decidable.not_not] at hn
      rw [if_pos hn] at HR
      go_wp2_with fail
      refine Calls.mono (word_any HP.out t1 ht1 39 hn.1) ?_
      rintro e we ⟨rfl, vle, vse, hp, hs⟩
      clear BX
      replace HS := hid' (HS.out.then (Nat.le_refl _) hs)
      replace HP := hid' hp
      clear hp hs
      obtain rfl := HR.out
      go_wp2
      go_returns
      exact ⟨_, _, rfl, HP.out, HS.out⟩
  rw [if_neg h1] at HR
  rw [decide_eq_false h1] at f1
  clear h1
  have f2 := str_is (sg t1) [99, 111, 110, 116, 105, 110, 117, 101]
  by_cases h2 : sg t1 = [99, 111, 110, 116, 105, 110, 117, 101]
  · rw [if_pos h2] at HR
    rw [decide_eq_true h2] at f2
    clear h2
    cases hfl : p.l with
    | false =>
      rw [hfl, allowF, ht1] at HR
      try dsimp only at HR
      rw [if_neg (by simp)] at HR
      rw [hfl] at BX
      clear hfl
      have bx0 := BX.out.cell (j := 0) rfl
      have bx1 := BX.out.cell (j := 1) rfl
      have bx2 := BX.out.cell (j := 2) rfl
      have bxl := BX.out.lt
      go_wp2_with fail
      clear bxl bx0 bx1 bx2
      · refine Calls.mono (allow_false HP.out t1 ht1) ?_
        rintro e wb hp
        have HF := hid' (FaultP.of_below hp HS.out.below)
        obtain ⟨gb, rfl, _⟩ := hp
        obtain rfl : R.bad false t1.pos = r := HR.out
        go_wp2
        exact ⟨rfl, HF.out⟩
    | true =>
      rw [hfl, allowF, ht1] at HR
      try dsimp only at HR
      rw [if_pos rfl] at HR
      rw [hfl] at BX
      clear hfl
      have bx0 := BX.out.cell (j := 0) rfl
      have bx1 := BX.out.cell (j := 1) rfl
      have bx2 := BX.out.cell (j := 2) rfl
      have bxl := BX.out.lt
      go_wp2_with fail
      clear bxl bx0 bx1 bx2
      refine Calls.mono (allow_true _ _) ?_
      rintro e wo ⟨rfl, hwo⟩
      rw [hwo]
      clear hwo wo
      rw [wordF, nextF, ht1] at HR
      try dsimp only at HR
      rw [addF] at HR
      by_cases hn : ¬ ((PS.nodes s).length < 900000 ∧ (List.length ([] : List Int)) < 900000)
      · rw [if_neg hn] at HR
        exact absurd HR.out.symm hnr
      rw [Decidable.not_not] at hn
      rw [if_pos hn] at HR
      go_wp2_with fail
      refine Calls.mono (word_any HP.out t1 ht1 40 hn.1) ?_
      rintro e we ⟨rfl, vle, vse, hp, hs⟩
      clear BX
      replace HS := hid' (HS.out.then (Nat.le_refl _) hs)
      replace HP := hid' hp
      clear hp hs
      obtain rfl := HR.out
      go_wp2
      go_returns
      exact ⟨_, _, rfl, HP.out, HS.out⟩
  rw [if_neg h2] at HR
  rw [decide_eq_false h2] at f2
  clear h2
  have f3 := str_is (sg t1) [114, 101, 116, 117, 114, 110]
  by_cases h3 : sg t1 = [114, 101, 116, 117, 114, 110]
  · rw [if_pos h3] at HR
    rw [decide_eq_true h3] at f3
    clear h3
    cases hfl : p.d with
    | false =>
      rw [hfl, allowF, ht1] at HR
      try dsimp only at HR
      rw [if_neg (by simp)] at HR
      rw [hfl] at BX
      clear hfl
      have bx0 := BX.out.cell (j := 0) rfl
      have bx1 := BX.out.cell (j := 1) rfl
      have bx2 := BX.out.cell (j := 2) rfl
      have bxl := BX.out.lt
      go_wp2_with fail
      clear bxl bx0 bx1 bx2
      · refine Calls.mono (allow_false HP.out t1 ht1) ?_
        rintro e wb hp
        have HF := hid' (FaultP.of_below hp HS.out.below)
        obtain ⟨gb, rfl, _⟩ := hp
        obtain rfl : R.bad false t1.pos = r := HR.out
        go_wp2
        exact ⟨rfl, HF.out⟩
    | true =>
      rw [hfl, allowF, ht1] at HR
      try dsimp only at HR
      rw [if_pos rfl] at HR
      rw [hfl] at BX
      clear hfl
      have bx0 := BX.out.cell (j := 0) rfl
      have bx1 := BX.out.cell (j := 1) rfl
      have bx2 := BX.out.cell (j := 2) rfl
      have bxl := BX.out.lt
      go_wp2_with fail
      clear bxl bx0 bx1 bx2
      refine Calls.mono (allow_true _ _) ?_
      rintro e wo ⟨rfl, hwo⟩
      rw [hwo]
      clear hwo wo
      go_wp2_with fail
      refine Calls.mono (H.result _ _ _ _ _ HP.out HR.out hnr) ?_
      rintro e we hp
      clear HR
      rcases r with _ | ⟨lr, pr⟩ | ⟨zr, yr, cr, sr⟩
      · exact hp.elim
      · have HF := hid' (FaultP.of_below hp HS.out.below)
        obtain ⟨gb, rfl, _⟩ := hp
        go_wp2
        exact ⟨rfl, HF.out⟩
      obtain ⟨vle, vse, rfl, hp, hs⟩ := hp
      have HQ := hid' (HS.out.then (Nat.le_refl _) hs)
      have HP2 := hid' hp
      clear hp hs
      go_wp2
      go_returns
      exact ⟨_, _, rfl, HP2.out, HQ.out⟩
  rw [if_neg h3] at HR
  rw [decide_eq_false h3] at f3
  clear h3
  have f4 := str_is (sg t1) [108, 111, 97, 100]
  by_cases h4 : sg t1 = [108, 111, 97, 100]
  · rw [if_pos h4] at HR
    rw [decide_eq_true h4] at f4
    clear h4
    rw [allowF, ht1] at HR
    try dsimp only at HR
    cases hfl : p.inner with
    | false =>
      rw [hfl, if_pos (by simp)] at HR
      rw [hfl] at BX
      clear hfl
      have bx0 := BX.out.cell (j := 0) rfl
      have bx1 := BX.out.cell (j := 1) rfl
      have bx2 := BX.out.cell (j := 2) rfl
      have bxl := BX.out.lt
      go_wp2_with fail
      refine Calls.mono (allow_true _ _) ?_
      rintro e wo ⟨rfl, hwo⟩
      rw [hwo]
      clear hwo wo
      clear bxl bx0 bx1 bx2
      go_wp2_with fail
      refine Calls.mono (H.load _ _ _ _ _ HP.out HR.out hnr) ?_
      rintro e we hp
      clear HR
      rcases r with _ | ⟨lr, pr⟩ | ⟨zr, yr, cr, sr⟩
      · exact hp.elim
      · have HF := hid' (FaultP.of_below hp HS.out.below)
        obtain ⟨gb, rfl, _⟩ := hp
        go_wp2
        exact ⟨rfl, HF.out⟩
      obtain ⟨vle, vse, rfl, hp, hs⟩ := hp
      have HQ := hid' (HS.out.then (Nat.le_refl _) hs)
      have HP2 := hid' hp
      clear hp hs
      go_wp2
      go_returns
      exact ⟨_, _, rfl, HP2.out, HQ.out⟩
    | true =>
      rw [hfl, if_neg (by simp)] at HR
      rw [hfl] at BX
      clear hfl
      have bx0 := BX.out.cell (j := 0) rfl
      have bx1 := BX.out.cell (j := 1) rfl
      have bx2 := BX.out.cell (j := 2) rfl
      have bxl := BX.out.lt
      go_wp2_with fail
      · refine Calls.mono (allow_false HP.out t1 ht1) ?_
        rintro e wb hp
        have HF := hid' (FaultP.of_below hp HS.out.below)
        obtain ⟨gb, rfl, _⟩ := hp
        obtain rfl : R.bad false t1.pos = r := HR.out
        go_wp2
        exact ⟨rfl, HF.out⟩
  rw [if_neg h4] at HR
  rw [decide_eq_false h4] at f4
  clear h4
  go_wp2_with fail
  refine Calls.mono (H.assignment _ _ _ _ _ HP.out HR.out hnr) ?_
  rintro e we hp
  clear HR
  rcases r with _ | ⟨lr, pr⟩ | ⟨zr, yr, cr, sr⟩
  · exact hp.elim
  · have HF := hid' (FaultP.of_below hp HS.out.below)
    obtain ⟨gb, rfl, _⟩ := hp
    go_wp2
    exact ⟨rfl, HF.out⟩
  obtain ⟨vle, vse, rfl, hp, hs⟩ := hp
  have HQ := hid' (HS.out.then (Nat.le_refl _) hs)
  have HP2 := hid' hp
  clear hp hs
  go_wp2
  go_returns
  exact ⟨_, _, rfl, HP2.out, HQ.out⟩

set_option maxRecDepth 10000 in
set_option maxHeartbeats 6400000 in
theorem statement_step {A : Nat → Addr} {B pb : Nat} {ts : List Tok} {tv : Value} {m : Nat} (p : Pl) (H : All A B pb ts tv m) : Does A B pb ts tv 34 #[ptr pb, plV p] (.statement p) (m + 1) := by
  intro W s vl vs r h hr hnr
  have HR := hid' hr
  have HP := hid' h
  have HS := hid' (Step.refl W.heap.size B pb W vl vs)
  have HLO := hid' h.lowB
  clear hr h
  rw [runF] at HR
  unfold bodyF at HR
  dsimp only at HR
  have hnot : ∀ (x : Bool) (w : World), (Op.unary .not (.bool x)).run Tryz.prog w = .ok (.bool (!x)) w := fun _ _ => rfl
  have hfk := tok_kind
  have hfp := tok_pos
  unfold ptr plV
  go_enter Tryz.func34, Tryz.ntmps34
  go_wp2_with fail
  have hp := HP.out.alloc (.cells #[.bool p.inner, .bool p.d, .bool p.l] 75)
  replace HS := hid' (HS.out.alloc (.cells #[.bool p.inner, .bool p.d, .bool p.l] 75) HLO.out)
  have BX := hid' (row_new W 75 [.bool p.inner, .bool p.d, .bool p.l])
  generalize hw0 : W.alloc (.cells #[.bool p.inner, .bool p.d, .bool p.l] 75) = w0 at hp HS
  have HW0 := hid' hw0
  clear hw0
  replace BX : Hid (RowV w0 W.heap.size 75 [.bool p.inner, .bool p.d, .bool p.l]) := hid' (by rw [← HW0.out]; exact BX.out)
  clear HW0
  replace HP := hid' hp
  clear hp
  rw [Px.signF] at HR
  generalize ht1 : ts[PS.at_ s]? = o1 at HR
  rcases o1 with _ | t1
  · exact absurd HR.out.symm hnr
  try dsimp only at HR
  go_wp2_with fail
  refine Calls.mono (p_sign_any HP.out t1 ht1) ?_
  rintro e w2 ⟨rfl, b⟩
  have hp := HP.out.low b
  have hs := Step.low (n := w0.heap.size) HP.out b
  clear b
  replace BX := hid' (BX.out.stepR (by decide) (by decide) HP.out hs)
  replace HS := hid' (HS.out.then (Nat.le_refl _) hs)
  replace HP := hid' hp
  clear hp hs
  have f0 := str_is (sg t1) [105, 102]
  have f1 := str_is (sg t1) [102, 111, 114]
  have f2 := str_is (sg t1) [100, 101, 102]
  by_cases h0 : sg t1 = sIf
  · rw [if_pos h0] at HR
    rw [decide_eq_true (show sg t1 = [105, 102] from h0)] at f0
    clear f1 f2
    rw [needF, ht1] at HR
    try dsimp only at HR
    rw [if_pos h0] at HR
    have H0 := hid' h0
    clear h0
    try go_wp2
    refine wp_region_held_drew (S := fun W' => RowV W' W.heap.size 75 [.bool p.inner, .bool p.d, .bool p.l]) (by kernel_rfl) (by exact BX.out) (fun hHeld => ?_)
    have hp : PV A B pb ts tv w2.drew s vl vs := HP.out.drewN 1
    have hs : Step w2.heap.size B pb w2 vl vs w2.drew vl vs := Step.drewN (Step.refl w2.heap.size B pb w2 vl vs) 1
    replace HS := hid' (HS.out.then (Nat.le_refl _) hs)
    replace HP := hid' hp
    clear hp hs
    replace BX : Hid (RowV w2.drew W.heap.size 75 [.bool p.inner, .bool p.d, .bool p.l]) := hid' hHeld
    refine take_val' (i := 0) (v := .pointer (some ⟨pb, 0, none⟩)) rfl (by kernel_rfl) (by kernel_rfl) (by kernel_rfl) (some 9) rfl (fun _ _ _ h => h) (Or.inl ⟨by rfl, fun W' hW => by go_simp⟩) hHeld ?_
    try simp only [Act.put, List.setIfInBounds_toArray, List.set_cons_zero, List.set_cons_succ]
    refine take_val' (i := 1) (v := .pointer (some ⟨pb, 0, none⟩)) rfl (by kernel_rfl) (by kernel_rfl) (by kernel_rfl) (some 10) rfl (fun _ _ _ h => h) (Or.inl ⟨by rfl, fun W' hW => by go_simp⟩) hHeld ?_
    try simp only [Act.put, List.setIfInBounds_toArray, List.set_cons_zero, List.set_cons_succ]
    refine take_val' (i := 3) (v := .agg #[.bool p.inner, .bool p.d, .bool p.l]) rfl (by kernel_rfl) (by kernel_rfl) (by kernel_rfl) (some 12) rfl (fun _ _ _ h => h) (Or.inl ⟨by rfl, fun W' hW => by have y0 := RowV.cell hW (j := 0) rfl; have y1 := RowV.cell hW (j := 1) rfl; have y2 := RowV.cell hW (j := 2) rfl; go_simp⟩) hHeld ?_
    try simp only [Act.put, List.setIfInBounds_toArray, List.set_cons_zero, List.set_cons_succ]
    refine wpAnyH_ready (rs := [2]) (by kernel_rfl) (by simp) ?_
    refine AllReadyH.cons rfl (fun K hK => ?_) AllReadyH.nil
    go_simp
    refine Calls.mono (need_hit HP.out t1 ht1 sIf H0.out) ?_
    rintro e w3 ⟨rfl, hp, hst⟩
    have hs := hst.step (w2.drew).heap.size vl vs
    clear hst
    replace BX := hid' (BX.out.stepR (by decide) (by decide) HP.out hs)
    replace HS := hid' (HS.out.then (Nat.le_refl _) hs)
    replace HP := hid' hp
    clear hp hs
    generalize (PS.mk (PS.at_ s + 1) (PS.nodes s) (PS.deep s)) = s3 at HP HR
    clear hHeld
    refine hK.out _ _ BX.out (fun hHeld => ?_)
    clear hK K
    try simp only [Act.put, List.setIfInBounds_toArray, List.set_cons_zero, List.set_cons_succ]
    refine wpAnyH_ready (rs := [4]) (by kernel_rfl) (by simp) ?_
    refine AllReadyH.cons rfl (fun K hK => ?_) AllReadyH.nil
    go_simp
    refine Calls.mono (H.cond _ p _ _ _ _ _ HP.out HR.out hnr) ?_
    rintro e we hp
    clear HR
    rcases r with _ | ⟨lr, pr⟩ | ⟨zr, yr, cr, sr⟩
    · exact hp.elim
    · have HF := hid' (FaultP.of_below hp HS.out.below)
      obtain ⟨gb, rfl, _⟩ := hp
      exact ⟨rfl, HF.out⟩
    obtain ⟨vle, vse, rfl, hp, hs⟩ := hp
    replace BX := hid' (BX.out.stepR (by decide) (by decide) HP.out hs)
    have HQ := hid' (HS.out.then (Nat.le_refl _) hs)
    have HP2 := hid' hp
    clear hp hs hHeld
    refine hK.out _ _ BX.out (fun hHeld => ?_)
    clear hK K
    try simp only [Act.put, List.setIfInBounds_toArray, List.set_cons_zero, List.set_cons_succ]
    refine take_val' (i := 5) (v := .int .i64 zr) rfl (by kernel_rfl) (by kernel_rfl) (by kernel_rfl) (some 4) rfl (fun _ _ _ h => h) (Or.inl ⟨by rfl, fun W' hW => by go_simp⟩) hHeld ?_
    try simp only [Act.put, List.setIfInBounds_toArray, List.set_cons_zero, List.set_cons_succ]
    refine wpAnyH_done (by kernel_rfl) ?_ _
    go_wp2
    go_returns
    exact ⟨_, _, rfl, HP2.out, HQ.out⟩
  rw [if_neg h0] at HR
  rw [decide_eq_false (show ¬ sg t1 = [105, 102] from h0)] at f0
  clear h0
  unfold sFor at HR
  by_cases h1 : sg t1 = [102, 111, 114]
  · rw [if_pos h1] at HR
    rw [decide_eq_true h1] at f1
    clear h1 f2
    have bx0 := BX.out.cell (j := 0) rfl
    have bx1 := BX.out.cell (j := 1) rfl
    have bx2 := BX.out.cell (j := 2) rfl
    have bxl := BX.out.lt
    go_wp2_with fail
    refine Calls.mono (H.loop p _ _ _ _ _ HP.out HR.out hnr) ?_
    rintro e we hp
    clear HR
    rcases r with _ | ⟨lr, pr⟩ | ⟨zr, yr, cr, sr⟩
    · exact hp.elim
    · have HF := hid' (FaultP.of_below hp HS.out.below)
      obtain ⟨gb, rfl, _⟩ := hp
      go_wp2
      exact ⟨rfl, HF.out⟩
    obtain ⟨vle, vse, rfl, hp, hs⟩ := hp
    have HQ := hid' (HS.out.then (Nat.le_refl _) hs)
    have HP2 := hid' hp
    clear hp hs
    go_wp2
    go_returns
    exact ⟨_, _, rfl, HP2.out, HQ.out⟩
  rw [if_neg h1] at HR
  rw [decide_eq_false h1] at f1
  clear h1
  by_cases h2 : sg t1 = [100, 101, 102]
  · rw [if_pos h2] at HR
    rw [decide_eq_true h2] at f2
    clear h2
    rw [allowF, ht1] at HR
    try dsimp only at HR
    cases hfl : p.inner with
    | false =>
      rw [hfl, if_pos (by simp)] at HR
      rw [hfl] at BX
      clear hfl
      have bx0 := BX.out.cell (j := 0) rfl
      have bx1 := BX.out.cell (j := 1) rfl
      have bx2 := BX.out.cell (j := 2) rfl
      have bxl := BX.out.lt
      go_wp2_with fail
      refine Calls.mono (allow_true _ _) ?_
      rintro e wo ⟨rfl, hwo⟩
      rw [hwo]
      clear hwo wo
      clear bxl bx0 bx1 bx2
      go_wp2_with fail
      refine Calls.mono (H.def_ _ _ _ _ _ HP.out HR.out hnr) ?_
      rintro e we hp
      clear HR
      rcases r with _ | ⟨lr, pr⟩ | ⟨zr, yr, cr, sr⟩
      · exact hp.elim
      · have HF := hid' (FaultP.of_below hp HS.out.below)
        obtain ⟨gb, rfl, _⟩ := hp
        go_wp2
        exact ⟨rfl, HF.out⟩
      obtain ⟨vle, vse, rfl, hp, hs⟩ := hp
      have HQ := hid' (HS.out.then (Nat.le_refl _) hs)
      have HP2 := hid' hp
      clear hp hs
      go_wp2
      go_returns
      exact ⟨_, _, rfl, HP2.out, HQ.out⟩
    | true =>
      rw [hfl, if_neg (by simp)] at HR
      rw [hfl] at BX
      clear hfl
      have bx0 := BX.out.cell (j := 0) rfl
      have bx1 := BX.out.cell (j := 1) rfl
      have bx2 := BX.out.cell (j := 2) rfl
      have bxl := BX.out.lt
      go_wp2_with fail
      · refine Calls.mono (allow_false HP.out t1 ht1) ?_
        rintro e wb hp
        have HF := hid' (FaultP.of_below hp HS.out.below)
        obtain ⟨gb, rfl, _⟩ := hp
        obtain rfl : R.bad false t1.pos = r := HR.out
        go_wp2
        exact ⟨rfl, HF.out⟩
  rw [if_neg h2] at HR
  rw [decide_eq_false h2] at f2
  clear h2
  have bx0 := BX.out.cell (j := 0) rfl
  have bx1 := BX.out.cell (j := 1) rfl
  have bx2 := BX.out.cell (j := 2) rfl
  have bxl := BX.out.lt
  go_wp2_with fail
  refine Calls.mono (H.line p _ _ _ _ _ HP.out HR.out hnr) ?_
  rintro e we hp
  clear HR
  rcases r with _ | ⟨lr, pr⟩ | ⟨zr, yr, cr, sr⟩
  · exact hp.elim
  · have HF := hid' (FaultP.of_below hp HS.out.below)
    obtain ⟨gb, rfl, _⟩ := hp
    go_wp2
    exact ⟨rfl, HF.out⟩
  obtain ⟨vle, vse, rfl, hp, hs⟩ := hp
  have HQ := hid' (HS.out.then (Nat.le_refl _) hs)
  have HP2 := hid' hp
  clear hp hs
  go_wp2
  go_returns
  exact ⟨_, _, rfl, HP2.out, HQ.out⟩
end Go.Proofs.YtpjjofdphlgeiaaGreatDoor

namespace Go.Proofs.YtpjjofdphlgeiaaGreatDoor
open Go.RowKit
open Lx Ax Px

/-- Node k of the parser's. -/
theorem PV.node {A : Nat → Addr} {B pb : Nat} {ts : List Tok} {tv : Value} {W : World} {s : PS} {vl : Value} {vs : List Value} (h : PV A B pb ts tv W s vl vs) (k : Nat) (x : Nd) (hx : s.nodes[k]? = some x) : ∃ g cap v, vl = .slice (some ⟨g, 0, none⟩) s.nodes.length cap ∧ g < W.heap.size ∧ k < s.nodes.length ∧ NodeAt W.heap.size W g k x v := by
  have hk := (List.getElem?_eq_some_iff.1 hx).1
  obtain ⟨g, cap, e, _, _, hg, _⟩ := own_some h.tr.own (by omega)
  subst e
  obtain ⟨v, _, hv, _⟩ := h.tr.cells k x hx
  exact ⟨g, cap, v, rfl, hg, hk, hv⟩
set_option maxRecDepth 10000 in
set_option maxHeartbeats 1600000 in
theorem isCell_any {A : Nat → Addr} {B pb : Nat} {ts : List Tok} {tv : Value} {W : World} {s : PS} {vl : Value} {vs : List Value} (h : PV A B pb ts tv W s vl vs) (k : Nat) (x : Nd) (hx : s.nodes[k]? = some x) :
    Calls Tryz.prog 129 #[.pointer (some ⟨pb, 0, none⟩), .int .i64 (k : Int)] W fun e w' => e = .returned (.bool (x.op == 6 || x.op == 13)) ∧ Below W.heap.size W w' := by
  obtain ⟨g, cap, v, rfl, hg, hk, N⟩ := h.node k x hx
  obtain ⟨_, _, c2, _⟩ := h.cells
  have cop := N.op
  have hk2 : (0 : Int) ≤ (k : Int) ∧ (k : Int) < (s.nodes.length : Int) := by omega
  clear h N hx
  generalize x.op = op at cop
  by_cases h1 : op = 6
  · subst h1
    go_enter Tryz.func129, Tryz.ntmps129
    go_wp2
    go_returns
    exact ⟨rfl, Below.refl _ _⟩
  have q1 : (op == 6) = false := by simpa using h1
  go_enter Tryz.func129, Tryz.ntmps129
  go_wp2
  go_returns
  refine ⟨?_, Below.refl _ _⟩
  rw [q1]
  rfl
theorem targetF_nat {n : Nat} {l : List Nd} {z : Int} {b : Bool} (h : targetF n l z = some b) : ∃ k : Nat, z = (k : Int) := by
  rcases n with _ | n
  · simp [targetF] at h
  · refine Int.eq_ofNat_of_zero_le ?_
    unfold targetF at h
    by_cases hz : z < 0
    · rw [if_pos hz] at h; simp at h
    · omega
def idxT (w : World) (b : Bool) (e : Ending) (w' : World) : Prop := ∃ i : Int, e = .returned (.int .i64 i) ∧ decide (0 ≤ i) = !b ∧ Below w.heap.size w w'
set_option maxHeartbeats 800000 in
theorem IndexT_any (f : Nat) (ef : ∀ args w, (callFunc f args).run Tryz.prog w = .ok (.enter f args) w) (pa : Addr) (g : Int → Option Bool) (zs : List Int) (b : Bool) (ao : Option Addr) (c : Nat) (w : World) (hK : KidsAt w.heap.size w (.slice ao zs.length c) zs) (hb : allT g zs = some b)
    (hP : ∀ W, Below w.heap.size w W → ∀ z ∈ zs, ∀ x, g z = some x → Calls Tryz.prog f #[.int .i64 z, .pointer (some pa)] W fun e w' => e = .returned (.bool (!x)) ∧ Below w.heap.size W w') :
    Calls Tryz.prog 166 #[.slice ao zs.length c, .func (.func f) #[] #[.pointer (some pa)]] w (idxT w b) := by
  obtain ⟨ao', cap', hao, ⟨_, hlen⟩, hc0⟩ := hK
  simp only [Value.slice.injEq] at hao
  obtain ⟨rfl, _, rfl⟩ := hao
  have HC := hid' hc0
  have HB := hid' hb
  have HP := hid' hP
  clear hc0 hb hP
  go_enter Tryz.func166, Tryz.ntmps166
  go_wp2
  go_loopw [8] (fun i wr => ∃ k : Nat, k ≤ zs.length ∧ i = .int .i64 k ∧ Hid (allT g (zs.drop k) = some b) ∧ Below w.heap.size w wr) (fun i _ => zs.length - (intOf i).toNat)
  case atStart => exact ⟨0, Nat.zero_le _, rfl, HB, Below.refl _ _⟩
  case round =>
    obtain ⟨k, hk, rfl, hno, hb⟩ := hrel
    by_cases hlt : k < zs.length
    · rcases HC.out with h0 | ⟨gg, o, rfl, h2, h3⟩
      · rw [h0] at hlt; exact absurd hlt (by simp)
      · have h4 := (hb.cell (p := ⟨gg, o + k, none⟩) h2).trans (h3 k _ (List.getElem?_eq_getElem hlt))
        have HZ := hid' (List.drop_eq_getElem_cons hlt)
        have HM := hid' (List.getElem_mem hlt)
        have HN := hid' hno.out
        generalize zs[k] = z at h4 HZ HM
        rw [HZ.out] at HN
        unfold allT at HN
        generalize hg : g z = oz at HN
        rcases oz with _ | x
        · exact absurd HN.out (by simp)
        have HX := hid' (HP.out wr hb z HM.out x hg)
        clear h3 hg
        cases x with
        | true =>
          dsimp only at HN
          go_wp2_with (go_at_fn f; refine HX.out.mono ?_; rintro e w1 ⟨rfl, hb1⟩; have hb2 := hb.trans hb1)
          go_roundw
          case rel => exact ⟨k + 1, by omega, by go_num, HN, by assumption⟩
          case measure => simp [intOf]; omega
        | false =>
          dsimp only at HN
          go_wp2_with (go_at_fn f; refine HX.out.mono ?_; rintro e w1 ⟨rfl, hb1⟩; have hb2 := hb.trans hb1)
          go_ret
          have hbb : b = false := by have := HN.out; simpa using this.symm
          exact ⟨k, rfl, by rw [hbb]; simp, by assumption⟩
    · obtain rfl : k = zs.length := by omega
      have hbb : b = true := by have := hno.out; rw [List.drop_length] at this; simpa [allT] using this.symm
      go_wp2
      go_ret
      exact ⟨-1, rfl, by rw [hbb]; rfl, hb⟩
set_option maxHeartbeats 400000 in
theorem ContainsT_any (f : Nat) (ef : ∀ args w, (callFunc f args).run Tryz.prog w = .ok (.enter f args) w) (pa : Addr) (g : Int → Option Bool) (zs : List Int) (b : Bool) (ao : Option Addr) (c : Nat) (w : World) (hK : KidsAt w.heap.size w (.slice ao zs.length c) zs) (hb : allT g zs = some b)
    (hP : ∀ W, Below w.heap.size w W → ∀ z ∈ zs, ∀ x, g z = some x → Calls Tryz.prog f #[.int .i64 z, .pointer (some pa)] W fun e w' => e = .returned (.bool (!x)) ∧ Below w.heap.size W w') :
    Calls Tryz.prog 150 #[.slice ao zs.length c, .func (.func f) #[] #[.pointer (some pa)]] w fun e w' => e = .returned (.bool (!b)) ∧ Below w.heap.size w w' := by
  have HI := hid' (IndexT_any f ef pa g zs b ao c w hK hb hP)
  clear hK hb hP
  go_enter Tryz.func150, Tryz.ntmps150
  go_wp2_with fail
  refine HI.out.mono ?_
  rintro e w1 ⟨i, rfl, hi, hb⟩
  have Hi := hid' hi
  clear hi
  go_wp2
  go_ret
  exact ⟨ret_bool' Hi.out, hb⟩
set_option maxRecDepth 10000 in
set_option maxHeartbeats 1600000 in
theorem isTarget1_any {W : World} {pa : Addr} {pb : Nat} {z : Int} {x : Bool} (n₀ : Nat) (hc : W.cell? pa = some (.pointer (some ⟨pb, 0, none⟩))) (h0 : n₀ ≤ W.heap.size) (h : Calls Tryz.prog 128 #[.pointer (some ⟨pb, 0, none⟩), .int .i64 z] W fun e w' => e = .returned (.bool x) ∧ Below W.heap.size W w') :
    Calls Tryz.prog 149 #[.int .i64 z, .pointer (some pa)] W fun e w' => e = .returned (.bool (!x)) ∧ Below n₀ W w' := by
  have hnot : ∀ (x : Bool) (w : World), (Op.unary .not (.bool x)).run Tryz.prog w = .ok (.bool (!x)) w := fun _ _ => rfl
  have HC := hid' h
  clear h
  go_enter Tryz.func149, Tryz.ntmps149
  go_wp2_with fail
  refine HC.out.mono ?_
  rintro e w1 ⟨rfl, hb1⟩
  go_wp2
  go_returns
  exact ⟨rfl, hb1.mono h0⟩
set_option maxRecDepth 10000 in
set_option maxHeartbeats 3200000 in
theorem isTarget_all {A : Nat → Addr} {B pb : Nat} {ts : List Tok} {tv : Value} (n : Nat) : ∀ (W : World) (s : PS) (vl : Value) (vs : List Value), PV A B pb ts tv W s vl vs → ∀ (k : Nat) (b : Bool), targetF n s.nodes (k : Int) = some b →
    Calls Tryz.prog 128 #[.pointer (some ⟨pb, 0, none⟩), .int .i64 (k : Int)] W fun e w' => e = .returned (.bool b) ∧ Below W.heap.size W w' := by
  induction n with
  | zero => intro W s vl vs h k b hx; simp [targetF] at hx
  | succ n ih =>
    intro W s vl vs h k b hx
    unfold targetF at hx
    rw [if_neg (by omega), Int.toNat_natCast] at hx
    generalize hnd : s.nodes[k]? = ox at hx
    rcases ox with _ | x
    · simp at hx
    dsimp only at hx
    have hmf : ∀ (fn : Fn) (first cap : Array Value) (w : World), (Instr.makeFunc fn first cap).run Tryz.prog w = .ok (.func fn first cap) w := fun _ _ _ _ => rfl
    have hnot : ∀ (x : Bool) (w : World), (Op.unary .not (.bool x)).run Tryz.prog w = .ok (.bool (!x)) w := fun _ _ => rfl
    have h0 := h.alloc (.cells #[.pointer (some ⟨pb, 0, none⟩)] 45)
    have HC := hid' (isCell_any h0 k x hnd)
    have HB0 := hid' ((Below.refl W.heap.size W).alloc (Nat.le_refl _) (.cells #[.pointer (some ⟨pb, 0, none⟩)] 45))
    have RB := hid' (row_new W 45 [.pointer (some ⟨pb, 0, none⟩)])
    have HP0 := hid' h0
    have hlt := h.lt
    cases hc : (x.op == 6 || x.op == 13) with
    | true =>
      rw [hc, if_pos rfl] at hx
      obtain rfl : true = b := by simpa using hx
      rw [hc] at HC
      clear h h0 hx hnd hc ih
      go_enter Tryz.func128, Tryz.ntmps128
      go_wp2_with fail
      refine Calls.mono HC.out ?_
      rintro e w2 ⟨rfl, b2⟩
      go_wp2
      go_returns
      exact ⟨rfl, Below.thenB HB0.out b2⟩
    | false =>
      rw [hc, if_neg (by simp)] at hx
      rw [hc] at HC
      have IH := hid' ih
      have HX := hid' hx
      have HN := hid' hnd
      clear h h0 hc ih hx hnd
      go_enter Tryz.func128, Tryz.ntmps128
      go_wp2_with fail
      refine Calls.mono HC.out ?_
      rintro e w2 ⟨rfl, b2⟩
      have R2 := RB.out.far (b2.block _ RB.out.lt)
      have r0 := R2.cell (j := 0) rfl
      have hl2 := R2.lt
      have HP2 := hid' (HP0.out.low b2)
      obtain ⟨g, cap, v, rfl, hg, hk, N⟩ := HP2.out.node k x HN.out
      obtain ⟨_, _, c2, _⟩ := HP2.out.cells
      obtain ⟨n0, n1, n2, n3, n4, n5⟩ := N
      have HK := hid' n5
      obtain ⟨ka, kc, rfl, ⟨_, klen⟩, _⟩ := n5
      have hk2 : (0 : Int) ≤ (k : Int) ∧ (k : Int) < (s.nodes.length : Int) := by omega
      have HB2 := hid' (Below.thenB HB0.out b2)
      have hbs := HB2.out.size
      have HR2 := hid' R2
      by_cases h8 : x.op = 8
      · rw [h8] at n0
        by_cases hk0 : x.kids = []
        · rw [if_neg (by rintro ⟨_, h⟩; exact h hk0)] at HX
          obtain rfl : false = b := by have := HX.out; simpa using this
          rw [hk0] at n4
          clear b2 R2 HN HX
          go_wp2
          go_returns
          exact ⟨rfl, by have := HB2.out; go_grown⟩
        · rw [if_pos ⟨h8, hk0⟩] at HX
          have hpos : (0 : Int) < (x.kids.length : Int) := by have := List.length_pos_iff.2 hk0; omega
          have hgt : decide ((x.kids.length : Int) > 0) = true := decide_eq_true hpos
          clear b2 R2 HN hk0 h8
          go_wp2_with fail
          have b3 := (Below.refl w2.heap.size w2).alloc (Nat.le_refl _) (.cells #[.int .i64 8, .int .i64 x.n, .int .i64 x.pos, .string x.s, .slice ka x.kids.length kc] 32)
          refine Calls.mono (ContainsT_any 149 (enters_of Tryz.func149 (by kernel_rfl) rfl) ⟨W.heap.size, 0, none⟩ (targetF n s.nodes) x.kids b ka kc _ (HK.out.keep b3 (by simp)) HX.out ?_) ?_
          · intro W' hW z _ c hc
            obtain ⟨k', rfl⟩ := targetF_nat hc
            have hb5 : Below w2.heap.size w2 W' := b3.trans (hW.mono (by simp))
            exact isTarget1_any _ ((hb5.cell (p := ⟨W.heap.size, 0, none⟩) (by simp only; omega)).trans r0) hW.size (IH.out W' s _ _ (HP2.out.low hb5) k' c hc)
          rintro e w4 ⟨rfl, b4⟩
          have HB4 := hid' (HB2.out.trans ((b3.trans (b4.mono (by simp))).mono HB2.out.size))
          clear b3 b4
          go_wp2
          go_returns
          exact ⟨ret_bool' rfl, HB4.out⟩
      · rw [if_neg (by rintro ⟨h, _⟩; exact h8 h)] at HX
        obtain rfl : false = b := by have := HX.out; simpa using this
        have h8' : (x.op == 8) = false := by simpa using h8
        generalize x.op = op at n0 h8'
        clear b2 R2 HN HX
        go_wp2
        go_returns
        exact ⟨rfl, by have := HB2.out; go_grown⟩
theorem isTarget_any {A : Nat → Addr} {B pb : Nat} {ts : List Tok} {tv : Value} (n : Nat) {W : World} {s : PS} {vl : Value} {vs : List Value} (h : PV A B pb ts tv W s vl vs) (k : Nat) (b : Bool) (hx : targetF n s.nodes (k : Int) = some b) :
    Calls Tryz.prog 128 #[.pointer (some ⟨pb, 0, none⟩), .int .i64 (k : Int)] W fun e w' => e = .returned (.bool b) ∧ Below W.heap.size W w' := isTarget_all n W s vl vs h k b hx
end Go.Proofs.YtpjjofdphlgeiaaGreatDoor

namespace Go.Proofs.YtpjjofdphlgeiaaGreatDoor
open Go.RowKit
open Lx Ax Px

set_option maxRecDepth 10000 in
set_option maxHeartbeats 3200000 in
theorem assignment_step {A : Nat → Addr} {B pb : Nat} {ts : List Tok} {tv : Value} {m : Nat} (H : All A B pb ts tv m) : Does A B pb ts tv 111 #[ptr pb] .assignment (m + 1) := by
  intro W s vl vs r h hr hnr
  have HR := hid' hr
  have HP := hid' h
  have HS := hid' (Step.refl W.heap.size B pb W vl vs)
  have HLO := hid' h.lowB
  clear hr h
  rw [runF] at HR
  unfold bodyF at HR
  dsimp only at HR
  have hnot : ∀ (x : Bool) (w : World), (Op.unary .not (.bool x)).run Tryz.prog w = .ok (.bool (!x)) w := fun _ _ => rfl
  have hfk := tok_kind
  have hfp := tok_pos
  unfold ptr
  go_enter Tryz.func111, Tryz.ntmps111
  go_wp2_with fail
  generalize hq1 : runF ts m (.bare 0) s = r1 at HR
  rcases r1 with _ | ⟨l1, p1⟩ | ⟨z1, y1, c1, s1⟩
  · exact absurd HR.out.symm hnr
  · refine Calls.mono (H.tuple _ _ _ _ _ HP.out hq1 (by simp)) ?_
    rintro e wb hp
    have HF := hid' (FaultP.of_below hp HS.out.below)
    obtain ⟨gb, rfl, _⟩ := hp
    obtain rfl : R.bad l1 p1 = r := HR.out
    go_wp2
    exact ⟨rfl, HF.out⟩
  refine Calls.mono (H.tuple _ _ _ _ _ HP.out hq1 (by simp)) ?_
  rintro e w1 ⟨vl1, vs1, rfl, hp, hs⟩
  have hle1 := HS.out.below.size
  replace HS := hid' (HS.out.then (Nat.le_refl _) hs)
  replace HP := hid' hp
  clear hp hs
  dsimp only [R.bind] at HR
  clear hq1
  rw [Px.signF] at HR
  generalize ht3 : ts[PS.at_ s1]? = o3 at HR
  rcases o3 with _ | t3
  · exact absurd HR.out.symm hnr
  try dsimp only at HR
  go_wp2_with fail
  refine Calls.mono (p_sign_any HP.out t3 ht3) ?_
  rintro e w4 ⟨rfl, b⟩
  have hp := HP.out.low b
  have hs := Step.low (n := w1.heap.size) HP.out b
  clear b
  replace HS := hid' (HS.out.then (Nat.le_refl _) hs)
  replace HP := hid' hp
  clear hp hs
  have f0 := str_is (sg t3) [61]
  have f1 := str_is (sg t3) [43, 61]
  by_cases h0 : sg t3 = [61]
  · rw [if_pos h0] at HR
    rw [decide_eq_true h0] at f0
    clear h0 f1
    generalize hx : targetF (s1.nodes.length + 1) s1.nodes z1 = ox at HR
    rcases ox with _ | bt
    · exact absurd HR.out.symm hnr
    try dsimp only at HR
    obtain ⟨k, rfl⟩ := targetF_nat hx
    rw [allowF, ht3] at HR
    try dsimp only at HR
    go_wp2_with fail
    refine Calls.mono (isTarget_any _ HP.out k bt hx) ?_
    rintro e w5 ⟨rfl, b⟩
    have hp := HP.out.low b
    have hs := Step.low (n := w4.heap.size) HP.out b
    clear b
    replace HS := hid' (HS.out.then (Nat.le_refl _) hs)
    replace HP := hid' hp
    clear hp hs
    cases bt with
    | false =>
      rw [if_neg (by simp)] at HR
      clear hx
      go_wp2_with fail
      · refine Calls.mono (allow_false HP.out t3 ht3) ?_
        rintro e wb hp
        have HF := hid' (FaultP.of_below hp HS.out.below)
        obtain ⟨gb, rfl, _⟩ := hp
        obtain rfl : R.bad false t3.pos = r := HR.out
        go_wp2
        exact ⟨rfl, HF.out⟩
    | true =>
      rw [if_pos rfl] at HR
      clear hx
      go_wp2_with fail
      refine Calls.mono (allow_true _ _) ?_
      rintro e wo ⟨rfl, hwo⟩
      rw [hwo]
      clear hwo wo
      rw [nextF] at HR
      rw [ht3] at HR
      try dsimp only at HR
      go_wp2_with fail
      refine Calls.mono (next_any HP.out t3 ht3) ?_
      rintro e w7 ⟨rfl, hp, hst⟩
      have hs := hst.step w5.heap.size vl1 vs1
      clear hst
      replace HS := hid' (HS.out.then (Nat.le_refl _) hs)
      replace HP := hid' hp
      clear hp hs
      generalize (PS.mk (PS.at_ s1 + 1) (PS.nodes s1) (PS.deep s1)) = s7 at HP HR
      go_wp2_with fail
      generalize hq8 : runF ts m (.bare 0) s7 = r8 at HR
      rcases r8 with _ | ⟨l8, p8⟩ | ⟨z8, y8, c8, s8⟩
      · exact absurd HR.out.symm hnr
      · refine Calls.mono (H.tuple _ _ _ _ _ HP.out hq8 (by simp)) ?_
        rintro e wb hp
        have HF := hid' (FaultP.of_below hp HS.out.below)
        obtain ⟨gb, rfl, _⟩ := hp
        obtain rfl : R.bad l8 p8 = r := HR.out
        go_wp2
        exact ⟨rfl, HF.out⟩
      refine Calls.mono (H.tuple _ _ _ _ _ HP.out hq8 (by simp)) ?_
      rintro e w8 ⟨vl8, vs8, rfl, hp, hs⟩
      have hle8 := HS.out.below.size
      replace HS := hid' (HS.out.then (Nat.le_refl _) hs)
      replace HP := hid' hp
      clear hp hs
      dsimp only [R.bind] at HR
      clear hq8
      rw [addF] at HR
      by_cases hn10 : ¬ ((PS.nodes s8).length < 900000 ∧ (List.length ([(k : Int), z8] : List Int)) < 900000)
      · rw [if_neg hn10] at HR
        exact absurd HR.out.symm hnr
      rw [Decidable.not_not] at hn10
      rw [if_pos hn10] at HR
      go_wp2_with fail
      refine Calls.mono (add_lit HP.out 36 _ ⟨#[]⟩ (by decide) [(k : Int), z8] (by simp) _ rfl _ rfl hn10.1) ?_
      rintro e w10 ⟨rfl, vl10, vs10, hp, hs⟩
      replace HS := hid' (HS.out.then (Nat.le_refl _) hs)
      replace HP := hid' hp
      clear hp hs
      generalize hs10 : (PS.mk (PS.at_ s8) (PS.nodes s8 ++ [⟨36, 0, _, ⟨#[]⟩, [(k : Int), z8]⟩]) (PS.deep s8)) = s10 at HP HR
      clear hs10
      obtain rfl := HR.out
      go_wp2
      go_returns
      exact ⟨_, _, rfl, HP.out, HS.out⟩
  rw [if_neg h0] at HR
  rw [decide_eq_false h0] at f0
  clear h0
  by_cases h1 : sg t3 = [43, 61]
  · rw [if_pos h1] at HR
    rw [decide_eq_true h1] at f1
    clear h1
    by_cases hz : z1 < 0
    · rw [if_pos hz] at HR
      exact absurd HR.out.symm hnr
    rw [if_neg hz] at HR
    generalize hx : s1.nodes[z1.toNat]? = ox at HR
    rcases ox with _ | x
    · exact absurd HR.out.symm hnr
    try dsimp only at HR
    obtain ⟨k, rfl⟩ := Int.eq_ofNat_of_zero_le (by omega : 0 ≤ z1)
    rw [Int.toNat_natCast] at hx
    clear hz
    rw [allowF, ht3] at HR
    try dsimp only at HR
    go_wp2_with fail
    refine Calls.mono (isCell_any HP.out k x hx) ?_
    rintro e w11 ⟨rfl, b⟩
    have hp := HP.out.low b
    have hs := Step.low (n := w4.heap.size) HP.out b
    clear b
    replace HS := hid' (HS.out.then (Nat.le_refl _) hs)
    replace HP := hid' hp
    clear hp hs
    cases hc : (x.op == 6 || x.op == 13) with
    | false =>
      rw [hc, if_neg (by simp)] at HR
      clear hc hx
      go_wp2_with fail
      · refine Calls.mono (allow_false HP.out t3 ht3) ?_
        rintro e wb hp
        have HF := hid' (FaultP.of_below hp HS.out.below)
        obtain ⟨gb, rfl, _⟩ := hp
        obtain rfl : R.bad false t3.pos = r := HR.out
        go_wp2
        exact ⟨rfl, HF.out⟩
    | true =>
      rw [hc, if_pos rfl] at HR
      clear hc hx
      go_wp2_with fail
      refine Calls.mono (allow_true _ _) ?_
      rintro e wo ⟨rfl, hwo⟩
      rw [hwo]
      clear hwo wo
      rw [nextF] at HR
      rw [ht3] at HR
      try dsimp only at HR
      go_wp2_with fail
      refine Calls.mono (next_any HP.out t3 ht3) ?_
      rintro e w13 ⟨rfl, hp, hst⟩
      have hs := hst.step w11.heap.size vl1 vs1
      clear hst
      replace HS := hid' (HS.out.then (Nat.le_refl _) hs)
      replace HP := hid' hp
      clear hp hs
      generalize (PS.mk (PS.at_ s1 + 1) (PS.nodes s1) (PS.deep s1)) = s13 at HP HR
      go_wp2_with fail
      generalize hq14 : runF ts m (.bare 0) s13 = r14 at HR
      rcases r14 with _ | ⟨l14, p14⟩ | ⟨z14, y14, c14, s14⟩
      · exact absurd HR.out.symm hnr
      · refine Calls.mono (H.tuple _ _ _ _ _ HP.out hq14 (by simp)) ?_
        rintro e wb hp
        have HF := hid' (FaultP.of_below hp HS.out.below)
        obtain ⟨gb, rfl, _⟩ := hp
        obtain rfl : R.bad l14 p14 = r := HR.out
        go_wp2
        exact ⟨rfl, HF.out⟩
      refine Calls.mono (H.tuple _ _ _ _ _ HP.out hq14 (by simp)) ?_
      rintro e w14 ⟨vl14, vs14, rfl, hp, hs⟩
      have hle14 := HS.out.below.size
      replace HS := hid' (HS.out.then (Nat.le_refl _) hs)
      replace HP := hid' hp
      clear hp hs
      dsimp only [R.bind] at HR
      clear hq14
      rw [addF] at HR
      by_cases hn16 : ¬ ((PS.nodes s14).length < 900000 ∧ (List.length ([(k : Int), z14] : List Int)) < 900000)
      · rw [if_neg hn16] at HR
        exact absurd HR.out.symm hnr
      rw [Decidable.not_not] at hn16
      rw [if_pos hn16] at HR
      go_wp2_with fail
      refine Calls.mono (add_lit HP.out 37 _ ⟨#[]⟩ (by decide) [(k : Int), z14] (by simp) _ rfl _ rfl hn16.1) ?_
      rintro e w16 ⟨rfl, vl16, vs16, hp, hs⟩
      replace HS := hid' (HS.out.then (Nat.le_refl _) hs)
      replace HP := hid' hp
      clear hp hs
      generalize hs16 : (PS.mk (PS.at_ s14) (PS.nodes s14 ++ [⟨37, 0, _, ⟨#[]⟩, [(k : Int), z14]⟩]) (PS.deep s14)) = s16 at HP HR
      clear hs16
      obtain rfl := HR.out
      go_wp2
      go_returns
      exact ⟨_, _, rfl, HP.out, HS.out⟩
  rw [if_neg h1] at HR
  rw [decide_eq_false h1] at f1
  clear h1
  rw [posF] at HR
  by_cases hz : z1 < 0
  · rw [if_pos hz] at HR
    exact absurd HR.out.symm hnr
  rw [if_neg hz] at HR
  generalize hx : s1.nodes[z1.toNat]? = ox at HR
  rcases ox with _ | x
  · exact absurd HR.out.symm hnr
  try dsimp only at HR
  obtain ⟨k, rfl⟩ := Int.eq_ofNat_of_zero_le (by omega : 0 ≤ z1)
  rw [Int.toNat_natCast] at hx
  clear hz
  obtain ⟨gn, cn, vn, hvl, hgn, hkn, N⟩ := HP.out.node k x hx
  have HN := hid' hvl
  obtain ⟨_, _, c2, _⟩ := HP.out.cells
  rw [hvl] at c2
  have np := N.pos
  have hk2 : (0 : Int) ≤ (k : Int) ∧ (k : Int) < (s1.nodes.length : Int) := by omega
  clear N hx hvl
  rw [addF] at HR
  by_cases hn17 : ¬ ((PS.nodes s1).length < 900000 ∧ (List.length ([(k : Int)] : List Int)) < 900000)
  · rw [if_neg hn17] at HR
    exact absurd HR.out.symm hnr
  rw [Decidable.not_not] at hn17
  rw [if_pos hn17] at HR
  go_wp2_with fail
  refine Calls.mono (add_lit HP.out 35 _ ⟨#[]⟩ (by decide) [(k : Int)] (by simp) _ rfl _ rfl hn17.1) ?_
  rintro e w17 ⟨rfl, vl17, vs17, hp, hs⟩
  replace HS := hid' (HS.out.then (Nat.le_refl _) hs)
  replace HP := hid' hp
  clear hp hs
  generalize hs17 : (PS.mk (PS.at_ s1) (PS.nodes s1 ++ [⟨35, 0, _, ⟨#[]⟩, [(k : Int)]⟩]) (PS.deep s1)) = s17 at HP HR
  clear hs17
  obtain rfl := HR.out
  go_wp2
  go_returns
  exact ⟨_, _, rfl, HP.out, HS.out⟩
end Go.Proofs.YtpjjofdphlgeiaaGreatDoor

namespace Go.Proofs.YtpjjofdphlgeiaaGreatDoor
open Go.RowKit
open Lx Ax Px

set_option maxRecDepth 10000 in
set_option maxHeartbeats 1600000 in
theorem alone_step {A : Nat → Addr} {B pb : Nat} {ts : List Tok} {tv : Value} {m : Nat} (H : All A B pb ts tv m) : DoesN A B pb ts tv 26 #[ptr pb] .alone (m + 1) := by
  intro W s vl vs r h hr hnr
  have HR := hid' hr
  have HP := hid' h
  have HS := hid' (Step.refl W.heap.size B pb W vl vs)
  have HLO := hid' h.lowB
  clear hr h
  rw [runF] at HR
  unfold bodyF at HR
  dsimp only at HR
  have hnot : ∀ (x : Bool) (w : World), (Op.unary .not (.bool x)).run Tryz.prog w = .ok (.bool (!x)) w := fun _ _ => rfl
  have hfk := tok_kind
  have hfp := tok_pos
  unfold ptr
  go_enter Tryz.func26, Tryz.ntmps26
  go_wp2_with fail
  generalize hq1 : runF ts m (.bare 0) s = r1 at HR
  rcases r1 with _ | ⟨l1, p1⟩ | ⟨z1, y1, c1, s1⟩
  · exact absurd HR.out.symm hnr
  · refine Calls.mono (H.tuple _ _ _ _ _ HP.out hq1 (by simp)) ?_
    rintro e wb hp
    have HF := hid' (FaultP.of_below hp HS.out.below)
    obtain ⟨gb, rfl, _⟩ := hp
    obtain rfl : R.bad l1 p1 = r := HR.out
    go_wp2
    exact ⟨rfl, HF.out⟩
  refine Calls.mono (H.tuple _ _ _ _ _ HP.out hq1 (by simp)) ?_
  rintro e w1 ⟨vl1, vs1, rfl, hp, hs⟩
  have hle1 := HS.out.below.size
  replace HS := hid' (HS.out.then (Nat.le_refl _) hs)
  replace HP := hid' hp
  clear hp hs
  dsimp only [R.bind] at HR
  clear hq1
  rw [kindF] at HR
  generalize ht3 : ts[PS.at_ s1]? = o3 at HR
  rcases o3 with _ | t3
  · exact absurd HR.out.symm hnr
  try dsimp only at HR
  go_wp2_with fail
  refine Calls.mono (p_token_any HP.out t3 ht3) ?_
  rintro e w4 ⟨rfl, b⟩
  have hp := HP.out.low b
  have hs := Step.low (n := w1.heap.size) HP.out b
  clear b
  replace HS := hid' (HS.out.then (Nat.le_refl _) hs)
  replace HP := hid' hp
  clear hp hs
  by_cases h5 : t3.kind = 5
  · rw [if_pos h5] at HR
    have q5 : ((t3.kind : Int) == 5) = true := by rw [h5]; rfl
    clear h5
    go_wp2_with fail
    refine Calls.mono (next_any HP.out t3 ht3) ?_
    rintro e w5 ⟨rfl, hp, hst⟩
    have hs := hst.step w4.heap.size vl1 vs1
    clear hst
    replace HS := hid' (HS.out.then (Nat.le_refl _) hs)
    replace HP := hid' hp
    clear hp hs
    generalize (PS.mk (PS.at_ s1 + 1) (PS.nodes s1) (PS.deep s1)) = s5 at HP HR
    rw [takeKF] at HR
    generalize ht6 : ts[PS.at_ s5]? = o6 at HR
    rcases o6 with _ | t6
    · exact absurd HR.out.symm hnr
    try dsimp only at HR
    by_cases hl7 : ¬ t6.kind = 8
    · rw [if_neg hl7] at HR
      go_wp2_with fail
      · refine Calls.mono (take_miss HP.out t6 ht6 8 hl7) ?_
        rintro e wb hp
        have HF := hid' (FaultP.of_below hp HS.out.below)
        obtain ⟨gb, rfl, _⟩ := hp
        obtain rfl : R.bad false t6.pos = r := HR.out
        go_wp2
        exact ⟨rfl, HF.out⟩
    rw [Decidable.not_not] at hl7
    rw [if_pos hl7] at HR
    go_wp2_with fail
    refine Calls.mono (take_hit HP.out t6 ht6 8 hl7) ?_
    rintro e w9 ⟨rfl, hp, hst⟩
    have hs := hst.step w5.heap.size vl1 vs1
    clear hst
    replace HS := hid' (HS.out.then (Nat.le_refl _) hs)
    replace HP := hid' hp
    clear hp hs
    generalize (PS.mk (PS.at_ s5 + 1) (PS.nodes s5) (PS.deep s5)) = s9 at HP HR
    clear hl7
    obtain rfl := HR.out
    go_wp2
    go_end0
    exact ⟨_, _, rfl, HP.out, HS.out⟩
  rw [if_neg h5] at HR
  have q5 : ((t3.kind : Int) == 5) = false := by simp; omega
  clear h5
  rw [takeKF] at HR
  generalize ht10 : ts[PS.at_ s1]? = o10 at HR
  rcases o10 with _ | t10
  · exact absurd HR.out.symm hnr
  try dsimp only at HR
  by_cases hl11 : ¬ t10.kind = 8
  · rw [if_neg hl11] at HR
    go_wp2_with fail
    · refine Calls.mono (take_miss HP.out t10 ht10 8 hl11) ?_
      rintro e wb hp
      have HF := hid' (FaultP.of_below hp HS.out.below)
      obtain ⟨gb, rfl, _⟩ := hp
      obtain rfl : R.bad false t10.pos = r := HR.out
      go_wp2
      exact ⟨rfl, HF.out⟩
  rw [Decidable.not_not] at hl11
  rw [if_pos hl11] at HR
  go_wp2_with fail
  refine Calls.mono (take_hit HP.out t10 ht10 8 hl11) ?_
  rintro e w13 ⟨rfl, hp, hst⟩
  have hs := hst.step w4.heap.size vl1 vs1
  clear hst
  replace HS := hid' (HS.out.then (Nat.le_refl _) hs)
  replace HP := hid' hp
  clear hp hs
  generalize (PS.mk (PS.at_ s1 + 1) (PS.nodes s1) (PS.deep s1)) = s13 at HP HR
  clear hl11
  obtain rfl := HR.out
  go_wp2
  go_end0
  exact ⟨_, _, rfl, HP.out, HS.out⟩
end Go.Proofs.YtpjjofdphlgeiaaGreatDoor

namespace Go.Proofs.YtpjjofdphlgeiaaGreatDoor
open Go.RowKit
open Lx Ax Px

/-- What addBlock answers. -/
def BlockP (A : Nat → Addr) (B pb : Nat) (ts : List Tok) (tv : Value) (W : World) (vl : Value) (vs : List Value) (n : Nat) (r : R) (e : Ending) (w' : World) : Prop := ∃ z s' vl' vs', r = .ok z [] false s' ∧ e = .returned (.int .i64 z) ∧ PV A B pb ts tv w' s' vl' vs' ∧ Step n B pb W vl vs w' vl' vs'
set_option maxRecDepth 10000 in
set_option maxHeartbeats 3200000 in
theorem addBlock_any {A : Nat → Addr} {B pb : Nat} {ts : List Tok} {tv : Value} {W : World} {s : PS} {vl : Value} {vs : List Value} (h : PV A B pb ts tv W s vl vs) (v : Value) (z : Int) (zr : List Int) (hz : OwnZ W B v (z :: zr)) (hoff : Off v vs) (r : R) (hr : (posF s z fun p => addF 47 p ⟨#[]⟩ (z :: zr) s Px.one) = r) (hnr : r ≠ .stuck) (n : Nat) (hv : ∀ k, v.ownBlock = some k → n ≤ k) :
    Calls Tryz.prog 36 #[.pointer (some ⟨pb, 0, none⟩), v] W (BlockP A B pb ts tv W vl vs n r) := by
  rw [posF] at hr
  by_cases hz0 : z < 0
  · rw [if_pos hz0] at hr
    exact absurd hr.symm hnr
  rw [if_neg hz0] at hr
  generalize hx : s.nodes[z.toNat]? = ox at hr
  rcases ox with _ | x
  · exact absurd hr.symm hnr
  try dsimp only at hr
  obtain ⟨k, rfl⟩ := Int.eq_ofNat_of_zero_le (by omega : 0 ≤ z)
  rw [Int.toNat_natCast] at hx
  rw [addF] at hr
  by_cases hn : ¬ (s.nodes.length < 900000 ∧ ((k : Int) :: zr).length < 900000)
  · rw [if_neg hn] at hr
    exact absurd hr.symm hnr
  rw [Decidable.not_not] at hn
  rw [if_pos hn] at hr
  obtain ⟨gk, ck, rfl, hck, _, hgk, hck2⟩ := own_some hz (by simp)
  have HA := fun W' (hb : Below W.heap.size W W') => hid' (p_add_any (n := n) (h.low hb) 47 x.pos ⟨#[]⟩ (by decide) _ ((k : Int) :: zr) (hz.keep fun j _ hj => hb.block j hj) hoff hn.1 hn.2 hv)
  have HS0 := fun W' (hb : Below W.heap.size W W') => hid' (Step.low (n := n) h hb)
  have HR := hid' hr
  obtain ⟨g, cap, vn, rfl, hg, hk, N⟩ := h.node k x hx
  obtain ⟨_, _, c2, _⟩ := h.cells
  have hlt := h.lt
  have d0 := hck2 0 (.int .i64 (k : Int)) (by simp [nums])
  have np := N.pos
  have hk2 : (0 : Int) ≤ (k : Int) ∧ (k : Int) < (s.nodes.length : Int) := by omega
  have hm0 : (0 : Int) ≤ 0 ∧ (0 : Int) < ((((k : Int) :: zr).length : Nat) : Int) := ⟨by omega, by simp only [List.length_cons]; omega⟩
  generalize hml : ((k : Int) :: zr).length = m at hm0 hck HA hn
  clear hck2 hr N hz hoff hx h hml
  go_enter Tryz.func36, Tryz.ntmps36
  go_wp2_with fail
  go_region_with (go_at_call 35; refine Calls.mono (HA _ ?_).out ?_; (· exact (Below.refl _ _).drew); rintro e w2 ⟨rfl, vl2, vs2, p2, s2⟩; have P2 := hid' p2; have S2 := hid' ((HS0 _ (Below.refl _ _).drew).out.trans s2); clear p2 s2)
  all_goals (
    go_wp2
    go_returns
    exact ⟨_, _, _, _, HR.out.symm, rfl, P2.out, S2.out⟩)
end Go.Proofs.YtpjjofdphlgeiaaGreatDoor
