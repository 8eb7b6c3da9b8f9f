/- Parts of the proof, together. Whether a name and a = stand next; an append of a number in a region that draws. Conditions: as told. A parser and a map of names beside it: what is kept where the map is turned, too. Conditions: as told. What argument answers. Conditions: as told of less fuel. A call's arguments: what the closure that reads one does. Conditions: as told of less fuel. What items (of a call) and call answer. Conditions: as told of less fuel. What call of the parser answers. Conditions: as told of less fuel. On the way through a def's params: its list, its map, its flag. No conditions of its own. A def's param that has no value: what the closure that reads it does. Conditions: as told of less fuel. A def's param that has a value, behind one that has none: what the closure that reads it does. Conditions: as told of less fuel. A def's param that has a value, behind one that has one, too: what the closure that reads it does. Conditions: as told of less fuel. -/
import Derived.Test.YtpjjofdphlgeiaaGreatDoorVvbj
import Derived.Test.YtpjjofdphlgeiaaGreatDoorVvbm
import Derived.Test.YtpjjofdphlgeiaaGreatDoorVvbl
import Derived.Test.YtpjjofdphlgeiaaGreatDoorVvbk
namespace Go.Proofs.YtpjjofdphlgeiaaGreatDoor
open Go.RowKit
open Lx Ax Px

section
variable {A : Nat → Addr} {n B pb : Nat} {ts : List Tok} {tv : Value} {W W' : World} {s : PS} {vl : Value} {vs : List Value}
theorem isNamed_no (h : PV A B pb ts tv W s vl vs) (t : Tok) (ht : ts[s.at_]? = some t) (hk : ¬ t.kind = 1) :
    Calls Tryz.prog 188 #[.pointer (some ⟨pb, 0, none⟩)] W fun e w' => e = .returned (.bool false) ∧ Below W.heap.size W w' := by
  have HT := hid' (p_token_any h t ht)
  have hfk := tok_kind
  have q1 : ((t.kind : Int) != 1) = true := by simp; omega
  clear h ht hk
  go_enter Tryz.func188, Tryz.ntmps188
  go_wp2_with fail
  refine Calls.mono HT.out ?_
  rintro e w2 ⟨rfl, b2⟩
  go_wp2
  go_returns
  exact ⟨rfl, b2⟩
set_option maxRecDepth 10000 in
set_option maxHeartbeats 6400000 in
theorem isNamed_yes (h : PV A B pb ts tv W s vl vs) (t : Tok) (ht : ts[s.at_]? = some t) (hk : t.kind = 1) (t2 : Tok) (ht2 : ts[s.at_ + 1]? = some t2) :
    Calls Tryz.prog 188 #[.pointer (some ⟨pb, 0, none⟩)] W fun e w' => e = .returned (.bool (decide (sg t2 = [61]))) ∧ Below W.heap.size W w' := by
  have HT := hid' (p_token_any h t ht)
  have hfk := tok_kind
  have q1 : ((t.kind : Int) != 1) = false := by rw [hk]; rfl
  have HP := hid' h
  have hfew := h.few
  have hw : IntKind.i64.wrap ((s.at_ : Int) + 1) = ((s.at_ + 1 : Nat) : Int) := by rw [IntWalk.i64_in _ ⟨by omega, by omega⟩]; omega
  have hj2 := (List.getElem?_eq_some_iff.1 ht2).1
  have hj1 : (0 : Int) ≤ ((s.at_ + 1 : Nat) : Int) ∧ ((s.at_ + 1 : Nat) : Int) < (ts.length : Int) := by omega
  have H2 := hid' ht2
  clear h ht hk ht2
  by_cases k4 : t2.kind = 4
  · have f1 := str_is t2.text [61]
    have hs : sg t2 = t2.text := by unfold sg; rw [if_pos k4]
    rw [hs]
    have K4 := hid' k4
    clear hs k4
    cases hd : decide (t2.text = [61]) with
    | true =>
      rw [hd] at f1
      clear hd
      go_enter Tryz.func188, Tryz.ntmps188
      go_wp2_with fail
      refine Calls.mono HT.out ?_
      rintro e w2 ⟨rfl, b2⟩
      have h2 := HP.out.low b2
      obtain ⟨c0, c1, _, _⟩ := h2.cells
      obtain ⟨g, cap, rfl, hg, _, d0, d1, d2⟩ := h2.toks.tok _ t2 H2.out
      have hlt := h2.lt
      have hgl : g < w2.heap.size := Nat.lt_of_lt_of_le hg h2.lowB
      have HB := hid' b2
      generalize hat : s.at_ + 1 = a at hw hj1 d0 d1 d2 hj2
      rw [K4.out] at d0
      clear h2 b2
      go_wp2
      go_region
      all_goals (
        go_wp2
        go_returns
        exact ⟨rfl, by have hbb := HB.out; have hsz := hbb.size; go_grown⟩)
    | false =>
      rw [hd] at f1
      clear hd
      go_enter Tryz.func188, Tryz.ntmps188
      go_wp2_with fail
      refine Calls.mono HT.out ?_
      rintro e w2 ⟨rfl, b2⟩
      have h2 := HP.out.low b2
      obtain ⟨c0, c1, _, _⟩ := h2.cells
      obtain ⟨g, cap, rfl, hg, _, d0, d1, d2⟩ := h2.toks.tok _ t2 H2.out
      have hlt := h2.lt
      have hgl : g < w2.heap.size := Nat.lt_of_lt_of_le hg h2.lowB
      have HB := hid' b2
      generalize hat : s.at_ + 1 = a at hw hj1 d0 d1 d2 hj2
      rw [K4.out] at d0
      clear h2 b2
      go_wp2
      go_region
      all_goals (
        go_wp2
        go_returns
        exact ⟨rfl, by have hbb := HB.out; have hsz := hbb.size; go_grown⟩)
  · have hs : decide (sg t2 = [61]) = false := by unfold sg; rw [if_neg k4]; rfl
    have q4 : ((t2.kind : Int) == 4) = false := by simp; omega
    rw [hs]
    clear hs k4
    go_enter Tryz.func188, Tryz.ntmps188
    go_wp2_with fail
    refine Calls.mono HT.out ?_
    rintro e w2 ⟨rfl, b2⟩
    have h2 := HP.out.low b2
    obtain ⟨c0, c1, _, _⟩ := h2.cells
    obtain ⟨g, cap, rfl, hg, _, d0, d1, d2⟩ := h2.toks.tok _ t2 H2.out
    have hlt := h2.lt
    have hgl : g < w2.heap.size := Nat.lt_of_lt_of_le hg h2.lowB
    have HB := hid' b2
    generalize hat : s.at_ + 1 = a at hw hj1 d0 d1 d2 hj2
    clear h2 b2
    go_wp2
    go_region
    all_goals (
      go_wp2
      go_returns
      exact ⟨rfl, by have hbb := HB.out; have hsz := hbb.size; go_grown⟩)
end
/-- An append of one number in a region that draws. -/
theorem num_drawn {ops : Array Oper} {o : Oper} {a : Act} {K : Act → World → Prop} {Q : Exit → Act → World → Prop} {E : Prop} {W : World} {B : Nat} {v : Value} {xs : List Int} (h : OwnZ W B v xs) (z : Int) (hB : B ≤ W.heap.size) (hl : xs.length < 1000000) (hgd : o.guard = none) (x y : Operand)
    (ho : o.op = .call { callee := .builtin .append, args := #[x, y], argTypes := #[30, 30] }) (hx : a.eval x = v) (hy : a.eval y = .slice (some ⟨W.heap.size, 0, none⟩) 1 1)
    (hK : ∀ g cap w', OwnZ w' B (.slice (some ⟨g, 0, none⟩) (xs.length + 1) cap) (xs ++ [z]) → Below B W w' → (∀ k, k < W.heap.size → v.ownBlock ≠ some k → w'.heap[k]? = W.heap[k]?) → ((some g = v.ownBlock) ∨ g = W.heap.size + 1) → W.heap.size + 1 ≤ w'.heap.size →
      K (a.put o.dst (.slice (some ⟨g, 0, none⟩) (xs.length + 1) cap)) w') :
    if Region.wanted o (yielded ops a.tmps) = true then Oper.wp Tryz.prog o a (W.alloc (.cells #[.int .i64 z] 3)) K Q else E := by
  rw [if_pos (by simp [Region.wanted, hgd])]
  obtain ⟨i0, hi, hz0, hz1, hz2⟩ := info_parts info_num
  obtain ⟨u, w', hr, h1, h2, _, h4⟩ := run_append_own_at (P := Tryz.prog) (W.alloc (.cells #[.int .i64 z] 3)) B 30 o.type 3 i0 _ 1 8 Tryz.underlying30 hi hz0 hz1 hz2 rfl (by decide) v xs.length (nums xs)
    (World.ownsRow.alloc h _) ⟨W.heap.size, 0, none⟩ 1 1 [.int .i64 z] rfl (cell_one_new W _ _) (fun u hu => by simp at hu; subst hu; rfl) (by unfold maxLen; omega) (by omega) (by simp; omega)
  have hb : ∀ j, j < W.heap.size → v.ownBlock ≠ some j → w'.heap[j]? = W.heap[j]? := fun j hj hne => (h2.block j (by simp; omega) (Ne.symm hne)).trans (Below.heap_alloc W _ j hj)
  have h1' : OwnZ w' B u (xs ++ [z]) := by unfold OwnZ nums; rw [List.length_append, List.map_append]; exact h1
  obtain ⟨g, cap, e, _⟩ := own_some h1' (by simp)
  subst e
  rw [List.length_append, List.length_singleton] at h1' hr h4
  have hsz := h2.size
  simp only [World.size_alloc] at hsz
  unfold Oper.wp execOp
  simp only [ho, resolve, invoke, builtin, Sem.run_bind, Sem.run_pure, Result.andThen_ok, List.map_toArray, List.map_cons, List.map_nil, hx, hy, hr]
  refine hK g cap w' h1' ?_ hb ?_ hsz
  · exact ((Below.refl B W).alloc hB _).grown h2 (by simp; omega) fun j hj => (h.lt j hj).1
  · rcases h4 with h4 | h4
    · exact .inl h4
    · refine .inr ?_
      simp only [Value.ownBlock, Option.some.injEq, World.size_alloc] at h4
      exact h4
end Go.Proofs.YtpjjofdphlgeiaaGreatDoor

namespace Go.Proofs.YtpjjofdphlgeiaaGreatDoor
open Go.RowKit Go.Maps
open Lx Ax Px

theorem MapU.len {W : World} {b : Nat} {names : List (List UInt8)} (h : MapU W b names) : ∃ m : Nat, (m = 0 ↔ names = []) ∧ ∀ ty, (Builtin.len_ #[128] ty #[.map (some b)]).run Tryz.prog W = .ok (.int .i64 (m : Int)) W := by
  obtain ⟨D, zd, zp, h1, h2, h3⟩ := h
  refine ⟨Maps.size D, ⟨fun h0 => ?_, fun h0 => ?_⟩, fun ty => h2.len Tryz.underlying128 ty⟩
  · cases names with
    | nil => rfl
    | cons l names =>
      have h4 := (h3 (txt l)).1
      have h5 : (unitF (l :: names) (txt l)).isSome = true := by unfold unitF; rw [data_txt, if_pos (List.mem_cons_self ..)]; rfl
      rw [h5] at h4
      cases D with
      | map es =>
        simp only [Maps.size] at h0
        obtain rfl : es = [] := List.eq_nil_of_length_eq_zero h0
        simp [Maps.has] at h4
      | _ => simp [Maps.has] at h4
  · subst h0
    have := h2.size_le
    simpa using this
theorem MapU.block {W : World} {b : Nat} {names : List (List UInt8)} (h : MapU W b names) : ∃ es c, W.heap[b]? = some (.map es c) := by
  obtain ⟨D, zd, zp, h1, ⟨es, clock, hb, _⟩, h3⟩ := h
  exact ⟨es, clock, hb⟩
theorem MapU.ne {W : World} {b k : Nat} {names : List (List UInt8)} (h : MapU W b names) {t : TypeId} {cs : List Value} (hr : RowV W k t cs) : k ≠ b := by
  rintro rfl
  obtain ⟨es, c, hb⟩ := h.block
  unfold RowV at hr
  rw [hb] at hr
  cases hr
theorem MapU.ne_own {W : World} {b : Nat} {names : List (List UInt8)} (h : MapU W b names) {B : Nat} {e : TypeId} {size m : Nat} {v : Value} {xs : List Value} (ho : W.ownsRow B e size v m xs) : ∀ k, v.ownBlock = some k → k ≠ b := by
  rintro k hk rfl
  obtain ⟨es, c, hb⟩ := h.block
  rcases ho.2 with ⟨rfl, _⟩ | ⟨g, cap, cur, rfl, _, hg, _⟩
  · simp [Value.ownBlock] at hk
  · simp only [Value.ownBlock, Option.some.injEq] at hk
    subst hk
    rw [hb] at hg
    cases hg
/-- What a step keeps that may turn the map, too. -/
structure StepM (mb n B pb : Nat) (W : World) (vl : Value) (vs : List Value) (W' : World) (vl' : Value) (vs' : List Value) : Prop where
  below : Below B W W'
  far : ∀ k, k < W.heap.size → k ≠ pb → k ≠ mb → vl.ownBlock ≠ some k → W'.heap[k]? = W.heap[k]?
  blk : ∀ k, vl'.ownBlock = some k → vl.ownBlock = some k ∨ W.heap.size ≤ k
  kids : ∃ l2, vs' = vs ++ l2 ∧ ∀ v ∈ l2, ∀ k, v.ownBlock = some k → n ≤ k
section
variable {A : Nat → Addr} {n B pb mb : Nat} {ts : List Tok} {tv : Value} {W W0 W' W2 : World} {s s' : PS} {vl vl0 vl' vl2 : Value} {vs vs0 vs' vs2 : List Value} {names : List (List UInt8)}
theorem Step.toM (h : Step n B pb W vl vs W' vl' vs') (mb : Nat) : StepM mb n B pb W vl vs W' vl' vs' := ⟨h.below, fun k h1 h2 _ h4 => h.far k h1 h2 h4, h.blk, h.kids⟩
theorem StepM.trans (h : StepM mb n B pb W vl vs W' vl' vs') (h2 : StepM mb n B pb W' vl' vs' W2 vl2 vs2) : StepM mb n B pb W vl vs W2 vl2 vs2 := by
  refine ⟨h.below.trans h2.below, fun k hk hp hm hv => ?_, fun k hk => ?_, ?_⟩
  · rw [h2.far k (Nat.lt_of_lt_of_le hk h.below.size) hp hm (fun e => (h.blk k e).elim hv (fun e2 => by omega)), h.far k hk hp hm hv]
  · rcases h2.blk k hk with e | e
    · exact h.blk k e
    · exact .inr (Nat.le_trans h.below.size e)
  · obtain ⟨l, e, hl⟩ := h.kids
    obtain ⟨l', e', hl'⟩ := h2.kids
    refine ⟨l ++ l', by rw [e', e, List.append_assoc], fun v hv => ?_⟩
    rcases List.mem_append.1 hv with hv | hv
    · exact hl v hv
    · exact hl' v hv
theorem StepM.mono {m : Nat} (h : StepM mb m B pb W vl vs W' vl' vs') (hn : n ≤ m) : StepM mb n B pb W vl vs W' vl' vs' :=
  ⟨h.below, h.far, h.blk, let ⟨l, e, hl⟩ := h.kids; ⟨l, e, fun v hv k hk => Nat.le_trans hn (hl v hv k hk)⟩⟩
theorem StepM.then (h : StepM mb n B pb W vl vs W' vl' vs') (hn : n ≤ W.heap.size) (h2 : StepM mb W'.heap.size B pb W' vl' vs' W2 vl2 vs2) : StepM mb n B pb W vl vs W2 vl2 vs2 :=
  h.trans (h2.mono (Nat.le_trans hn h.below.size))
/-- To whom the map is new it is a step. -/
theorem Step.thenM (h : Step n B pb W0 vl0 vs0 W vl vs) (hn : n ≤ W0.heap.size) (hm : W0.heap.size ≤ mb) (h2 : StepM mb W.heap.size B pb W vl vs W' vl' vs') : Step n B pb W0 vl0 vs0 W' vl' vs' := by
  have h3 := (h.toM mb).then hn h2
  exact ⟨h3.below, fun k hk hp hv => h3.far k hk hp (by omega) hv, h3.blk, h3.kids⟩
theorem MapU.step (h : MapU W mb names) (hp : PV A B pb ts tv W s vl vs) (hs : Step n B pb W vl vs W' vl' vs') : MapU W' mb names :=
  MapAt.of_eq h (hs.far mb (MapAt.lt h) (fun e => MapU.ne h hp.row e.symm) (fun e => h.ne_own hp.tr.own mb e rfl))
/-- The parser, where but for the map all is as it was. -/
theorem PV.keepM (hp : PV A B pb ts tv W s vl vs) (h : MapU W mb names) (hb : Below B W W') (hf : ∀ k, k < W.heap.size → k ≠ mb → W'.heap[k]? = W.heap[k]?) : PV A B pb ts tv W' s vl vs :=
  ⟨hp.row.far (hf pb hp.lt (h.ne hp.row)), hp.tr.keep' (fun k e hk => hf k hk (h.ne_own hp.tr.own k e)) (fun j u hu k e hk => hf k hk (by
    have hj : j < s.nodes.length := by rw [← hp.tr.len]; exact (List.getElem?_eq_some_iff.1 hu).1
    exact h.ne_own (hp.tr.kid j _ u (List.getElem?_eq_getElem hj) hu) k e)), hp.high, hp.toks.below hb, hp.few, hp.env.below hb⟩
theorem RowV.stepM {b0 : Nat} {t : TypeId} {cs : List Value} (h : RowV W b0 t cs) (ht : t ≠ 69) (ht2 : 32 ≠ t) (hm : MapU W mb names) (hp : PV A B pb ts tv W s vl vs) (hs : StepM mb n B pb W vl vs W' vl' vs') : RowV W' b0 t cs :=
  h.far (hs.far b0 h.lt (fun e => RowV.apart h hp.row ht e) (hm.ne h) (fun e => ne_kind hp.tr.own h ht2 b0 e rfl))
theorem OwnZ.stepM {v : Value} {zs : List Int} (h : OwnZ W B v zs) (hm : MapU W mb names) (hp : PV A B pb ts tv W s vl vs) (hs : StepM mb n B pb W vl vs W' vl' vs') : OwnZ W' B v zs :=
  h.keep fun k e hk => hs.far k hk (ne_kind h hp.row (by decide) k e) (hm.ne_own h k e) (fun e2 => own_apart h hp.tr.own (by decide) k e e2)
/-- What an argument answers: its node, and whether it has a name (which is laid down). -/
def ArgP (A : Nat → Addr) (B pb mb : Nat) (ts : List Tok) (tv : Value) (W : World) (vl : Value) (vs : List Value) (t : Tok) (names : List (List UInt8)) (r : R) (e : Ending) (w' : World) : Prop := match r with
  | .stuck => False
  | .bad l p => FaultP A B W l p e w'
  | .ok z _ c s' => ∃ vl' vs', e = .returned (.int .i64 z) ∧ PV A B pb ts tv w' s' vl' vs' ∧ StepM mb W.heap.size B pb W vl vs w' vl' vs' ∧ MapU w' mb (if c then t.text :: names else names)
end
end Go.Proofs.YtpjjofdphlgeiaaGreatDoor

namespace Go.Proofs.YtpjjofdphlgeiaaGreatDoor
open Go.RowKit
open Lx Ax Px

theorem tok_text (k p : Int) (x : ByteArray) (w : World) : (Instr.field 71 (.agg #[.int .i64 k, .string x, .int .i64 p]) 1).run Tryz.prog w = .ok (.string x) w := by kernel_rfl
set_option maxRecDepth 10000 in
set_option maxHeartbeats 12800000 in
theorem argument_step {A : Nat → Addr} {B pb : Nat} {ts : List Tok} {tv : Value} {m : Nat} (hts : ∀ t ∈ ts, (txt t.text).size ≤ 1000000) (H : All A B pb ts tv m) (mb : Nat) (names : List (List UInt8)) (hnl : names.length < 900001) (hB : B ≤ mb) :
    ∀ W s vl vs r t, PV A B pb ts tv W s vl vs → ts[s.at_]? = some t → MapU W mb names → runF ts (m + 1) (.argument names) s = r → r ≠ .stuck → Calls Tryz.prog 178 #[.pointer (some ⟨pb, 0, none⟩), .map (some mb)] W (ArgP A B pb mb ts tv W vl vs t names r) := by
  intro W s vl vs r t h ht hm hr hnr
  have HR := hid' hr
  have HP := hid' h
  have HM := hid' hm
  have HTS := hid' hts
  have HLO := hid' h.lowB
  have HT := hid' ht
  have HS := hid' ((Step.refl W.heap.size B pb W vl vs).toM mb)
  clear hr h hm hts ht
  rw [runF] at HR
  unfold bodyF at HR
  try dsimp only at HR
  rw [nextF, HT.out] at HR
  try dsimp only at HR
  have hnot : ∀ (x : Bool) (w : World), (Op.unary .not (.bool x)).run Tryz.prog w = .ok (.bool (!x)) w := fun _ _ => rfl
  have hfp := tok_pos
  have hfx := tok_text
  by_cases hk : t.kind = 1
  · rw [if_pos hk] at HR
    generalize ht2 : ts[s.at_ + 1]? = o2 at HR
    rcases o2 with _ | t2
    · exact absurd HR.out.symm hnr
    try dsimp only at HR
    by_cases hs : sg t2 = [61]
    · rw [if_pos hs] at HR
      have HN := hid' (isNamed_yes HP.out t HT.out hk t2 ht2)
      rw [decide_eq_true hs] at HN
      have H2 := hid' (And.intro ht2 hs)
      clear hs hk ht2
      go_enter Tryz.func178, Tryz.ntmps178
      go_wp2_with fail
      refine Calls.mono HN.out ?_
      rintro e w2 ⟨rfl, b2⟩
      have hp := HP.out.low b2
      have hs := Step.low (n := W.heap.size) HP.out b2
      clear b2
      have hm := HM.out.step HP.out hs
      replace HS := hid' (HS.out.then (Nat.le_refl _) (hs.toM mb))
      replace HP := hid' hp
      replace HM := hid' hm
      clear hm hp hs
      go_wp2_with fail
      refine Calls.mono (p_token_any HP.out t HT.out) ?_
      rintro e w3 ⟨rfl, b3⟩
      have hp := HP.out.low b3
      have hs := Step.low (n := w2.heap.size) HP.out b3
      clear b3
      have hm := HM.out.step HP.out hs
      replace HS := hid' (HS.out.then (Nat.le_refl _) (hs.toM mb))
      replace HP := hid' hp
      replace HM := hid' hm
      clear hm hp hs
      go_wp2_with fail
      refine Calls.mono (fresh_any HM.out (by omega) t.text (HTS.out _ (List.mem_of_getElem? HT.out))) ?_
      rintro e w4 ⟨rfl, hm4, hsz4, hf4, hb4⟩
      have hp4 := PV.keepM HP.out HM.out (hb4 B hB) hf4
      have hs4 : StepM mb w3.heap.size B pb w3 vl vs w4 vl vs := ⟨hb4 B hB, fun k h1 _ h3 _ => hf4 k h1 h3, fun _ e => .inl e, ⟨[], by simp, by simp⟩⟩
      replace HS := hid' (HS.out.then (Nat.le_refl _) hs4)
      replace HP := hid' hp4
      replace HM := hid' hm4
      clear hm4 hsz4 hf4 hb4 hp4 hs4
      by_cases hin : t.text ∈ names
      · rw [if_pos hin] at HR
        rw [show decide (¬ t.text ∈ names) = false by simpa using hin]
        clear hin
        go_wp2_with fail
        refine Calls.mono (allow_false HP.out t HT.out) ?_
        rintro e wb hp
        have HF := hid' (FaultP.of_below hp HS.out.below)
        obtain ⟨gb, rfl, _⟩ := hp
        obtain rfl : R.bad false t.pos = r := HR.out
        go_wp2
        exact ⟨rfl, HF.out⟩
      rw [if_neg hin] at HR
      rw [show decide (¬ t.text ∈ names) = true by simpa using hin]
      clear hin
      go_wp2_with fail
      refine Calls.mono (allow_true _ _) ?_
      rintro e wo ⟨rfl, hwo⟩
      rw [hwo]
      clear hwo wo
      go_wp2_with fail
      refine Calls.mono (next_any HP.out t HT.out) ?_
      rintro e w5 ⟨rfl, hp, hst⟩
      have hs := hst.step w4.heap.size vl vs
      clear hst
      have hm := HM.out.step HP.out hs
      replace HS := hid' (HS.out.then (Nat.le_refl _) (hs.toM mb))
      replace HP := hid' hp
      replace HM := hid' hm
      clear hm hp hs
      have BX := hid' (row_new w5 71 [.int .i64 (t.kind : Int), .string (txt t.text), .int .i64 (t.pos : Int)])
      have hp := HP.out.alloc (.cells #[.int .i64 (t.kind : Int), .string (txt t.text), .int .i64 (t.pos : Int)] 71)
      have hs := (Step.refl w5.heap.size B pb w5 vl vs).alloc (.cells #[.int .i64 (t.kind : Int), .string (txt t.text), .int .i64 (t.pos : Int)] 71) HP.out.lowB
      have hm := HM.out.step HP.out hs
      replace HS := hid' (HS.out.then (Nat.le_refl _) (hs.toM mb))
      replace HP := hid' hp
      replace HM := hid' hm
      clear hm hp hs
      rw [needF, H2.out.1] at HR
      try dsimp only at HR
      rw [if_pos H2.out.2] at HR
      go_wp2_with fail
      refine Calls.mono (need_hit HP.out t2 H2.out.1 [61] H2.out.2) ?_
      rintro e w6 ⟨rfl, hp, hst⟩
      have hs := hst.step (w5.alloc (.cells #[.int .i64 (t.kind : Int), .string (txt t.text), .int .i64 (t.pos : Int)] 71)).heap.size vl vs
      clear hst
      replace BX := hid' (BX.out.stepR (by decide) (by decide) HP.out hs)
      have hm := HM.out.step HP.out hs
      replace HS := hid' (HS.out.then (Nat.le_refl _) (hs.toM mb))
      replace HP := hid' hp
      replace HM := hid' hm
      clear hm hp hs
      generalize (PS.mk (s.at_ + 1 + 1) s.nodes s.deep) = s6 at HP HR
      go_wp2_with fail
      generalize hq7 : runF ts m .test s6 = r7 at HR
      rcases r7 with _ | ⟨l7, p7⟩ | ⟨z7, y7, c7, s7⟩
      · exact absurd HR.out.symm hnr
      · refine Calls.mono (H.test _ _ _ _ _ HP.out hq7 (by simp)) ?_
        rintro e wb hp
        have HF := hid' (FaultP.of_below hp HS.out.below)
        obtain ⟨gb, rfl, _⟩ := hp
        obtain rfl : R.bad l7 p7 = r := HR.out
        go_wp2
        exact ⟨rfl, HF.out⟩
      refine Calls.mono (H.test _ _ _ _ _ HP.out hq7 (by simp)) ?_
      rintro e w7 ⟨vl7, vs7, rfl, hp, hs⟩
      replace BX := hid' (BX.out.stepR (by decide) (by decide) HP.out hs)
      have hm := HM.out.step HP.out hs
      replace HS := hid' (HS.out.then (Nat.le_refl _) (hs.toM mb))
      replace HP := hid' hp
      replace HM := hid' hm
      clear hm hp hs
      try dsimp only [R.bind] at HR
      clear hq7
      have bx1 := BX.out.cell (j := 1) rfl
      have bx2 := BX.out.cell (j := 2) rfl
      have bxl := BX.out.lt
      rw [addF] at HR
      by_cases hn8 : ¬ ((PS.nodes s7).length < 900000 ∧ (List.length ([z7] : List Int)) < 900000)
      · rw [if_neg hn8] at HR
        exact absurd HR.out.symm hnr
      rw [Decidable.not_not] at hn8
      rw [if_pos hn8] at HR
      go_wp2_with fail
      clear bx1 bx2 bxl BX
      refine Calls.mono (add_lit HP.out 11 _ (txt t.text) (HTS.out _ (List.mem_of_getElem? HT.out)) [z7] (by simp) _ rfl _ rfl hn8.1) ?_
      rintro e w8 ⟨rfl, vl8, vs8, hp, hs⟩
      have hm := HM.out.step HP.out hs
      replace HS := hid' (HS.out.then (Nat.le_refl _) (hs.toM mb))
      replace HP := hid' hp
      replace HM := hid' hm
      clear hm hp hs
      obtain rfl := HR.out
      go_wp2
      go_returns
      exact ⟨_, _, rfl, HP.out, HS.out, HM.out⟩
    rw [if_neg hs] at HR
    have HN := hid' (isNamed_yes HP.out t HT.out hk t2 ht2)
    rw [decide_eq_false hs] at HN
    clear hs hk ht2
    go_enter Tryz.func178, Tryz.ntmps178
    go_wp2_with fail
    refine Calls.mono HN.out ?_
    rintro e w2 ⟨rfl, b2⟩
    have hp := HP.out.low b2
    have hs := Step.low (n := W.heap.size) HP.out b2
    clear b2
    have hm := HM.out.step HP.out hs
    replace HS := hid' (HS.out.then (Nat.le_refl _) (hs.toM mb))
    replace HP := hid' hp
    replace HM := hid' hm
    clear hm hp hs
    obtain ⟨ml, hml, hlen⟩ := HM.out.len
    by_cases hnm : names = []
    · have hm0 : ((ml : Int) == 0) = true := by rw [hml.2 hnm]; rfl
      rw [if_pos hnm] at HR
      clear hml hnm
      go_wp2_with fail
      refine Calls.mono (allow_true _ _) ?_
      rintro e wo ⟨rfl, hwo⟩
      rw [hwo]
      clear hwo wo
      go_wp2_with fail
      generalize hq5 : runF ts m .test s = r5 at HR
      rcases r5 with _ | ⟨l5, p5⟩ | ⟨z5, y5, c5, s5⟩
      · exact absurd HR.out.symm hnr
      · refine Calls.mono (H.test _ _ _ _ _ HP.out hq5 (by simp)) ?_
        rintro e wb hp
        have HF := hid' (FaultP.of_below hp HS.out.below)
        obtain ⟨gb, rfl, _⟩ := hp
        obtain rfl : R.bad l5 p5 = r := HR.out
        go_wp2
        exact ⟨rfl, HF.out⟩
      refine Calls.mono (H.test _ _ _ _ _ HP.out hq5 (by simp)) ?_
      rintro e w5 ⟨vl5, vs5, rfl, hp, hs⟩
      have hm := HM.out.step HP.out hs
      replace HS := hid' (HS.out.then (Nat.le_refl _) (hs.toM mb))
      replace HP := hid' hp
      replace HM := hid' hm
      clear hm hp hs
      try dsimp only [R.bind] at HR
      clear hq5
      obtain rfl := HR.out
      go_wp2
      go_returns
      exact ⟨_, _, rfl, HP.out, HS.out, HM.out⟩
    have hm0 : ((ml : Int) == 0) = false := by
      have : ml ≠ 0 := fun h0 => hnm (hml.1 h0)
      simp; omega
    rw [if_neg hnm] at HR
    clear hml hnm
    go_wp2_with fail
    refine Calls.mono (allow_false HP.out t HT.out) ?_
    rintro e wb hp
    have HF := hid' (FaultP.of_below hp HS.out.below)
    obtain ⟨gb, rfl, _⟩ := hp
    obtain rfl : R.bad false t.pos = r := HR.out
    go_wp2
    exact ⟨rfl, HF.out⟩
  rw [if_neg hk] at HR
  have HN := hid' (isNamed_no HP.out t HT.out hk)
  clear hk
  go_enter Tryz.func178, Tryz.ntmps178
  go_wp2_with fail
  refine Calls.mono HN.out ?_
  rintro e w2 ⟨rfl, b2⟩
  have hp := HP.out.low b2
  have hs := Step.low (n := W.heap.size) HP.out b2
  clear b2
  have hm := HM.out.step HP.out hs
  replace HS := hid' (HS.out.then (Nat.le_refl _) (hs.toM mb))
  replace HP := hid' hp
  replace HM := hid' hm
  clear hm hp hs
  obtain ⟨ml, hml, hlen⟩ := HM.out.len
  by_cases hnm : names = []
  · have hm0 : ((ml : Int) == 0) = true := by rw [hml.2 hnm]; rfl
    rw [if_pos hnm] at HR
    clear hml hnm
    go_wp2_with fail
    refine Calls.mono (allow_true _ _) ?_
    rintro e wo ⟨rfl, hwo⟩
    rw [hwo]
    clear hwo wo
    go_wp2_with fail
    generalize hq5 : runF ts m .test s = r5 at HR
    rcases r5 with _ | ⟨l5, p5⟩ | ⟨z5, y5, c5, s5⟩
    · exact absurd HR.out.symm hnr
    · refine Calls.mono (H.test _ _ _ _ _ HP.out hq5 (by simp)) ?_
      rintro e wb hp
      have HF := hid' (FaultP.of_below hp HS.out.below)
      obtain ⟨gb, rfl, _⟩ := hp
      obtain rfl : R.bad l5 p5 = r := HR.out
      go_wp2
      exact ⟨rfl, HF.out⟩
    refine Calls.mono (H.test _ _ _ _ _ HP.out hq5 (by simp)) ?_
    rintro e w5 ⟨vl5, vs5, rfl, hp, hs⟩
    have hm := HM.out.step HP.out hs
    replace HS := hid' (HS.out.then (Nat.le_refl _) (hs.toM mb))
    replace HP := hid' hp
    replace HM := hid' hm
    clear hm hp hs
    try dsimp only [R.bind] at HR
    clear hq5
    obtain rfl := HR.out
    go_wp2
    go_returns
    exact ⟨_, _, rfl, HP.out, HS.out, HM.out⟩
  have hm0 : ((ml : Int) == 0) = false := by
    have : ml ≠ 0 := fun h0 => hnm (hml.1 h0)
    simp; omega
  rw [if_neg hnm] at HR
  clear hml hnm
  go_wp2_with fail
  refine Calls.mono (allow_false HP.out t HT.out) ?_
  rintro e wb hp
  have HF := hid' (FaultP.of_below hp HS.out.below)
  obtain ⟨gb, rfl, _⟩ := hp
  obtain rfl : R.bad false t.pos = r := HR.out
  go_wp2
  exact ⟨rfl, HF.out⟩
end Go.Proofs.YtpjjofdphlgeiaaGreatDoor

namespace Go.Proofs.YtpjjofdphlgeiaaGreatDoor
open Go.RowKit
open Lx Ax Px

/-- On the way through a call's arguments: its list, its map, their variables. -/
structure CC (A : Nat → Addr) (B pb mb kb px nb : Nat) (ts : List Tok) (tv : Value) (W0 : World) (vl0 : Value) (vs0 : List Value) (W : World) (s : PS) (vl : Value) (vs : List Value) (v : Value) (zs : List Int) (names : List (List UInt8)) : Prop where
  pv : PV A B pb ts tv W s vl vs
  st : Step W0.heap.size B pb W0 vl0 vs0 W vl vs
  kr : RowV W kb 30 [v]
  pr : RowV W px 45 [.pointer (some ⟨pb, 0, none⟩)]
  nr : RowV W nb 128 [.map (some mb)]
  mp : MapU W mb names
  oz : OwnZ W B v zs
  off : Off v vs
  new : ∀ k, v.ownBlock = some k → W0.heap.size ≤ k
  hi : W0.heap.size ≤ mb ∧ W0.heap.size ≤ kb ∧ B ≤ W0.heap.size
def C1P (A : Nat → Addr) (B pb mb kb px nb : Nat) (ts : List Tok) (tv : Value) (W0 : World) (vl0 : Value) (vs0 : List Value) (W : World) (t : Tok) (zs : List Int) (names : List (List UInt8)) (r : R) (e : Ending) (w' : World) : Prop := match r with
  | .stuck => False
  | .bad l p => FaultP A B W l p e w'
  | .ok z _ c s' => e = .returned (.tuple #[]) ∧ ∃ vl' vs' v', CC A B pb mb kb px nb ts tv W0 vl0 vs0 w' s' vl' vs' v' (zs ++ [z]) (if c then t.text :: names else names)
/-- Behind an append to the list and the store of it. -/
theorem CC.pushed {A : Nat → Addr} {B pb mb kb px nb : Nat} {ts : List Tok} {tv : Value} {W0 : World} {vl0 : Value} {vs0 : List Value} {W w9 : World} {s : PS} {vl : Value} {vs : List Value} {v : Value} {zs : List Int} {names : List (List UInt8)} (h : CC A B pb mb kb px nb ts tv W0 vl0 vs0 W s vl vs v zs names)
    (z : Int) (g cap : Nat) (ho : OwnZ w9 B (.slice (some ⟨g, 0, none⟩) (zs.length + 1) cap) (zs ++ [z])) (hb : Below B W w9) (hf : ∀ k, k < W.heap.size → v.ownBlock ≠ some k → w9.heap[k]? = W.heap[k]?) (hg : (some g = v.ownBlock) ∨ g = W.heap.size + 1) :
    RowV w9 kb 30 [v] ∧ CC A B pb mb kb px nb ts tv W0 vl0 vs0 (w9.setCell ⟨kb, 0, none⟩ (.slice (some ⟨g, 0, none⟩) (zs.length + 1) cap)) s vl vs (.slice (some ⟨g, 0, none⟩) (zs.length + 1) cap) (zs ++ [z]) names := by
  have hk9 := h.kr.far (hf kb h.kr.lt (fun e => ne_kind h.oz h.kr (by decide) kb e rfl))
  have hp9 := h.pr.far (hf px h.pr.lt (fun e => ne_kind h.oz h.pr (by decide) px e rfl))
  have hn9 := h.nr.far (hf nb h.nr.lt (fun e => ne_kind h.oz h.nr (by decide) nb e rfl))
  have hm9 : MapU w9 mb names := MapAt.of_eq h.mp (hf mb (MapAt.lt h.mp) (fun e => h.mp.ne_own h.oz mb e rfl))
  obtain ⟨q1, q2, q3, q4⟩ := row_push (m := zs.length + 1) h.pv h.st h.oz h.off h.new hb hf g cap hg
  refine ⟨hk9, ⟨q1.setBox hk9 (by decide) (by decide) (by decide) (Nat.le_trans h.hi.2.2 h.hi.2.1) 0 _, q2.set ⟨kb, 0, none⟩ _ (.inl h.hi.2.1) h.hi.2.2 q1.high, hk9.set 0 _, row_past hp9 _ _ (fun e => RowV.apart hp9 hk9 (by decide) e), row_past hn9 _ _ (fun e => RowV.apart hn9 hk9 (by decide) e), ?_, ?_, q3, q4, h.hi⟩⟩
  · exact MapAt.of_eq hm9 (heap_setCell_other _ _ mb _ (fun e => MapU.ne hm9 hk9 e.symm))
  · exact ho.keep fun k e _ => heap_setCell_other _ _ k _ (fun e2 => ne_kind ho hk9 (by decide) k e e2)
/-- Behind a step that may turn the map. -/
theorem CC.stepM {A : Nat → Addr} {B pb mb kb px nb : Nat} {ts : List Tok} {tv : Value} {W0 : World} {vl0 : Value} {vs0 : List Value} {W w2 : World} {s s2 : PS} {vl vl2 : Value} {vs vs2 : List Value} {v : Value} {zs : List Int} {names names2 : List (List UInt8)} (h : CC A B pb mb kb px nb ts tv W0 vl0 vs0 W s vl vs v zs names)
    (hp : PV A B pb ts tv w2 s2 vl2 vs2) (hs : StepM mb W.heap.size B pb W vl vs w2 vl2 vs2) (hm : MapU w2 mb names2) : CC A B pb mb kb px nb ts tv W0 vl0 vs0 w2 s2 vl2 vs2 v zs names2 := by
  refine ⟨hp, h.st.thenM (Nat.le_refl _) h.hi.1 hs, h.kr.stepM (by decide) (by decide) h.mp h.pv hs, h.pr.stepM (by decide) (by decide) h.mp h.pv hs, h.nr.stepM (by decide) (by decide) h.mp h.pv hs, hm, h.oz.stepM h.mp h.pv hs, ?_, h.new, h.hi⟩
  obtain ⟨l, rfl, hl⟩ := hs.kids
  intro j u hu k hk e
  by_cases hj : j < vs.length
  · rw [List.getElem?_append_left hj] at hu
    exact h.off j u hu k hk e
  · rw [List.getElem?_append_right (by omega)] at hu
    have h1 := hl u (List.mem_of_getElem? hu) k hk
    have h2 := (World.ownsRow.lt h.oz k e).2
    omega
theorem CC.step {A : Nat → Addr} {B pb mb kb px nb : Nat} {ts : List Tok} {tv : Value} {W0 : World} {vl0 : Value} {vs0 : List Value} {W w2 : World} {s s2 : PS} {vl vl2 : Value} {vs vs2 : List Value} {v : Value} {zs : List Int} {names : List (List UInt8)} (h : CC A B pb mb kb px nb ts tv W0 vl0 vs0 W s vl vs v zs names)
    (hp : PV A B pb ts tv w2 s2 vl2 vs2) (hs : Step W.heap.size B pb W vl vs w2 vl2 vs2) : CC A B pb mb kb px nb ts tv W0 vl0 vs0 w2 s2 vl2 vs2 v zs names := h.stepM hp (hs.toM mb) (h.mp.step h.pv hs)
set_option maxRecDepth 10000 in
set_option maxHeartbeats 6400000 in
theorem call1_step {A : Nat → Addr} {B pb mb kb px nb : Nat} {ts : List Tok} {tv : Value} {m : Nat} (hts : ∀ t ∈ ts, (txt t.text).size ≤ 1000000) (H : All A B pb ts tv m) {W0 : World} {vl0 : Value} {vs0 : List Value} {W : World} {s : PS} {vl : Value} {vs : List Value} {v : Value} {zs : List Int} {names : List (List UInt8)}
    (h : CC A B pb mb kb px nb ts tv W0 vl0 vs0 W s vl vs v zs names) (t : Tok) (ht : ts[s.at_]? = some t) (hn : names.length < 900001) (hz : zs.length < 900001) (r : R) (hr : runF ts (m + 1) (.argument names) s = r) (hnr : r ≠ .stuck) :
    Calls Tryz.prog 177 #[.pointer (some ⟨kb, 0, none⟩), .pointer (some ⟨px, 0, none⟩), .pointer (some ⟨nb, 0, none⟩)] W (C1P A B pb mb kb px nb ts tv W0 vl0 vs0 W t zs names r) := by
  have hBm : B ≤ mb := Nat.le_trans h.hi.2.2 h.hi.1
  have hp1 : PV A B pb ts tv W.drew s vl vs := h.pv.drewN 1
  have hs1 : Step W.heap.size B pb W vl vs W.drew vl vs := Step.drewN (Step.refl W.heap.size B pb W vl vs) 1
  have h1 := h.step hp1 hs1
  have HA := hid' (argument_step hts H mb names hn hBm W.drew s vl vs r t hp1 ht h1.mp hr hnr)
  have HC := hid' h1
  have k0 := h.kr.cell (j := 0) rfl
  have p0 := h.pr.cell (j := 0) rfl
  have n0 := h.nr.cell (j := 0) rfl
  have HH := hid' h
  have HB1 : Hid (Below B W W.drew) := hid' hs1.below
  clear hr hp1 hs1 h1 h
  cases r with
  | stuck => exact absurd rfl hnr
  | bad l p =>
    obtain ⟨ao, cap, rfl, _⟩ := own_form HC.out.oz
    go_enter Tryz.func177, Tryz.ntmps177
    go_wp2_with fail
    refine wp_region_held_drew (S := fun W' => RowV W' kb 30 [.slice ao zs.length cap] ∧ RowV W' px 45 [.pointer (some ⟨pb, 0, none⟩)] ∧ RowV W' nb 128 [.map (some mb)]) (by kernel_rfl) (by exact ⟨HC.out.kr, HC.out.pr, HC.out.nr⟩) (fun hHeld => ?_)
    refine take_val' (i := 0) (v := .slice ao zs.length cap) rfl (by kernel_rfl) (by kernel_rfl) (by kernel_rfl) (some 3) rfl (fun _ _ _ h => h) (Or.inl ⟨by rfl, fun W' hW => by have y0 := RowV.cell hW.1 (j := 0) rfl; go_simp⟩) hHeld ?_
    try simp only [Act.put, List.setIfInBounds_toArray, List.set_cons_zero, List.set_cons_succ]
    refine take_val' (i := 1) (v := .pointer (some ⟨pb, 0, none⟩)) rfl (by kernel_rfl) (by kernel_rfl) (by kernel_rfl) (some 4) rfl (fun _ _ _ h => h) (Or.inl ⟨by rfl, fun W' hW => by have y0 := RowV.cell hW.2.1 (j := 0) rfl; go_simp⟩) hHeld ?_
    try simp only [Act.put, List.setIfInBounds_toArray, List.set_cons_zero, List.set_cons_succ]
    refine take_val' (i := 2) (v := .map (some mb)) rfl (by kernel_rfl) (by kernel_rfl) (by kernel_rfl) (some 5) rfl (fun _ _ _ h => h) (Or.inl ⟨by rfl, fun W' hW => by have y0 := RowV.cell hW.2.2 (j := 0) rfl; go_simp⟩) hHeld ?_
    try simp only [Act.put, List.setIfInBounds_toArray, List.set_cons_zero, List.set_cons_succ]
    refine wpAnyH_ready (rs := [3]) (by kernel_rfl) (by simp) ?_
    refine AllReadyH.cons rfl (fun K hK => ?_) AllReadyH.nil
    go_simp
    refine Calls.mono HA.out ?_
    rintro e wb hp
    have HF := hid' (FaultP.of_below hp HB1.out)
    obtain ⟨gb, rfl, _⟩ := hp
    exact ⟨rfl, HF.out⟩
  | ok z zz c s2 =>
    obtain ⟨ao, cap, rfl, _⟩ := own_form HC.out.oz
    go_enter Tryz.func177, Tryz.ntmps177
    go_wp2_with fail
    go_region_law (first | (go_simp; go_at_call 178; refine Calls.mono HA.out ?_; rintro e w2 ⟨vl2, vs2, rfl, hp2, hs2, hm2⟩; have h2 := HC.out.stepM hp2 hs2 hm2; have k2 := h2.kr.cell (j := 0) rfl; have p2 := h2.pr.cell (j := 0) rfl; have n2 := h2.nr.cell (j := 0) rfl; have kl2 := h2.kr.lt; have H2 := hid' h2; clear hp2 hs2 hm2 h2) | (refine num_drawn (W := w2) H2.out.oz z H2.out.pv.lowB (by omega) rfl (.tmp 3) (.tmp 7) (by rfl) (by rfl) (by rfl) ?_; intro g9 cap9 w9 q1 q2 q3 q4 q5; have h9 := H2.out.pushed z g9 cap9 q1 q2 q3 q4; have k9 := h9.1.cell (j := 0) rfl; have o9 := h9.1.open_ 0; have l9 := h9.1.lt; have H9 := hid' h9.2; clear h9 q1 q2 q3 q4 q5))
    all_goals (
      go_wp2
      go_end0
      exact ⟨rfl, _, _, _, H9.out⟩)
end Go.Proofs.YtpjjofdphlgeiaaGreatDoor

namespace Go.Proofs.YtpjjofdphlgeiaaGreatDoor
open Go.RowKit
open Lx Ax Px

def ItP (A : Nat → Addr) (B pb mb kb px nb : Nat) (ts : List Tok) (tv : Value) (W0 : World) (vl0 : Value) (vs0 : List Value) (r : R) (e : Ending) (w' : World) : Prop := match r with
  | .stuck => False
  | .bad l p => FaultP A B W0 l p e w'
  | .ok _ zs _ s' => e = .returned (.tuple #[]) ∧ ∃ vl' vs' v' names', CC A B pb mb kb px nb ts tv W0 vl0 vs0 w' s' vl' vs' v' zs names'
set_option maxRecDepth 10000 in
set_option maxHeartbeats 6400000 in
theorem items_call {A : Nat → Addr} {B pb mb kb px nb : Nat} {ts : List Tok} {tv : Value} {m : Nat} (hts : ∀ t ∈ ts, (txt t.text).size ≤ 1000000) (H : ∀ j, j ≤ m → All A B pb ts tv j) {W0 : World} {vl0 : Value} {vs0 : List Value} {W : World} {s : PS} {vl : Value} {vs : List Value} {v : Value} {zs : List Int} {names : List (List UInt8)}
    (h : CC A B pb mb kb px nb ts tv W0 vl0 vs0 W s vl vs v zs names) (hn : names.length < 900001) (hz : zs.length < 900001) (r : R) (hr : runF ts m (.args zs names) s = r) (hnr : r ≠ .stuck) :
    Calls Tryz.prog 105 #[.pointer (some ⟨pb, 0, none⟩), .string (txt [41]), .func (.func 177) #[] #[.pointer (some ⟨kb, 0, none⟩), .pointer (some ⟨px, 0, none⟩), .pointer (some ⟨nb, 0, none⟩)]] W (ItP A B pb mb kb px nb ts tv W0 vl0 vs0 r) := by
  have HC := hid' h
  have HR := hid' hr
  have HTS := hid' hts
  clear h hr hts
  have hnot : ∀ (x : Bool) (w : World), (Op.unary .not (.bool x)).run Tryz.prog w = .ok (.bool (!x)) w := fun _ _ => rfl
  go_enter Tryz.func105, Tryz.ntmps105
  go_wp2_with fail
  go_loopg [] m (fun gk wr => ∃ (s : PS) (vl : Value) (vs : List Value) (v : Value) (zs : List Int) (names : List (List UInt8)), gk ≤ m ∧ names.length < 900001 ∧ zs.length < 900001 ∧ Hid (CC A B pb mb kb px nb ts tv W0 vl0 vs0 wr s vl vs v zs names) ∧ Hid (runF ts gk (.args zs names) s = r))
  case atStart => exact ⟨s, vl, vs, v, zs, names, Nat.le_refl _, hn, hz, HC, HR⟩
  case round =>
    clear HC HR hn hz
    obtain ⟨s, vl, vs, v, zs, names, hgk, hn, hz, HC, HR⟩ := hrel
    rcases gk with _ | j
    · exact absurd HR.out.symm hnr
    rw [runF] at HR
    unfold bodyF at HR
    try dsimp only at HR
    rw [Px.signF] at HR
    generalize ht : ts[s.at_]? = o at HR
    rcases o with _ | t
    · exact absurd HR.out.symm hnr
    try dsimp only at HR
    go_wp2_with fail
    refine Calls.mono (sees_any HC.out.pv t ht [41]) ?_
    rintro e w2 ⟨rfl, b2⟩
    have h2 := HC.out.step (HC.out.pv.low b2) (Step.low (n := wr.heap.size) HC.out.pv b2)
    replace HC := hid' h2
    clear h2 b2
    by_cases hl : sg t = [41]
    · rw [if_pos hl] at HR
      rw [decide_eq_true hl]
      obtain rfl := HR.out
      clear hl
      go_wp2
      go_end0
      exact ⟨rfl, _, _, _, _, HC.out⟩
    rw [if_neg hl] at HR
    rw [decide_eq_false hl]
    clear hl
    rw [nextF, ht] at HR
    try dsimp only at HR
    rcases j with _ | j
    · exact absurd HR.out.symm hnr
    generalize hq : runF ts (j + 1) (.argument names) s = ra at HR
    rcases ra with _ | ⟨l1, p1⟩ | ⟨z1, y1, c1, s1⟩
    · exact absurd HR.out.symm hnr
    · go_wp2_with fail
      refine Calls.mono (call1_step HTS.out (H j (by omega)) HC.out t ht hn hz _ hq (by simp)) ?_
      rintro e wb hp
      have HF := hid' (FaultP.of_below hp HC.out.st.below)
      obtain ⟨gb, rfl, _⟩ := hp
      obtain rfl : R.bad l1 p1 = r := HR.out
      go_wp2
      exact ⟨rfl, HF.out⟩
    go_wp2_with fail
    refine Calls.mono (call1_step HTS.out (H j (by omega)) HC.out t ht hn hz _ hq (by simp)) ?_
    rintro e w3 ⟨rfl, vl3, vs3, v3, h3⟩
    replace HC := hid' h3
    try dsimp only [R.bind] at HR
    clear h3 hq
    by_cases hlen : ¬ (zs.length < 900000 ∧ names.length < 900000)
    · rw [if_neg hlen] at HR
      exact absurd HR.out.symm hnr
    rw [Decidable.not_not] at hlen
    rw [if_pos hlen] at HR
    rw [Px.signF] at HR
    generalize ht4 : ts[s1.at_]? = o4 at HR
    rcases o4 with _ | t4
    · exact absurd HR.out.symm hnr
    try dsimp only at HR
    go_wp2_with fail
    refine Calls.mono (sees_any HC.out.pv t4 ht4 [41]) ?_
    rintro e w4 ⟨rfl, b4⟩
    have h4 := HC.out.step (HC.out.pv.low b4) (Step.low (n := w3.heap.size) HC.out.pv b4)
    replace HC := hid' h4
    clear h4 b4
    by_cases hl4 : sg t4 = [41]
    · rw [if_pos hl4] at HR
      rw [decide_eq_true hl4]
      obtain rfl := HR.out
      clear hl4
      go_wp2
      go_end0
      exact ⟨rfl, _, _, _, _, HC.out⟩
    rw [if_neg hl4] at HR
    rw [decide_eq_false hl4]
    clear hl4
    rw [needF, ht4] at HR
    try dsimp only at HR
    by_cases hl5 : ¬ sg t4 = [44]
    · rw [if_neg hl5] at HR
      go_wp2_with fail
      refine Calls.mono (need_miss HC.out.pv t4 ht4 [44] hl5) ?_
      rintro e wb hp
      have HF := hid' (FaultP.of_below hp HC.out.st.below)
      obtain ⟨gb, rfl, _⟩ := hp
      obtain rfl : R.bad false t4.pos = r := HR.out
      go_wp2
      exact ⟨rfl, HF.out⟩
    rw [Decidable.not_not] at hl5
    rw [if_pos hl5] at HR
    go_wp2_with fail
    refine Calls.mono (need_hit HC.out.pv t4 ht4 [44] hl5) ?_
    rintro e w5 ⟨rfl, hp5, hst5⟩
    have h5 := HC.out.step hp5 (hst5.step w4.heap.size vl3 vs3)
    replace HC := hid' h5
    clear h5 hp5 hst5 hl5
    go_wp2
    go_roundg (j + 1)
    case measure => omega
    case rel => exact ⟨_, _, _, _, _, _, by omega, by have := hlen.2; split <;> (first | (rw [List.length_cons]; omega) | omega), by rw [List.length_append, List.length_singleton]; omega, HC, HR⟩
end Go.Proofs.YtpjjofdphlgeiaaGreatDoor

namespace Go.Proofs.YtpjjofdphlgeiaaGreatDoor
open Go.RowKit
open Lx Ax Px

set_option maxRecDepth 10000 in
set_option maxHeartbeats 6400000 in
theorem call_step {A : Nat → Addr} {B pb : Nat} {ts : List Tok} {tv : Value} {m : Nat} (hts : ∀ t ∈ ts, (txt t.text).size ≤ 1000000) (z : Int) (H : ∀ j, j ≤ m → All A B pb ts tv j) : Does A B pb ts tv 164 #[ptr pb, .int .i64 z] (.call z) (m + 1) := by
  intro W s vl vs r h hr hnr
  have HR := hid' hr
  have HP := hid' h
  have HS := hid' (Step.refl W.heap.size B pb W vl vs)
  have HLO := hid' h.lowB
  clear hr h
  rw [runF] at HR
  unfold bodyF at HR
  dsimp only at HR
  have hnot : ∀ (x : Bool) (w : World), (Op.unary .not (.bool x)).run Tryz.prog w = .ok (.bool (!x)) w := fun _ _ => rfl
  have hfk := tok_kind
  have hfp := tok_pos
  have HTS := hid' hts
  clear hts
  have hmm : ∀ w : World, (Instr.makeMap 128 none).run Tryz.prog w = .ok (.map (some w.heap.size)) (w.alloc (.map #[] 0)) := fun _ => rfl
  unfold ptr
  go_enter Tryz.func164, Tryz.ntmps164
  have hmf : ∀ (fn : Fn) (first cap : Array Value) (w : World), (Instr.makeFunc fn first cap).run Tryz.prog w = .ok (.func fn first cap) w := fun _ _ _ _ => rfl
  go_wp2_with fail
  have hp := HP.out.alloc (.cells #[.pointer (some ⟨pb, 0, none⟩)] 45)
  replace HS := hid' (HS.out.alloc (.cells #[.pointer (some ⟨pb, 0, none⟩)] 45) HLO.out)
  have BX := hid' (row_new W 45 [.pointer (some ⟨pb, 0, none⟩)])
  generalize hw0 : W.alloc (.cells #[.pointer (some ⟨pb, 0, none⟩)] 45) = w0 at hp HS
  have HW0 := hid' hw0
  clear hw0
  replace BX : Hid (RowV w0 W.heap.size 45 [.pointer (some ⟨pb, 0, none⟩)]) := hid' (by rw [← HW0.out]; exact BX.out)
  clear HW0
  replace HP := hid' hp
  clear hp
  rw [enterF, needF] at HR
  generalize ht1 : ts[PS.at_ s]? = o1 at HR
  rcases o1 with _ | t1
  · exact absurd HR.out.symm hnr
  try dsimp only at HR
  by_cases hl2 : ¬ sg t1 = [40]
  · rw [if_neg hl2] at HR
    go_wp2_with fail
    · refine Calls.mono (enter_miss HP.out t1 ht1 [40] hl2) ?_
      rintro e wb hp
      have HF := hid' (FaultP.of_below hp HS.out.below)
      obtain ⟨gb, rfl, _⟩ := hp
      obtain rfl : R.bad false t1.pos = r := HR.out
      go_wp2
      exact ⟨rfl, HF.out⟩
  rw [Decidable.not_not] at hl2
  rw [if_pos hl2] at HR
  try dsimp only at HR
  by_cases hd4 : PS.deep s = 60
  · rw [if_pos hd4] at HR
    go_wp2_with fail
    · refine Calls.mono (enter_deep HP.out t1 ht1 [40] hl2 hd4) ?_
      rintro e wb hp
      have HF := hid' (FaultP.of_below hp HS.out.below)
      obtain ⟨gb, rfl, _⟩ := hp
      obtain rfl : R.bad true t1.pos = r := HR.out
      go_wp2
      exact ⟨rfl, HF.out⟩
  rw [if_neg hd4] at HR
  go_wp2_with fail
  refine Calls.mono (enter_hit HP.out t1 ht1 [40] hl2 hd4) ?_
  rintro e w6 ⟨rfl, hp, hst⟩
  have hs := hst.step w0.heap.size vl vs
  clear hst
  replace BX := hid' (BX.out.stepR (by decide) (by decide) HP.out hs)
  replace HS := hid' (HS.out.then (Nat.le_refl _) hs)
  replace HP := hid' hp
  clear hp hs
  generalize (PS.mk (PS.at_ s + 1) (PS.nodes s) (PS.deep s + 1)) = s6 at HP HR
  have bx0 := BX.out.cell (j := 0) rfl
  have bxl := BX.out.lt
  have e1 : (w6.alloc (.cells #[.int .i64 z] 3)).heap.size = w6.heap.size + 1 := by simp
  have e2 : ((w6.alloc (.cells #[.int .i64 z] 3)).alloc (.cells #[.slice (some ⟨w6.heap.size, 0, none⟩) 1 1] 30)).heap.size = w6.heap.size + 1 + 1 := by simp
  have e3 : (((w6.alloc (.cells #[.int .i64 z] 3)).alloc (.cells #[.slice (some ⟨w6.heap.size, 0, none⟩) 1 1] 30)).alloc (.map #[] 0)).heap.size = w6.heap.size + 1 + 1 + 1 := by simp
  have hWw := HS.out.below.size
  have hol := own_new w6 B HP.out.lowB [z] (by simp) #[.int .i64 z] rfl 1 rfl
  have hoff := Off.new HP.out hol.2
  have kr1 := row_new (w6.alloc (.cells #[.int .i64 z] 3)) 30 [.slice (some ⟨w6.heap.size, 0, none⟩) 1 1]
  rw [e1] at kr1
  have nr1 := row_new (((w6.alloc (.cells #[.int .i64 z] 3)).alloc (.cells #[.slice (some ⟨w6.heap.size, 0, none⟩) 1 1] 30)).alloc (.map #[] 0)) 128 [.map (some (w6.heap.size + 1 + 1))]
  rw [e3] at nr1
  have mp1 : MapU (((w6.alloc (.cells #[.int .i64 z] 3)).alloc (.cells #[.slice (some ⟨w6.heap.size, 0, none⟩) 1 1] 30)).alloc (.map #[] 0)) (w6.heap.size + 1 + 1) [] := by
    have h1 := MapAt.made ((w6.alloc (.cells #[.int .i64 z] 3)).alloc (.cells #[.slice (some ⟨w6.heap.size, 0, none⟩) 1 1] 30)) (.agg #[]) rdS_unit
    rw [e2] at h1
    exact h1
  have mp2 : MapU ((((w6.alloc (.cells #[.int .i64 z] 3)).alloc (.cells #[.slice (some ⟨w6.heap.size, 0, none⟩) 1 1] 30)).alloc (.map #[] 0)).alloc (.cells #[.map (some (w6.heap.size + 1 + 1))] 128)) (w6.heap.size + 1 + 1) [] := MapAt.of_eq mp1 (Below.heap_alloc _ _ _ (by rw [e3]; omega))
  have hCC : CC A B pb (w6.heap.size + 1 + 1) (w6.heap.size + 1) W.heap.size (w6.heap.size + 1 + 1 + 1) ts tv W vl vs ((((w6.alloc (.cells #[.int .i64 z] 3)).alloc (.cells #[.slice (some ⟨w6.heap.size, 0, none⟩) 1 1] 30)).alloc (.map #[] 0)).alloc (.cells #[.map (some (w6.heap.size + 1 + 1))] 128)) s6 vl vs (.slice (some ⟨w6.heap.size, 0, none⟩) 1 1) [z] [] :=
    ⟨(((HP.out.alloc _).alloc _).alloc _).alloc _, (((HS.out.alloc _ HLO.out).alloc _ HLO.out).alloc _ HLO.out).alloc _ HLO.out, row_alloc (row_alloc kr1 _) _, row_alloc (row_alloc (row_alloc (row_alloc BX.out _) _) _) _, nr1, mp2,
      ((hol.1.keep fun k _ hk => Below.heap_alloc _ _ _ hk).keep fun k _ hk => Below.heap_alloc _ _ _ hk).keep fun k _ hk => Below.heap_alloc _ _ _ hk, hoff, fun k hk => Nat.le_trans hWw (hol.2 k hk), ⟨by omega, by omega, HLO.out⟩⟩
  have HC := hid' hCC
  clear hCC mp1 mp2 nr1 kr1 hol hoff e1 e2 e3 HP HS BX
  have bx4 := HC.out.pr.cell (j := 0) rfl
  go_wp2_with fail
  clear bx0 bxl bx4
  generalize hq7 : runF ts m (.args [z] []) s6 = r7 at HR
  rcases r7 with _ | ⟨l7, p7⟩ | ⟨z7, y7, c7, s7⟩
  · exact absurd HR.out.symm hnr
  · refine Calls.mono (items_call HTS.out H HC.out (by simp) (by simp) _ hq7 (by simp)) ?_
    rintro e wb hp
    have HF := hid' hp
    obtain ⟨gb, rfl, _⟩ := hp
    obtain rfl : R.bad l7 p7 = r := HR.out
    go_wp2
    exact ⟨rfl, HF.out⟩
  refine Calls.mono (items_call HTS.out H HC.out (by simp) (by simp) _ hq7 (by simp)) ?_
  rintro e w7 ⟨rfl, vl7, vs7, v7, names7, h7⟩
  replace HC := hid' h7
  try dsimp only [R.bind] at HR
  clear h7 hq7
  obtain ⟨av, cv, rfl, _⟩ := own_form HC.out.oz
  have px0 := HC.out.pr.cell (j := 0) rfl
  have pxl := HC.out.pr.lt
  rw [shutF, needF] at HR
  generalize htz : ts[PS.at_ s7]? = oz at HR
  rcases oz with _ | tz
  · exact absurd HR.out.symm hnr
  try dsimp only at HR
  by_cases hlz : ¬ sg tz = [41]
  · rw [if_neg hlz] at HR
    go_wp2_with fail
    refine Calls.mono (shut_miss HC.out.pv tz htz [41] hlz) ?_
    rintro e wb hp
    have HF := hid' (FaultP.of_below hp HC.out.st.below)
    obtain ⟨gb, rfl, _⟩ := hp
    obtain rfl : R.bad false tz.pos = r := HR.out
    go_wp2
    exact ⟨rfl, HF.out⟩
  rw [Decidable.not_not] at hlz
  rw [if_pos hlz, leaveF] at HR
  try dsimp only at HR
  by_cases hdz : PS.deep s7 = 0
  · rw [if_pos hdz] at HR
    exact absurd HR.out.symm hnr
  rw [if_neg hdz] at HR
  go_wp2_with fail
  clear px0 pxl
  refine Calls.mono (shut_hit HC.out.pv tz htz [41] hlz hdz) ?_
  rintro e wz ⟨rfl, hpz, hstz⟩
  have hz := HC.out.step hpz (hstz.step w7.heap.size vl7 vs7)
  replace HC := hid' hz
  clear hz hpz hstz hlz hdz htz
  have px0 := HC.out.pr.cell (j := 0) rfl
  have pxl := HC.out.pr.lt
  have kx0 := HC.out.kr.cell (j := 0) rfl
  have kxl := HC.out.kr.lt
  generalize (PS.mk (PS.at_ s7 + 1) (PS.nodes s7) (PS.deep s7 - 1)) = sz at HC HR
  rw [addF] at HR
  by_cases hn : ¬ ((PS.nodes sz).length < 900000 ∧ (List.length (y7 : List Int)) < 900000)
  · rw [if_neg hn] at HR
    exact absurd HR.out.symm hnr
  rw [Decidable.not_not] at hn
  rw [if_pos hn] at HR
  go_wp2_with fail
  clear px0 pxl kx0 kxl
  refine Calls.mono (p_add_any HC.out.pv 10 _ ⟨#[]⟩ (by decide) _ y7 HC.out.oz HC.out.off hn.1 hn.2 (n := W.heap.size) HC.out.new) ?_
  rintro e we ⟨rfl, vle, vse, hp, hs⟩
  have HS9 := hid' (HC.out.st.trans hs)
  have HP9 := hid' hp
  clear hp hs
  obtain rfl := HR.out
  go_wp2
  go_returns
  exact ⟨_, _, rfl, HP9.out, HS9.out⟩
end Go.Proofs.YtpjjofdphlgeiaaGreatDoor

namespace Go.Proofs.YtpjjofdphlgeiaaGreatDoor
open Go.RowKit
open Lx Ax Px

/-- On the way through a def's params: as through a call's arguments, and whether one had a value. -/
structure CD (A : Nat → Addr) (B pb mb kb px nb gb : Nat) (ts : List Tok) (tv : Value) (W0 : World) (vl0 : Value) (vs0 : List Value) (W : World) (s : PS) (vl : Value) (vs : List Value) (v : Value) (zs : List Int) (names : List (List UInt8)) (given : Bool) : Prop where
  cc : CC A B pb mb kb px nb ts tv W0 vl0 vs0 W s vl vs v zs names
  gr : RowV W gb 4 [.bool given]
  hig : W0.heap.size ≤ gb
def P1P (A : Nat → Addr) (B pb mb kb px nb gb : Nat) (ts : List Tok) (tv : Value) (W0 : World) (vl0 : Value) (vs0 : List Value) (W : World) (t : Tok) (zs : List Int) (names : List (List UInt8)) (r : R) (e : Ending) (w' : World) : Prop := match r with
  | .stuck => False
  | .bad l p => FaultP A B W l p e w'
  | .ok z _ c s' => e = .returned (.tuple #[]) ∧ ∃ vl' vs' v', CD A B pb mb kb px nb gb ts tv W0 vl0 vs0 w' s' vl' vs' v' (zs ++ [z]) (t.text :: names) c
section
variable {A : Nat → Addr} {B pb mb kb px nb gb : Nat} {ts : List Tok} {tv : Value} {W0 : World} {vl0 : Value} {vs0 : List Value} {W w2 : World} {s s2 : PS} {vl vl2 : Value} {vs vs2 : List Value} {v : Value} {zs : List Int} {names names2 : List (List UInt8)} {given : Bool}
theorem CD.stepM (h : CD A B pb mb kb px nb gb ts tv W0 vl0 vs0 W s vl vs v zs names given) (hp : PV A B pb ts tv w2 s2 vl2 vs2) (hs : StepM mb W.heap.size B pb W vl vs w2 vl2 vs2) (hm : MapU w2 mb names2) : CD A B pb mb kb px nb gb ts tv W0 vl0 vs0 w2 s2 vl2 vs2 v zs names2 given :=
  ⟨h.cc.stepM hp hs hm, h.gr.stepM (by decide) (by decide) h.cc.mp h.cc.pv hs, h.hig⟩
theorem CD.step (h : CD A B pb mb kb px nb gb ts tv W0 vl0 vs0 W s vl vs v zs names given) (hp : PV A B pb ts tv w2 s2 vl2 vs2) (hs : Step W.heap.size B pb W vl vs w2 vl2 vs2) : CD A B pb mb kb px nb gb ts tv W0 vl0 vs0 w2 s2 vl2 vs2 v zs names given := h.stepM hp (hs.toM mb) (h.cc.mp.step h.cc.pv hs)
/-- The flag is stored. -/
theorem CD.setGiven (h : CD A B pb mb kb px nb gb ts tv W0 vl0 vs0 W s vl vs v zs names given) (b : Bool) : CD A B pb mb kb px nb gb ts tv W0 vl0 vs0 (W.setCell ⟨gb, 0, none⟩ (.bool b)) s vl vs v zs names b := by
  have c := h.cc
  refine ⟨⟨c.pv.setBox h.gr (by decide) (by decide) (by decide) (Nat.le_trans c.hi.2.2 h.hig) 0 _, c.st.set ⟨gb, 0, none⟩ _ (.inl h.hig) c.hi.2.2 c.pv.high, row_past c.kr _ _ (fun e => RowV.apart c.kr h.gr (by decide) e), row_past c.pr _ _ (fun e => RowV.apart c.pr h.gr (by decide) e), row_past c.nr _ _ (fun e => RowV.apart c.nr h.gr (by decide) e), ?_, ?_, c.off, c.new, c.hi⟩, h.gr.set 0 _, h.hig⟩
  · exact MapAt.of_eq c.mp (heap_setCell_other _ _ mb _ (fun e => MapU.ne c.mp h.gr e.symm))
  · exact c.oz.keep fun k e _ => heap_setCell_other _ _ k _ (fun e2 => ne_kind c.oz h.gr (by decide) k e e2)
theorem CD.pushed {w9 : World} (h : CD A B pb mb kb px nb gb ts tv W0 vl0 vs0 W s vl vs v zs names given)
    (z : Int) (g cap : Nat) (ho : OwnZ w9 B (.slice (some ⟨g, 0, none⟩) (zs.length + 1) cap) (zs ++ [z])) (hb : Below B W w9) (hf : ∀ k, k < W.heap.size → v.ownBlock ≠ some k → w9.heap[k]? = W.heap[k]?) (hg : (some g = v.ownBlock) ∨ g = W.heap.size + 1) :
    RowV w9 kb 30 [v] ∧ CD A B pb mb kb px nb gb ts tv W0 vl0 vs0 (w9.setCell ⟨kb, 0, none⟩ (.slice (some ⟨g, 0, none⟩) (zs.length + 1) cap)) s vl vs (.slice (some ⟨g, 0, none⟩) (zs.length + 1) cap) (zs ++ [z]) names given := by
  obtain ⟨h1, h2⟩ := h.cc.pushed z g cap ho hb hf hg
  have hg9 := h.gr.far (hf gb h.gr.lt (fun e => ne_kind h.cc.oz h.gr (by decide) gb e rfl))
  exact ⟨h1, h2, row_past hg9 _ _ (fun e => RowV.apart hg9 h1 (by decide) e), h.hig⟩
end
end Go.Proofs.YtpjjofdphlgeiaaGreatDoor

namespace Go.Proofs.YtpjjofdphlgeiaaGreatDoor
open Go.RowKit
open Lx Ax Px

set_option maxRecDepth 10000 in
set_option maxHeartbeats 25600000 in
theorem param1_none {A : Nat → Addr} {B pb mb kb px nb gb : Nat} {ts : List Tok} {tv : Value} {m : Nat} (hts : ∀ t ∈ ts, (txt t.text).size ≤ 1000000) {W0 : World} {vl0 : Value} {vs0 : List Value} {W : World} {s : PS} {vl : Value} {vs : List Value} {v : Value} {zs : List Int} {names : List (List UInt8)} {given : Bool}
    (h : CD A B pb mb kb px nb gb ts tv W0 vl0 vs0 W s vl vs v zs names given) (t : Tok) (ht : ts[s.at_]? = some t) (hk : t.kind = 1) (t1 : Tok) (ht1 : ts[s.at_ + 1]? = some t1) (hl : ¬ sg t1 = [61]) (hn : names.length < 900001) (hz : zs.length < 900001) (r : R) (hr : runF ts (m + 1) (.param names given) s = r) (hnr : r ≠ .stuck) :
    Calls Tryz.prog 106 #[.pointer (some ⟨px, 0, none⟩), .pointer (some ⟨nb, 0, none⟩), .pointer (some ⟨gb, 0, none⟩), .pointer (some ⟨kb, 0, none⟩)] W (P1P A B pb mb kb px nb gb ts tv W0 vl0 vs0 W t zs names r) := by
  have HR := hid' hr
  have HC := hid' h
  have HT := hid' ht
  have HTS := hid' hts
  have HB := hid' (Below.refl B W)
  have hBm : B ≤ mb := Nat.le_trans h.cc.hi.2.2 h.cc.hi.1
  clear hr h ht hts
  rw [runF] at HR
  unfold bodyF at HR
  try dsimp only at HR
  have hnot : ∀ (x : Bool) (w : World), (Op.unary .not (.bool x)).run Tryz.prog w = .ok (.bool (!x)) w := fun _ _ => rfl
  rw [takeKF, HT.out] at HR
  try dsimp only at HR
  rw [if_pos hk, Px.signF] at HR
  try dsimp only at HR
  rw [ht1] at HR
  try dsimp only at HR
  have p0 := HC.out.cc.pr.cell (j := 0) rfl
  have pl0 := HC.out.cc.pr.lt
  go_enter Tryz.func106, Tryz.ntmps106
  go_wp2_with fail
  refine Calls.mono (take_hit HC.out.cc.pv t HT.out 1 hk) ?_
  rintro e w1 ⟨rfl, hp, hst⟩
  have h1 := HC.out.step hp (hst.step W.heap.size vl vs)
  have BX := hid' (row_new w1 71 [.int .i64 (t.kind : Int), .string (txt t.text), .int .i64 (t.pos : Int)])
  have h2 := h1.step (hp.alloc (.cells #[.int .i64 (t.kind : Int), .string (txt t.text), .int .i64 (t.pos : Int)] 71)) ((Step.refl w1.heap.size B pb w1 vl vs).alloc (.cells #[.int .i64 (t.kind : Int), .string (txt t.text), .int .i64 (t.pos : Int)] 71) hp.lowB)
  replace HB := hid' (hst.below.alloc (Nat.le_trans HC.out.cc.pv.lowB hst.below.size) (.cells #[.int .i64 (t.kind : Int), .string (txt t.text), .int .i64 (t.pos : Int)] 71))
  replace HC := hid' h2
  clear hk hp hst h1 h2 p0 pl0
  have p0 := HC.out.cc.pr.cell (j := 0) rfl
  have pl0 := HC.out.cc.pr.lt
  have HSK := hid' (skip_any HC.out.cc.pv t1 ht1 [61])
  go_wp2_with fail
  clear p0 pl0
  rw [if_neg hl] at HR
  rw [decide_eq_false hl, if_neg hl] at HSK
  clear hl
  refine Calls.mono HSK.out ?_
  rintro e w3 ⟨rfl, hp, hst⟩
  have hs := hst.step (w1.alloc (.cells #[.int .i64 (t.kind : Int), .string (txt t.text), .int .i64 (t.pos : Int)] 71)).heap.size vl vs
  have h3 := HC.out.step hp hs
  replace BX := hid' (BX.out.stepR (by decide) (by decide) HC.out.cc.pv hs)
  replace HB := hid' (HB.out.trans hst.below)
  replace HC := hid' h3
  clear hp hst hs h3 HSK
  have n0 := HC.out.cc.nr.cell (j := 0) rfl
  have nl0 := HC.out.cc.nr.lt
  have bx1 := BX.out.cell (j := 1) rfl
  have bxl := BX.out.lt
  go_wp2_with fail
  clear n0 nl0 bx1 bxl
  refine Calls.mono (fresh_any HC.out.cc.mp (by omega) t.text (HTS.out _ (List.mem_of_getElem? HT.out))) ?_
  rintro e w4 ⟨rfl, hm4, hsz4, hf4, hb4⟩
  have hp4 := PV.keepM HC.out.cc.pv HC.out.cc.mp (hb4 B hBm) hf4
  have hs4 : StepM mb w3.heap.size B pb w3 vl vs w4 vl vs := ⟨hb4 B hBm, fun k h1 _ h3 _ => hf4 k h1 h3, fun _ e => .inl e, ⟨[], by simp, by simp⟩⟩
  have h4 := HC.out.stepM hp4 hs4 hm4
  replace BX := hid' (BX.out.stepM (by decide) (by decide) HC.out.cc.mp HC.out.cc.pv hs4)
  replace HB := hid' (HB.out.trans (hb4 B hBm))
  replace HC := hid' h4
  clear hm4 hsz4 hf4 hb4 hp4 hs4 h4
  have g0 := HC.out.gr.cell (j := 0) rfl
  have go0 := HC.out.gr.open_ 0
  have gl0 := HC.out.gr.lt
  have bx2 := BX.out.cell (j := 2) rfl
  have bxl := BX.out.lt
  by_cases hin : t.text ∈ names
  · rw [if_pos (.inl hin)] at HR
    rw [show decide (¬ t.text ∈ names) = false by simpa using hin]
    clear hin
    have hce := HC.out.cc.pv.env.parse
    go_wp2_with (go_at_call 78; refine Calls.mono (p_fault_any A 1 _ _) ?_; rintro e wf ⟨rfl, rfl⟩)
    go_wp2
    obtain rfl : R.bad false t.pos = r := HR.out
    exact ⟨rfl, (fault_end (Below.refl _ w4) HC.out.cc.pv.lowB false 1 rfl _).of_below HB.out⟩
  rw [show decide (¬ t.text ∈ names) = true by simpa using hin]
  cases given with
  | true =>
    rw [if_pos (.inr rfl)] at HR
    clear hin
    have hce := HC.out.cc.pv.env.parse
    go_wp2_with (go_at_call 78; refine Calls.mono (p_fault_any A 1 _ _) ?_; rintro e wf ⟨rfl, rfl⟩)
    go_wp2
    obtain rfl : R.bad false t.pos = r := HR.out
    exact ⟨rfl, (fault_end (Below.refl _ w4) HC.out.cc.pv.lowB false 1 rfl _).of_below HB.out⟩
  | false =>
    rw [if_neg (fun h => h.elim hin (by simp))] at HR
    clear hin
    have hg := HC.out.setGiven false
    have hbx := row_past BX.out ⟨gb, 0, none⟩ (.bool false) (fun e => RowV.apart BX.out HC.out.gr (by decide) e)
    have p1 := hg.cc.pr.cell (j := 0) rfl
    have pl1 := hg.cc.pr.lt
    go_wp2_with fail
    clear p1 pl1 g0 go0 gl0 bx2 bxl
    replace HB := hid' (HB.out.setCell (p := ⟨gb, 0, none⟩) (Nat.le_trans HC.out.cc.hi.2.2 HC.out.hig) (.bool false))
    replace BX := hid' hbx
    replace HC := hid' hg
    clear hg hbx
    generalize (w4.setCell ⟨gb, 0, none⟩ (.bool false)) = w5 at HC BX HB ⊢
    generalize (PS.mk (s.at_ + 1) s.nodes s.deep) = s7 at HC HR
    have HCa := HC
    have HSa := hid' (Step.refl w5.heap.size B pb w5 vl vs)
    have OZ6 := hid' (OwnZ.nil w5 B)
    have OF6 := hid' (off_nil vs 0 0)
    have NW6 : Hid (∀ k, (Value.slice none 0 0).ownBlock = some k → w5.heap.size ≤ k) := hid' (fun _ e => by simp [Value.ownBlock] at e)
    rw [addF] at HR
    by_cases hn8 : ¬ ((PS.nodes s7).length < 900000 ∧ (List.length ([] : List Int)) < 900000)
    · rw [if_neg hn8] at HR
      exact absurd HR.out.symm hnr
    rw [Decidable.not_not] at hn8
    rw [if_pos hn8] at HR
    obtain rfl := HR.out
    obtain ⟨ao, cap, rfl, _⟩ := own_form HC.out.cc.oz
    have hpd : PV A B pb ts tv w5.drew s7 vl vs := HC.out.cc.pv.drewN 1
    have hsd : Step w5.heap.size B pb w5 vl vs w5.drew vl vs := Step.drewN (Step.refl w5.heap.size B pb w5 vl vs) 1
    have HA := hid' (p_add_any (n := w5.heap.size) hpd 46 t.pos (txt t.text) (HTS.out _ (List.mem_of_getElem? HT.out)) (.slice none 0 0) [] (OZ6.out.step HC.out.cc.pv hsd) OF6.out hn8.1 hn8.2 NW6.out)
    have HD := hid' hpd
    have BD := hid' (BX.out.stepR (by decide) (by decide) HC.out.cc.pv hsd)
    have HSD := hid' (HSa.out.then (Nat.le_refl _) hsd)
    have k0 := HC.out.cc.kr.cell (j := 0) rfl
    have kl0 := HC.out.cc.kr.lt
    have p0 := HC.out.cc.pr.cell (j := 0) rfl
    have pl0 := HC.out.cc.pr.lt
    have b1 := BX.out.cell (j := 1) rfl
    have b2 := BX.out.cell (j := 2) rfl
    have bl := BX.out.lt
    clear hpd hsd
    go_wp2_with fail
    go_region_law (first | (go_simp; go_at_call 35; refine Calls.mono HA.out ?_; rintro e w9 ⟨rfl, vl9, vs9, hp9, hs9⟩; have h9 := HCa.out.step hp9 (HSD.out.trans hs9); have k9 := h9.cc.kr.cell (j := 0) rfl; have kl9 := h9.cc.kr.lt; have H9 := hid' h9; clear hp9 hs9 h9) | (refine num_drawn (W := w9) H9.out.cc.oz _ H9.out.cc.pv.lowB (by omega) rfl (.tmp 35) (.tmp 43) (by rfl) (by rfl) (by rfl) ?_; intro ga capa wa9 q1 q2 q3 q4 q5; have ha := H9.out.pushed _ ga capa q1 q2 q3 q4; have ka := ha.1.cell (j := 0) rfl; have oa := ha.1.open_ 0; have la := ha.1.lt; have HZ := hid' ha.2; clear ha q1 q2 q3 q4 q5))
    all_goals (
      go_wp2
      go_end0
      exact ⟨rfl, _, _, _, HZ.out⟩)
end Go.Proofs.YtpjjofdphlgeiaaGreatDoor

namespace Go.Proofs.YtpjjofdphlgeiaaGreatDoor
open Go.RowKit
open Lx Ax Px

set_option maxRecDepth 10000 in
set_option maxHeartbeats 25600000 in
theorem param1_false {A : Nat → Addr} {B pb mb kb px nb gb : Nat} {ts : List Tok} {tv : Value} {m : Nat} (hts : ∀ t ∈ ts, (txt t.text).size ≤ 1000000) (H : All A B pb ts tv m) {W0 : World} {vl0 : Value} {vs0 : List Value} {W : World} {s : PS} {vl : Value} {vs : List Value} {v : Value} {zs : List Int} {names : List (List UInt8)}
    (h : CD A B pb mb kb px nb gb ts tv W0 vl0 vs0 W s vl vs v zs names false) (t : Tok) (ht : ts[s.at_]? = some t) (hk : t.kind = 1) (t1 : Tok) (ht1 : ts[s.at_ + 1]? = some t1) (hl : sg t1 = [61]) (hn : names.length < 900001) (hz : zs.length < 900001) (r : R) (hr : runF ts (m + 1) (.param names false) s = r) (hnr : r ≠ .stuck) :
    Calls Tryz.prog 106 #[.pointer (some ⟨px, 0, none⟩), .pointer (some ⟨nb, 0, none⟩), .pointer (some ⟨gb, 0, none⟩), .pointer (some ⟨kb, 0, none⟩)] W (P1P A B pb mb kb px nb gb ts tv W0 vl0 vs0 W t zs names r) := by
  have HR := hid' hr
  have HC := hid' h
  have HT := hid' ht
  have HTS := hid' hts
  have HB := hid' (Below.refl B W)
  have hBm : B ≤ mb := Nat.le_trans h.cc.hi.2.2 h.cc.hi.1
  clear hr h ht hts
  rw [runF] at HR
  unfold bodyF at HR
  try dsimp only at HR
  have hnot : ∀ (x : Bool) (w : World), (Op.unary .not (.bool x)).run Tryz.prog w = .ok (.bool (!x)) w := fun _ _ => rfl
  rw [takeKF, HT.out] at HR
  try dsimp only at HR
  rw [if_pos hk, Px.signF] at HR
  try dsimp only at HR
  rw [ht1] at HR
  try dsimp only at HR
  have p0 := HC.out.cc.pr.cell (j := 0) rfl
  have pl0 := HC.out.cc.pr.lt
  go_enter Tryz.func106, Tryz.ntmps106
  go_wp2_with fail
  refine Calls.mono (take_hit HC.out.cc.pv t HT.out 1 hk) ?_
  rintro e w1 ⟨rfl, hp, hst⟩
  have h1 := HC.out.step hp (hst.step W.heap.size vl vs)
  have BX := hid' (row_new w1 71 [.int .i64 (t.kind : Int), .string (txt t.text), .int .i64 (t.pos : Int)])
  have h2 := h1.step (hp.alloc (.cells #[.int .i64 (t.kind : Int), .string (txt t.text), .int .i64 (t.pos : Int)] 71)) ((Step.refl w1.heap.size B pb w1 vl vs).alloc (.cells #[.int .i64 (t.kind : Int), .string (txt t.text), .int .i64 (t.pos : Int)] 71) hp.lowB)
  replace HB := hid' (hst.below.alloc (Nat.le_trans HC.out.cc.pv.lowB hst.below.size) (.cells #[.int .i64 (t.kind : Int), .string (txt t.text), .int .i64 (t.pos : Int)] 71))
  replace HC := hid' h2
  clear hk hp hst h1 h2 p0 pl0
  have p0 := HC.out.cc.pr.cell (j := 0) rfl
  have pl0 := HC.out.cc.pr.lt
  have HSK := hid' (skip_any HC.out.cc.pv t1 ht1 [61])
  go_wp2_with fail
  clear p0 pl0
  rw [if_pos hl] at HR
  rw [decide_eq_true hl, if_pos hl] at HSK
  clear hl
  refine Calls.mono HSK.out ?_
  rintro e w3 ⟨rfl, hp, hst⟩
  have hs := hst.step (w1.alloc (.cells #[.int .i64 (t.kind : Int), .string (txt t.text), .int .i64 (t.pos : Int)] 71)).heap.size vl vs
  have h3 := HC.out.step hp hs
  replace BX := hid' (BX.out.stepR (by decide) (by decide) HC.out.cc.pv hs)
  replace HB := hid' (HB.out.trans hst.below)
  replace HC := hid' h3
  clear hp hst hs h3 HSK
  have n0 := HC.out.cc.nr.cell (j := 0) rfl
  have nl0 := HC.out.cc.nr.lt
  have bx1 := BX.out.cell (j := 1) rfl
  have bxl := BX.out.lt
  go_wp2_with fail
  clear n0 nl0 bx1 bxl
  refine Calls.mono (fresh_any HC.out.cc.mp (by omega) t.text (HTS.out _ (List.mem_of_getElem? HT.out))) ?_
  rintro e w4 ⟨rfl, hm4, hsz4, hf4, hb4⟩
  have hp4 := PV.keepM HC.out.cc.pv HC.out.cc.mp (hb4 B hBm) hf4
  have hs4 : StepM mb w3.heap.size B pb w3 vl vs w4 vl vs := ⟨hb4 B hBm, fun k h1 _ h3 _ => hf4 k h1 h3, fun _ e => .inl e, ⟨[], by simp, by simp⟩⟩
  have h4 := HC.out.stepM hp4 hs4 hm4
  replace BX := hid' (BX.out.stepM (by decide) (by decide) HC.out.cc.mp HC.out.cc.pv hs4)
  replace HB := hid' (HB.out.trans (hb4 B hBm))
  replace HC := hid' h4
  clear hm4 hsz4 hf4 hb4 hp4 hs4 h4
  have g0 := HC.out.gr.cell (j := 0) rfl
  have go0 := HC.out.gr.open_ 0
  have gl0 := HC.out.gr.lt
  have bx2 := BX.out.cell (j := 2) rfl
  have bxl := BX.out.lt
  by_cases hin : t.text ∈ names
  · rw [if_pos hin] at HR
    rw [show decide (¬ t.text ∈ names) = false by simpa using hin]
    clear hin
    have hce := HC.out.cc.pv.env.parse
    go_wp2_with (go_at_call 78; refine Calls.mono (p_fault_any A 1 _ _) ?_; rintro e wf ⟨rfl, rfl⟩)
    go_wp2
    obtain rfl : R.bad false t.pos = r := HR.out
    exact ⟨rfl, (fault_end (Below.refl _ w4) HC.out.cc.pv.lowB false 1 rfl _).of_below HB.out⟩
  rw [if_neg hin] at HR
  rw [show decide (¬ t.text ∈ names) = true by simpa using hin]
  clear hin
  have hg := HC.out.setGiven true
  have p1 := hg.cc.pr.cell (j := 0) rfl
  have pl1 := hg.cc.pr.lt
  have hbx := row_past BX.out ⟨gb, 0, none⟩ (.bool true) (fun e => RowV.apart BX.out HC.out.gr (by decide) e)
  all_goals (
    go_wp2_with fail
    clear p1 pl1 g0 go0 gl0 bx2 bxl
    replace HB := hid' (HB.out.setCell (p := ⟨gb, 0, none⟩) (Nat.le_trans HC.out.cc.hi.2.2 HC.out.hig) (.bool true))
    replace BX := hid' hbx
    replace HC := hid' hg
    clear hg hbx
    generalize (PS.mk (s.at_ + 1 + 1) s.nodes s.deep) = s6 at HC HR
    generalize hq6 : runF ts m .test s6 = r6 at HR
    rcases r6 with _ | ⟨l6, p6⟩ | ⟨z6, y6, c6, s7⟩
    · exact absurd HR.out.symm hnr
    · refine Calls.mono (H.test _ _ _ _ _ HC.out.cc.pv hq6 (by simp)) ?_
      rintro e wb hp
      have HF := hid' (FaultP.of_below hp HB.out)
      obtain ⟨gb', rfl, _⟩ := hp
      obtain rfl : R.bad l6 p6 = r := HR.out
      go_wp2
      exact ⟨rfl, HF.out⟩
    refine Calls.mono (H.test _ _ _ _ _ HC.out.cc.pv hq6 (by simp)) ?_
    rintro e w6 ⟨vl6, vs6, rfl, hp, hs⟩
    have h6 := HC.out.step hp hs
    replace BX := hid' (BX.out.stepR (by decide) (by decide) HC.out.cc.pv hs)
    replace HB := hid' (HB.out.trans hs.below)
    replace HC := hid' h6
    try dsimp only [R.bind] at HR
    clear h6 hp hs hq6
    go_wp2_with (at_builtin; refine num_plain (OwnZ.nil w6 B) z6 1 rfl HC.out.cc.pv.lowB (by simp) rfl (.tmp 30) (.tmp 33) (by rfl) (by rfl) (by rfl) ?_; intro g5 cap5 w7 q1 q2 q3 q4 q5; have HQ := hid' (row_push (m := 1) HC.out.cc.pv (Step.refl w6.heap.size B pb w6 vl6 vs6) (OwnZ.nil w6 B) (off_nil vs6 0 0) (fun _ e => by simp [Value.ownBlock] at e) q2 q3 g5 cap5 q4); have OZ6 := hid' q1; clear q1 q2 q3 q4 q5)
    have HCa := HC
    have HSa := hid' HQ.out.2.1
    have OF6 := hid' HQ.out.2.2.1
    have NW6 := hid' HQ.out.2.2.2
    replace BX := hid' (BX.out.stepR (by decide) (by decide) HC.out.cc.pv HQ.out.2.1)
    replace HC := hid' (HC.out.step HQ.out.1 HQ.out.2.1)
    clear HQ
    rw [addF] at HR
    by_cases hn8 : ¬ ((PS.nodes s7).length < 900000 ∧ (List.length ([z6] : List Int)) < 900000)
    · rw [if_neg hn8] at HR
      exact absurd HR.out.symm hnr
    rw [Decidable.not_not] at hn8
    rw [if_pos hn8] at HR
    obtain rfl := HR.out
    obtain ⟨ao, cap, rfl, _⟩ := own_form HC.out.cc.oz
    have hpd : PV A B pb ts tv w7.drew s7 vl6 vs6 := HC.out.cc.pv.drewN 1
    have hsd : Step w7.heap.size B pb w7 vl6 vs6 w7.drew vl6 vs6 := Step.drewN (Step.refl w7.heap.size B pb w7 vl6 vs6) 1
    have HA := hid' (p_add_any (n := w6.heap.size) hpd 46 t.pos (txt t.text) (HTS.out _ (List.mem_of_getElem? HT.out)) (.slice (some ⟨g5, 0, none⟩) 1 cap5) [z6] (OZ6.out.step HC.out.cc.pv hsd) OF6.out hn8.1 hn8.2 NW6.out)
    have HD := hid' hpd
    have BD := hid' (BX.out.stepR (by decide) (by decide) HC.out.cc.pv hsd)
    have HSD := hid' (HSa.out.then (Nat.le_refl _) hsd)
    have k0 := HC.out.cc.kr.cell (j := 0) rfl
    have kl0 := HC.out.cc.kr.lt
    have p0 := HC.out.cc.pr.cell (j := 0) rfl
    have pl0 := HC.out.cc.pr.lt
    have b1 := BX.out.cell (j := 1) rfl
    have b2 := BX.out.cell (j := 2) rfl
    have bl := BX.out.lt
    clear hpd hsd
    go_wp2_with fail
    go_region_law (first | (go_simp; go_at_call 35; refine Calls.mono HA.out ?_; rintro e w9 ⟨rfl, vl9, vs9, hp9, hs9⟩; have h9 := HCa.out.step hp9 (HSD.out.trans hs9); have k9 := h9.cc.kr.cell (j := 0) rfl; have kl9 := h9.cc.kr.lt; have H9 := hid' h9; clear hp9 hs9 h9) | (refine num_drawn (W := w9) H9.out.cc.oz _ H9.out.cc.pv.lowB (by omega) rfl (.tmp 35) (.tmp 43) (by rfl) (by rfl) (by rfl) ?_; intro ga capa wa9 q1 q2 q3 q4 q5; have ha := H9.out.pushed _ ga capa q1 q2 q3 q4; have ka := ha.1.cell (j := 0) rfl; have oa := ha.1.open_ 0; have la := ha.1.lt; have HZ := hid' ha.2; clear ha q1 q2 q3 q4 q5))
    all_goals (
      go_wp2
      go_end0
      exact ⟨rfl, _, _, _, HZ.out⟩))
end Go.Proofs.YtpjjofdphlgeiaaGreatDoor

namespace Go.Proofs.YtpjjofdphlgeiaaGreatDoor
open Go.RowKit
open Lx Ax Px

set_option maxRecDepth 10000 in
set_option maxHeartbeats 25600000 in
theorem param1_true {A : Nat → Addr} {B pb mb kb px nb gb : Nat} {ts : List Tok} {tv : Value} {m : Nat} (hts : ∀ t ∈ ts, (txt t.text).size ≤ 1000000) (H : All A B pb ts tv m) {W0 : World} {vl0 : Value} {vs0 : List Value} {W : World} {s : PS} {vl : Value} {vs : List Value} {v : Value} {zs : List Int} {names : List (List UInt8)}
    (h : CD A B pb mb kb px nb gb ts tv W0 vl0 vs0 W s vl vs v zs names true) (t : Tok) (ht : ts[s.at_]? = some t) (hk : t.kind = 1) (t1 : Tok) (ht1 : ts[s.at_ + 1]? = some t1) (hl : sg t1 = [61]) (hn : names.length < 900001) (hz : zs.length < 900001) (r : R) (hr : runF ts (m + 1) (.param names true) s = r) (hnr : r ≠ .stuck) :
    Calls Tryz.prog 106 #[.pointer (some ⟨px, 0, none⟩), .pointer (some ⟨nb, 0, none⟩), .pointer (some ⟨gb, 0, none⟩), .pointer (some ⟨kb, 0, none⟩)] W (P1P A B pb mb kb px nb gb ts tv W0 vl0 vs0 W t zs names r) := by
  have HR := hid' hr
  have HC := hid' h
  have HT := hid' ht
  have HTS := hid' hts
  have HB := hid' (Below.refl B W)
  have hBm : B ≤ mb := Nat.le_trans h.cc.hi.2.2 h.cc.hi.1
  clear hr h ht hts
  rw [runF] at HR
  unfold bodyF at HR
  try dsimp only at HR
  have hnot : ∀ (x : Bool) (w : World), (Op.unary .not (.bool x)).run Tryz.prog w = .ok (.bool (!x)) w := fun _ _ => rfl
  rw [takeKF, HT.out] at HR
  try dsimp only at HR
  rw [if_pos hk, Px.signF] at HR
  try dsimp only at HR
  rw [ht1] at HR
  try dsimp only at HR
  have p0 := HC.out.cc.pr.cell (j := 0) rfl
  have pl0 := HC.out.cc.pr.lt
  go_enter Tryz.func106, Tryz.ntmps106
  go_wp2_with fail
  refine Calls.mono (take_hit HC.out.cc.pv t HT.out 1 hk) ?_
  rintro e w1 ⟨rfl, hp, hst⟩
  have h1 := HC.out.step hp (hst.step W.heap.size vl vs)
  have BX := hid' (row_new w1 71 [.int .i64 (t.kind : Int), .string (txt t.text), .int .i64 (t.pos : Int)])
  have h2 := h1.step (hp.alloc (.cells #[.int .i64 (t.kind : Int), .string (txt t.text), .int .i64 (t.pos : Int)] 71)) ((Step.refl w1.heap.size B pb w1 vl vs).alloc (.cells #[.int .i64 (t.kind : Int), .string (txt t.text), .int .i64 (t.pos : Int)] 71) hp.lowB)
  replace HB := hid' (hst.below.alloc (Nat.le_trans HC.out.cc.pv.lowB hst.below.size) (.cells #[.int .i64 (t.kind : Int), .string (txt t.text), .int .i64 (t.pos : Int)] 71))
  replace HC := hid' h2
  clear hk hp hst h1 h2 p0 pl0
  have p0 := HC.out.cc.pr.cell (j := 0) rfl
  have pl0 := HC.out.cc.pr.lt
  have HSK := hid' (skip_any HC.out.cc.pv t1 ht1 [61])
  go_wp2_with fail
  clear p0 pl0
  rw [if_pos hl] at HR
  rw [decide_eq_true hl, if_pos hl] at HSK
  clear hl
  refine Calls.mono HSK.out ?_
  rintro e w3 ⟨rfl, hp, hst⟩
  have hs := hst.step (w1.alloc (.cells #[.int .i64 (t.kind : Int), .string (txt t.text), .int .i64 (t.pos : Int)] 71)).heap.size vl vs
  have h3 := HC.out.step hp hs
  replace BX := hid' (BX.out.stepR (by decide) (by decide) HC.out.cc.pv hs)
  replace HB := hid' (HB.out.trans hst.below)
  replace HC := hid' h3
  clear hp hst hs h3 HSK
  have n0 := HC.out.cc.nr.cell (j := 0) rfl
  have nl0 := HC.out.cc.nr.lt
  have bx1 := BX.out.cell (j := 1) rfl
  have bxl := BX.out.lt
  go_wp2_with fail
  clear n0 nl0 bx1 bxl
  refine Calls.mono (fresh_any HC.out.cc.mp (by omega) t.text (HTS.out _ (List.mem_of_getElem? HT.out))) ?_
  rintro e w4 ⟨rfl, hm4, hsz4, hf4, hb4⟩
  have hp4 := PV.keepM HC.out.cc.pv HC.out.cc.mp (hb4 B hBm) hf4
  have hs4 : StepM mb w3.heap.size B pb w3 vl vs w4 vl vs := ⟨hb4 B hBm, fun k h1 _ h3 _ => hf4 k h1 h3, fun _ e => .inl e, ⟨[], by simp, by simp⟩⟩
  have h4 := HC.out.stepM hp4 hs4 hm4
  replace BX := hid' (BX.out.stepM (by decide) (by decide) HC.out.cc.mp HC.out.cc.pv hs4)
  replace HB := hid' (HB.out.trans (hb4 B hBm))
  replace HC := hid' h4
  clear hm4 hsz4 hf4 hb4 hp4 hs4 h4
  have g0 := HC.out.gr.cell (j := 0) rfl
  have go0 := HC.out.gr.open_ 0
  have gl0 := HC.out.gr.lt
  have bx2 := BX.out.cell (j := 2) rfl
  have bxl := BX.out.lt
  by_cases hin : t.text ∈ names
  · rw [if_pos hin] at HR
    rw [show decide (¬ t.text ∈ names) = false by simpa using hin]
    clear hin
    have hce := HC.out.cc.pv.env.parse
    go_wp2_with (go_at_call 78; refine Calls.mono (p_fault_any A 1 _ _) ?_; rintro e wf ⟨rfl, rfl⟩)
    go_wp2
    obtain rfl : R.bad false t.pos = r := HR.out
    exact ⟨rfl, (fault_end (Below.refl _ w4) HC.out.cc.pv.lowB false 1 rfl _).of_below HB.out⟩
  rw [if_neg hin] at HR
  rw [show decide (¬ t.text ∈ names) = true by simpa using hin]
  clear hin
  have hg := HC.out.setGiven true
  have p1 := hg.cc.pr.cell (j := 0) rfl
  have pl1 := hg.cc.pr.lt
  have hbx := row_past BX.out ⟨gb, 0, none⟩ (.bool true) (fun e => RowV.apart BX.out HC.out.gr (by decide) e)
  all_goals (
    go_wp2_with fail
    clear p1 pl1 g0 go0 gl0 bx2 bxl
    replace HB := hid' (HB.out.setCell (p := ⟨gb, 0, none⟩) (Nat.le_trans HC.out.cc.hi.2.2 HC.out.hig) (.bool true))
    replace BX := hid' hbx
    replace HC := hid' hg
    clear hg hbx
    generalize (PS.mk (s.at_ + 1 + 1) s.nodes s.deep) = s6 at HC HR
    generalize hq6 : runF ts m .test s6 = r6 at HR
    rcases r6 with _ | ⟨l6, p6⟩ | ⟨z6, y6, c6, s7⟩
    · exact absurd HR.out.symm hnr
    · refine Calls.mono (H.test _ _ _ _ _ HC.out.cc.pv hq6 (by simp)) ?_
      rintro e wb hp
      have HF := hid' (FaultP.of_below hp HB.out)
      obtain ⟨gb', rfl, _⟩ := hp
      obtain rfl : R.bad l6 p6 = r := HR.out
      go_wp2
      exact ⟨rfl, HF.out⟩
    refine Calls.mono (H.test _ _ _ _ _ HC.out.cc.pv hq6 (by simp)) ?_
    rintro e w6 ⟨vl6, vs6, rfl, hp, hs⟩
    have h6 := HC.out.step hp hs
    replace BX := hid' (BX.out.stepR (by decide) (by decide) HC.out.cc.pv hs)
    replace HB := hid' (HB.out.trans hs.below)
    replace HC := hid' h6
    try dsimp only [R.bind] at HR
    clear h6 hp hs hq6
    go_wp2_with (at_builtin; refine num_plain (OwnZ.nil w6 B) z6 1 rfl HC.out.cc.pv.lowB (by simp) rfl (.tmp 30) (.tmp 33) (by rfl) (by rfl) (by rfl) ?_; intro g5 cap5 w7 q1 q2 q3 q4 q5; have HQ := hid' (row_push (m := 1) HC.out.cc.pv (Step.refl w6.heap.size B pb w6 vl6 vs6) (OwnZ.nil w6 B) (off_nil vs6 0 0) (fun _ e => by simp [Value.ownBlock] at e) q2 q3 g5 cap5 q4); have OZ6 := hid' q1; clear q1 q2 q3 q4 q5)
    have HCa := HC
    have HSa := hid' HQ.out.2.1
    have OF6 := hid' HQ.out.2.2.1
    have NW6 := hid' HQ.out.2.2.2
    replace BX := hid' (BX.out.stepR (by decide) (by decide) HC.out.cc.pv HQ.out.2.1)
    replace HC := hid' (HC.out.step HQ.out.1 HQ.out.2.1)
    clear HQ
    rw [addF] at HR
    by_cases hn8 : ¬ ((PS.nodes s7).length < 900000 ∧ (List.length ([z6] : List Int)) < 900000)
    · rw [if_neg hn8] at HR
      exact absurd HR.out.symm hnr
    rw [Decidable.not_not] at hn8
    rw [if_pos hn8] at HR
    obtain rfl := HR.out
    obtain ⟨ao, cap, rfl, _⟩ := own_form HC.out.cc.oz
    have hpd : PV A B pb ts tv w7.drew s7 vl6 vs6 := HC.out.cc.pv.drewN 1
    have hsd : Step w7.heap.size B pb w7 vl6 vs6 w7.drew vl6 vs6 := Step.drewN (Step.refl w7.heap.size B pb w7 vl6 vs6) 1
    have HA := hid' (p_add_any (n := w6.heap.size) hpd 46 t.pos (txt t.text) (HTS.out _ (List.mem_of_getElem? HT.out)) (.slice (some ⟨g5, 0, none⟩) 1 cap5) [z6] (OZ6.out.step HC.out.cc.pv hsd) OF6.out hn8.1 hn8.2 NW6.out)
    have HD := hid' hpd
    have BD := hid' (BX.out.stepR (by decide) (by decide) HC.out.cc.pv hsd)
    have HSD := hid' (HSa.out.then (Nat.le_refl _) hsd)
    have k0 := HC.out.cc.kr.cell (j := 0) rfl
    have kl0 := HC.out.cc.kr.lt
    have p0 := HC.out.cc.pr.cell (j := 0) rfl
    have pl0 := HC.out.cc.pr.lt
    have b1 := BX.out.cell (j := 1) rfl
    have b2 := BX.out.cell (j := 2) rfl
    have bl := BX.out.lt
    clear hpd hsd
    go_wp2_with fail
    go_region_law (first | (go_simp; go_at_call 35; refine Calls.mono HA.out ?_; rintro e w9 ⟨rfl, vl9, vs9, hp9, hs9⟩; have h9 := HCa.out.step hp9 (HSD.out.trans hs9); have k9 := h9.cc.kr.cell (j := 0) rfl; have kl9 := h9.cc.kr.lt; have H9 := hid' h9; clear hp9 hs9 h9) | (refine num_drawn (W := w9) H9.out.cc.oz _ H9.out.cc.pv.lowB (by omega) rfl (.tmp 35) (.tmp 43) (by rfl) (by rfl) (by rfl) ?_; intro ga capa wa9 q1 q2 q3 q4 q5; have ha := H9.out.pushed _ ga capa q1 q2 q3 q4; have ka := ha.1.cell (j := 0) rfl; have oa := ha.1.open_ 0; have la := ha.1.lt; have HZ := hid' ha.2; clear ha q1 q2 q3 q4 q5))
    all_goals (
      go_wp2
      go_end0
      exact ⟨rfl, _, _, _, HZ.out⟩))
end Go.Proofs.YtpjjofdphlgeiaaGreatDoor
