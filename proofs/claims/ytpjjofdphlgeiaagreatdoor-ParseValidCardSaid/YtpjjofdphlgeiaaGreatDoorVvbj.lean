/- Parts of the proof, together. A node is laid behind the parser's. Conditions: fewer than 900000 nodes. What is proved of the parser's calls for less fuel; its small calls once more, in the functions' words. Conditions: as told. What test of the parser answers. Conditions: as told of less fuel. What not, unary, ahead of the parser answers. Conditions: as told of less fuel. What orOp, andOp, sumOp, productOp, compareOp of the parser answers. Conditions: as told of less fuel. What binary of the parser answers. Conditions: as told of less fuel. What or, and, sum, product of the parser answers. Conditions: as told of less fuel. What compare of the parser answers. Conditions: as told of less fuel. What begins of the parser answers. Conditions: as told of less fuel. What primary of the parser answers. Conditions: as told of less fuel. -/
import Derived.Deep.RegionLaw
import Derived.Test.YtpjjofdphlgeiaaGreatDoorVvbi
import Derived.Test.YtpjjofdphlgeiaaGreatDoorVvac
namespace Go.Proofs.YtpjjofdphlgeiaaGreatDoor
open Go.RowKit
open Lx Ax Px

theorem clone_any (s : ByteArray) (hs : s.size ≤ 1000000) (w : World) :
    Calls Tryz.prog 58 #[.string s] w fun e w' => e = .returned (.string s) ∧ Below w.heap.size w w' := by
  have H := hid' (Tryz.stringslite_Clone s w (by omega))
  go_enter Tryz.func58, Tryz.ntmps58
  go_wp2_with (go_at_call 81; with_reducible refine H.out.mono ?_; rintro e w2 ⟨rfl, b2⟩)
  go_wp2
  go_returns
  exact ⟨rfl, b2⟩
/-- An append of one node in a region that draws. -/
theorem node_drawn {ops : Array Oper} {o : Oper} {a : Act} {K : Act → World → Prop} {Q : Exit → Act → World → Prop} {E : Prop} {W : World} {B : Nat} {vl : Value} {l : List Nd} {vs : List Value} (h : Tr W B vl l vs) (x : Nd) (v : Value)
    (hkid : OwnZ W B v x.kids) (hfew : x.kids.length ≤ 1048576) (hap : ∀ (j : Nat) u, vs[j]? = some u → ∀ k, u.ownBlock = some k → v.ownBlock ≠ some k) (hB : B ≤ W.heap.size) (hl : l.length < 900000)
    (arr : Array Value) (ha : arr.toList = nodeC x v) (hgd : o.guard = none) (p q : Operand)
    (ho : o.op = .call { callee := .builtin .append, args := #[p, q], argTypes := #[23, 23] }) (hx : a.eval p = vl) (hy : a.eval q = .slice (some ⟨W.heap.size, 0, none⟩) 1 1)
    (hK : ∀ g cap w', Tr w' B (.slice (some ⟨g, 0, none⟩) (l.length + 1) cap) (l ++ [x]) (vs ++ [v]) → Below B W w' → (∀ k, k < W.heap.size → vl.ownBlock ≠ some k → w'.heap[k]? = W.heap[k]?) → (vl.ownBlock = some g ∨ W.heap.size ≤ g) → W.heap.size + 1 ≤ w'.heap.size →
      K (a.put o.dst (.slice (some ⟨g, 0, none⟩) (l.length + 1) cap)) w') :
    if Region.wanted o (yielded ops a.tmps) = true then Oper.wp Tryz.prog o a (W.alloc (.cells arr 32)) K Q else E := by
  rw [if_pos (by simp [Region.wanted, hgd])]
  obtain ⟨i0, hi, hz0, hz1, hz2⟩ := info_parts info_node
  have hone : v.oneCell' = true := by
    obtain ⟨ao, cap, e2, _⟩ := own_form hkid
    rw [e2]; rfl
  have hr0 : (W.alloc (.cells arr 32)).heap[W.heap.size]? = some (.cells arr 32 (0, 0)) := heap_alloc_new _ _
  obtain ⟨u, w', hr, h1, h2, _, h4⟩ := run_append_own_at (P := Tryz.prog) (W.alloc (.cells arr 32)) B 23 o.type 32 i0 _ 5 64 Tryz.underlying23 hi hz0 hz1 hz2 rfl (by decide) vl l.length (nodesC l vs)
    (World.ownsRow.alloc h.own _) ⟨W.heap.size, 0, none⟩ 1 1 (nodeC x v) rfl (fun j u hu => by
      rw [Go.WideShapes.add_plain, Nat.zero_add, cell_of_row _ _ _ _ _ _ hr0]
      rw [← ha] at hu
      simpa using hu) (fun u hu => by
        simp only [nodeC, List.mem_cons, List.not_mem_nil, or_false] at hu
        rcases hu with rfl | rfl | rfl | rfl | rfl
        · rfl
        · rfl
        · rfl
        · rfl
        · exact hone) (by unfold maxLen; omega) (by omega) (by simp; omega)
  have hb : ∀ j, j < W.heap.size → vl.ownBlock ≠ some j → w'.heap[j]? = W.heap[j]? := fun j hj hne => (h2.block j (by simp; omega) (Ne.symm hne)).trans (Below.heap_alloc W _ j hj)
  have hk' : ∀ v zs, OwnZ W B v zs → OwnZ w' B v zs := fun v zs hv => hv.keep fun k e hl => hb k hl (fun e2 => own_apart hv h.own (by decide) k e e2)
  have h1' : w'.ownsRow B 32 5 u (l ++ [x]).length (nodesC (l ++ [x]) (vs ++ [v])) := by
    rw [nodesC_append l [x] vs [v] h.len, List.length_append]
    exact h1
  have hT : Tr w' B u (l ++ [x]) (vs ++ [v]) := by
    refine ⟨h1', by simp [h.len], fun j x' v' hx' hv' => ?_, fun x' hx' => ?_, Apart.more h.apart hap⟩
    · by_cases hj : j < l.length
      · rw [List.getElem?_append_left hj] at hx'
        rw [List.getElem?_append_left (by rw [h.len]; exact hj)] at hv'
        exact hk' v' _ (h.kid j x' v' hx' hv')
      · rw [List.getElem?_append_right (by omega)] at hx'
        rw [List.getElem?_append_right (by rw [h.len]; omega), h.len] at hv'
        have hj0 := (List.getElem?_eq_some_iff.1 hx').1
        simp at hj0
        have hj1 : j - l.length = 0 := by omega
        rw [hj1] at hx' hv'
        simp at hx' hv'
        subst hx' hv'
        exact hk' _ _ hkid
    · rcases List.mem_append.1 hx' with hx' | hx'
      · exact h.few x' hx'
      · simp at hx'; subst hx'; exact hfew
  obtain ⟨g, cap, e, _⟩ := own_some h1' (by simp)
  subst e
  rw [List.length_append, List.length_singleton] at hT hr
  have hsz := h2.size
  simp only [World.size_alloc] at hsz
  unfold Oper.wp execOp
  simp only [ho, resolve, invoke, builtin, Sem.run_bind, Sem.run_pure, Result.andThen_ok, List.map_toArray, List.map_cons, List.map_nil, hx, hy, hr]
  refine hK g _ w' hT (((Below.refl B W).alloc hB _).grown h2 (by simp; omega) fun j hj => (h.own.lt j hj).1) hb ?_ hsz
  rcases h4 with h4 | h4
  · exact .inl h4.symm
  · simp only [Value.ownBlock, Option.some.injEq, World.size_alloc] at h4
    exact .inr (by omega)
section
variable {A : Nat → Addr} {n B pb : Nat} {ts : List Tok} {tv : Value} {W W' : World} {s : PS} {vl : Value} {vs : List Value}
/-- The parser behind an append to its nodes. -/
theorem PV.pushed (h : PV A B pb ts tv W s vl vs) (x : Nd) (v : Value) (g cap : Nat) (hT : Tr W' B (.slice (some ⟨g, 0, none⟩) (s.nodes.length + 1) cap) (s.nodes ++ [x]) (vs ++ [v])) (hb : Below B W W')
    (hf : ∀ k, k < W.heap.size → vl.ownBlock ≠ some k → W'.heap[k]? = W.heap[k]?) (hg : vl.ownBlock = some g ∨ W.heap.size ≤ g) (hv : ∀ k, v.ownBlock = some k → n ≤ k) :
    PV A B pb ts tv (W'.setCell ⟨pb, 2, none⟩ (.slice (some ⟨g, 0, none⟩) (s.nodes.length + 1) cap)) { s with nodes := s.nodes ++ [x] } (.slice (some ⟨g, 0, none⟩) (s.nodes.length + 1) cap) (vs ++ [v]) ∧
    Step n B pb W vl vs (W'.setCell ⟨pb, 2, none⟩ (.slice (some ⟨g, 0, none⟩) (s.nodes.length + 1) cap)) (.slice (some ⟨g, 0, none⟩) (s.nodes.length + 1) cap) (vs ++ [v]) := by
  have hrow : RowV W' pb 69 (pC tv s vl) := h.row.far (hf pb h.lt (fun e => ne_kind h.tr.own h.row (by decide) pb e rfl))
  have hb2 : Below B W (W'.setCell ⟨pb, 2, none⟩ (.slice (some ⟨g, 0, none⟩) (s.nodes.length + 1) cap)) := hb.setCell h.high _
  have hl : (s.nodes ++ [x]).length = s.nodes.length + 1 := by simp
  refine ⟨⟨hrow.set 2 _, ?_, h.high, h.toks.below hb2, h.few, h.env.below hb2⟩, hb2, fun k hk hp hne => ?_, fun k hk => ?_, ⟨[v], rfl, fun u hu k hk => ?_⟩⟩
  · refine hT.keep' (fun k e hk => heap_setCell_other _ _ k _ (ne_kind (hl ▸ hT.own) hrow (by decide) k e)) (fun j u hu k e hk => heap_setCell_other _ _ k _ ?_)
    have hj : j < (s.nodes ++ [x]).length := by rw [← hT.len]; exact (List.getElem?_eq_some_iff.1 hu).1
    exact ne_kind (hT.kid j _ u (List.getElem?_eq_getElem hj) hu) hrow (by decide) k e
  · exact (heap_setCell_other _ _ k _ hp).trans (hf k hk hne)
  · simp only [Value.ownBlock, Option.some.injEq] at hk
    subst hk
    exact hg
  · simp at hu
    subst hu
    exact hv k hk
set_option maxRecDepth 10000 in
set_option maxHeartbeats 1600000 in
theorem p_add_any (h : PV A B pb ts tv W s vl vs) (op pos : Int) (tx : ByteArray) (htx : tx.size ≤ 1000000) (v : Value) (zs : List Int) (hz : OwnZ W B v zs) (hoff : Off v vs) (hn : s.nodes.length < 900000) (hk : zs.length < 900000) (hv : ∀ k, v.ownBlock = some k → n ≤ k) :
    Calls Tryz.prog 35 #[.pointer (some ⟨pb, 0, none⟩), .int .i64 op, .int .i64 pos, .string tx, v] W fun e w' => e = .returned (.int .i64 (s.nodes.length : Int)) ∧
      ∃ vl' vs', PV A B pb ts tv w' { s with nodes := s.nodes ++ [⟨op, 0, pos, tx, zs⟩] } vl' vs' ∧ Step n B pb W vl vs w' vl' vs' := by
  have HC := fun w => hid' (clone_any tx htx w)
  obtain ⟨ao, cap0, rfl, _⟩ := own_form hz
  obtain ⟨al, capl, rfl, _⟩ := own_form h.tr.own
  obtain ⟨_, _, c2, _⟩ := h.cells
  have hlt := h.lt
  have hlo := hid' h.lowB
  have hsub : IntKind.i64.wrap (((s.nodes.length + 1 : Nat) : Int) - 1) = (s.nodes.length : Int) := by rw [IntWalk.i64_in _ ⟨by omega, by omega⟩]; omega
  have HP := hid' h
  have HZ := hid' hz
  have HO := hid' hoff
  have HVN := hid' hv
  clear h hz hoff hv
  go_enter Tryz.func35, Tryz.ntmps35
  go_wp2_with fail
  go_region_law (first | (go_simp; go_at_call 58; refine Calls.mono (HC _).out ?_; rintro e w2 ⟨rfl, b2⟩; have c2' := (b2.cell (p := ⟨pb, 2, none⟩) hlt).trans c2; have hl2 := Nat.lt_of_lt_of_le hlt b2.size; have b3 : Below W.heap.size W w2 := ⟨b2.os, b2.tape, b2.output, b2.size, b2.block⟩; have B3 := hid' b3; have HP2 := hid' (HP.out.low b3); have HZ2 := hid' (HZ.out.keep (W' := w2) fun k _ hk => b3.block k hk); clear b2 b3) | (refine node_drawn (W := w2) HP2.out.tr ⟨op, 0, pos, tx, zs⟩ (.slice ao zs.length cap0) HZ2.out (by simp only; omega) HO.out (Nat.le_trans hlo.out B3.out.size) hn _ rfl rfl (.tmp 15) (.tmp 22) (by rfl) (by rfl) (by rfl) ?_; intro g2 cap2 w9 p1 p2 p3 p4 p5; have r9 := HP2.out.row.far (p3 pb hl2 (fun e => ne_kind HP2.out.tr.own HP2.out.row (by decide) pb e rfl)); have c9 := r9.cell (j := 2) rfl; have o9 := r9.open_ 2; have hl9 := r9.lt; have HQ := hid' (PV.pushed HP2.out ⟨op, 0, pos, tx, zs⟩ (.slice ao zs.length cap0) g2 cap2 p1 p2 p3 p4 HVN.out); clear r9 p1 p2 p3 p4))
  all_goals (
    go_wp2
    go_returns
    exact ⟨rfl, _, _, HQ.out.1, (Step.low HP.out B3.out).trans HQ.out.2⟩)
end
end Go.Proofs.YtpjjofdphlgeiaaGreatDoor

namespace Go.Proofs.YtpjjofdphlgeiaaGreatDoor
open Go.RowKit
open Lx Ax Px

/-- What a list of statements answers. -/
def ListP (A : Nat → Addr) (B pb : Nat) (ts : List Tok) (tv : Value) (W : World) (vl : Value) (vs : List Value) (r : R) (e : Ending) (w' : World) : Prop := match r with
  | .stuck => False
  | .bad l p => FaultP A B W l p e w'
  | .ok _ zs _ s' => ∃ v vl' vs', e = .returned v ∧ PV A B pb ts tv w' s' vl' vs' ∧ Step W.heap.size B pb W vl vs w' vl' vs' ∧ OwnZ w' B v zs ∧ (∀ k, v.ownBlock = some k → W.heap.size ≤ k) ∧ Off v vs'
section
variable (A : Nat → Addr) (B pb : Nat) (ts : List Tok) (tv : Value)
def Does (f : FuncId) (args : Array Value) (q : Q) (n : Nat) : Prop := ∀ W s vl vs r, PV A B pb ts tv W s vl vs → runF ts n q s = r → r ≠ .stuck → Calls Tryz.prog f args W (NodeP A B pb ts tv W vl vs r)
def DoesR (f : FuncId) (args : Array Value) (q : Q) (n : Nat) : Prop := ∀ W s vl vs r, PV A B pb ts tv W s vl vs → runF ts n q s = r → r ≠ .stuck → Calls Tryz.prog f args W (RowP A B pb ts tv W vl vs r)
def DoesL (f : FuncId) (args : Array Value) (q : Q) (n : Nat) : Prop := ∀ W s vl vs r, PV A B pb ts tv W s vl vs → runF ts n q s = r → r ≠ .stuck → Calls Tryz.prog f args W (ListP A B pb ts tv W vl vs r)
def DoesN (f : FuncId) (args : Array Value) (q : Q) (n : Nat) : Prop := ∀ W s vl vs r, PV A B pb ts tv W s vl vs → runF ts n q s = r → r ≠ .stuck → Calls Tryz.prog f args W (NoneP A B pb ts tv W vl vs r)
def ptr (pb : Nat) : Value := .pointer (some ⟨pb, 0, none⟩)
/-- A place, as it is handed on. -/
def plV (p : Pl) : Value := .agg #[.bool p.inner, .bool p.d, .bool p.l]
def bound (f : FuncId) (pb : Nat) : Value := .func (.func f) #[ptr pb] #[]
/-- What is known for one fuel. -/
structure All (n : Nat) : Prop where
  test : Does A B pb ts tv 72 #[ptr pb] .test n
  or : Does A B pb ts tv 100 #[ptr pb] (.bin 0) n
  and : Does A B pb ts tv 123 #[ptr pb] (.bin 1) n
  sum : Does A B pb ts tv 170 #[ptr pb] (.bin 2) n
  product : Does A B pb ts tv 182 #[ptr pb] (.bin 3) n
  not : Does A B pb ts tv 145 #[ptr pb] .not n
  ahead0 : Does A B pb ts tv 160 #[ptr pb, .string (txt sNot), .int .i64 17, bound 145 pb] (.ahead 0) n
  ahead1 : Does A B pb ts tv 160 #[ptr pb, .string (txt [45]), .int .i64 16, bound 189 pb] (.ahead 1) n
  compare : Does A B pb ts tv 159 #[ptr pb] .compare n
  unary : Does A B pb ts tv 189 #[ptr pb] .unary n
  primary : Does A B pb ts tv 148 #[ptr pb] .primary n
  atom : Does A B pb ts tv 162 #[ptr pb] .atom n
  tests : DoesR A B pb ts tv 67 #[ptr pb] (.row 0) n
  orNone : DoesR A B pb ts tv 174 #[ptr pb] .orNone n
  tuple : Does A B pb ts tv 46 #[ptr pb] (.bare 0) n
  round : Does A B pb ts tv 147 #[ptr pb, bound 174 pb] (.round 0) n
  statement : ∀ p, Does A B pb ts tv 34 #[ptr pb, plV p] (.statement p) n
  line : ∀ p, Does A B pb ts tv 57 #[ptr pb, plV p] (.line p) n
  simple : ∀ p, Does A B pb ts tv 80 #[ptr pb, plV p] (.simple p) n
  assignment : Does A B pb ts tv 111 #[ptr pb] .assignment n
  def_ : Does A B pb ts tv 56 #[ptr pb] .def_ n
  call : ∀ z, Does A B pb ts tv 164 #[ptr pb, .int .i64 z] (.call z) n
  dot : ∀ z, Does A B pb ts tv 163 #[ptr pb, .int .i64 z] (.dot z) n
  index : ∀ z, Does A B pb ts tv 165 #[ptr pb, .int .i64 z] (.index z) n
  bound0 : Does A B pb ts tv 179 #[ptr pb, .string (txt [58])] (.bound 0) n
  bound1 : Does A B pb ts tv 179 #[ptr pb, .string (txt [93])] (.bound 1) n
  list : Does A B pb ts tv 175 #[ptr pb] .list n
  dict : Does A B pb ts tv 176 #[ptr pb] .dict n
  texts : Does A B pb ts tv 173 #[ptr pb] .texts n
  rounds : DoesL A B pb ts tv 186 #[ptr pb] .rounds n
  target : Does A B pb ts tv 125 #[ptr pb] .target n
  load : Does A B pb ts tv 110 #[ptr pb] .load n
  loaded : Does A B pb ts tv 127 #[ptr pb] .loaded n
  result : Does A B pb ts tv 109 #[ptr pb] .result n
  trow : DoesR A B pb ts tv 104 #[ptr pb] (.row 1) n
  targets : Does A B pb ts tv 77 #[ptr pb] (.bare 1) n
  round1 : Does A B pb ts tv 147 #[ptr pb, bound 104 pb] (.round 1) n
  cond : ∀ pos p, Does A B pb ts tv 52 #[ptr pb, .int .i64 pos, plV p] (.cond pos p) n
  elif : ∀ p, Does A B pb ts tv 75 #[ptr pb, plV p] (.elif p) n
  loop : ∀ p, Does A B pb ts tv 54 #[ptr pb, plV p] (.loop p) n
  block : ∀ p, Does A B pb ts tv 73 #[ptr pb, plV p] (.block p) n
  lines : ∀ p, DoesL A B pb ts tv 103 #[ptr pb, plV p] (.lines p) n
end
section
variable {A : Nat → Addr} {n B pb : Nat} {ts : List Tok} {tv : Value} {W W' : World} {s : PS} {vl : Value} {vs : List Value}
theorem str_is (l c : List UInt8) : ((txt l).toList == c) = decide (l = c) := by
  rw [toList_txt]
  by_cases h : l = c <;> simp [h]
/-- A block of another kind is kept by a step. -/
theorem RowV.stepR {b0 : Nat} {t : TypeId} {cs : List Value} {vl' : Value} {vs' : List Value} (h : RowV W b0 t cs) (ht : t ≠ 69) (ht2 : 32 ≠ t) (hp : PV A B pb ts tv W s vl vs) (hs : Step n B pb W vl vs W' vl' vs') : RowV W' b0 t cs :=
  h.far (hs.far b0 h.lt (fun e => RowV.apart h hp.row ht e) (fun e => ne_kind hp.tr.own h ht2 b0 e rfl))
/-- A literal list of numbers. -/
theorem own_new (W : World) (B : Nat) (hB : B ≤ W.heap.size) (zs : List Int) (hz : zs.length ≤ 1000) (arr : Array Value) (ha : arr = (nums zs).toArray) (k : Nat) (hk : k = zs.length) : OwnZ (W.alloc (.cells arr 3)) B (.slice (some ⟨W.heap.size, 0, none⟩) k k) zs ∧ ∀ j, (Value.slice (some ⟨W.heap.size, 0, none⟩) k k).ownBlock = some j → W.heap.size ≤ j := by
  subst hk
  exact ⟨OwnZ.lit W B hB zs (by omega) arr ha, fun j h => by simp only [Value.ownBlock, Option.some.injEq] at h; omega⟩
/-- A node whose kids are a literal list. -/
theorem add_lit (h : PV A B pb ts tv W s vl vs) (op pos : Int) (tx : ByteArray) (htx : tx.size ≤ 1000000) (zs : List Int) (hz : zs.length ≤ 1000) (arr : Array Value) (ha : arr = (nums zs).toArray) (k : Nat) (hk : k = zs.length) (hn : s.nodes.length < 900000) :
    Calls Tryz.prog 35 #[.pointer (some ⟨pb, 0, none⟩), .int .i64 op, .int .i64 pos, .string tx, .slice (some ⟨W.heap.size, 0, none⟩) k k] (W.alloc (.cells arr 3)) fun e w' => e = .returned (.int .i64 (s.nodes.length : Int)) ∧
      ∃ vl' vs', PV A B pb ts tv w' { s with nodes := s.nodes ++ [⟨op, 0, pos, tx, zs⟩] } vl' vs' ∧ Step W.heap.size B pb W vl vs w' vl' vs' := by
  obtain ⟨ho, hv⟩ := own_new W B h.lowB zs hz arr ha k hk
  refine (p_add_any (n := W.heap.size) (h.alloc _) op pos tx htx _ zs ho (Off.new h hv) hn (by omega) hv).mono ?_
  rintro e w' ⟨he, vl', vs', hp, hs⟩
  exact ⟨he, vl', vs', hp, ((Step.refl _ _ _ _ _ _).alloc _ h.lowB).trans hs⟩
theorem add_none (h : PV A B pb ts tv W s vl vs) (op pos : Int) (tx : ByteArray) (htx : tx.size ≤ 1000000) (hn : s.nodes.length < 900000) :
    Calls Tryz.prog 35 #[.pointer (some ⟨pb, 0, none⟩), .int .i64 op, .int .i64 pos, .string tx, .slice none 0 0] W fun e w' => e = .returned (.int .i64 (s.nodes.length : Int)) ∧
      ∃ vl' vs', PV A B pb ts tv w' { s with nodes := s.nodes ++ [⟨op, 0, pos, tx, []⟩] } vl' vs' ∧ Step W.heap.size B pb W vl vs w' vl' vs' :=
  p_add_any (n := W.heap.size) h op pos tx htx (.slice none 0 0) [] (OwnZ.nil _ _) (fun _ _ _ _ _ e => by simp [Value.ownBlock] at e) hn (by simp) (fun _ e => by simp [Value.ownBlock] at e)
end
end Go.Proofs.YtpjjofdphlgeiaaGreatDoor

namespace Go.Proofs.YtpjjofdphlgeiaaGreatDoor
open Go.RowKit
open Lx Ax Px

set_option maxRecDepth 10000 in
set_option maxHeartbeats 1600000 in
theorem test_step {A : Nat → Addr} {B pb : Nat} {ts : List Tok} {tv : Value} {m : Nat} (H : All A B pb ts tv m) : Does A B pb ts tv 72 #[ptr pb] .test (m + 1) := by
  intro W s vl vs r h hr hnr
  have HR := hid' hr
  have HP := hid' h
  have HS := hid' (Step.refl W.heap.size B pb W vl vs)
  have HLO := hid' h.lowB
  clear hr h
  rw [runF] at HR
  unfold bodyF at HR
  dsimp only at HR
  have hnot : ∀ (x : Bool) (w : World), (Op.unary .not (.bool x)).run Tryz.prog w = .ok (.bool (!x)) w := fun _ _ => rfl
  have hfk := tok_kind
  have hfp := tok_pos
  unfold ptr
  go_enter Tryz.func72, Tryz.ntmps72
  go_wp2_with fail
  generalize hq1 : runF ts m (.bin 0) s = r1 at HR
  rcases r1 with _ | ⟨l1, p1⟩ | ⟨z1, y1, c1, s1⟩
  · exact absurd HR.out.symm hnr
  · refine Calls.mono (H.or _ _ _ _ _ HP.out hq1 (by simp)) ?_
    rintro e wb hp
    have HF := hid' (FaultP.of_below hp HS.out.below)
    obtain ⟨gb, rfl, _⟩ := hp
    obtain rfl : R.bad l1 p1 = r := HR.out
    go_wp2
    exact ⟨rfl, HF.out⟩
  refine Calls.mono (H.or _ _ _ _ _ HP.out hq1 (by simp)) ?_
  rintro e w1 ⟨vl1, vs1, rfl, hp, hs⟩
  have hle1 := HS.out.below.size
  replace HS := hid' (HS.out.then (Nat.le_refl _) hs)
  replace HP := hid' hp
  clear hp hs
  dsimp only [R.bind] at HR
  clear hq1
  rw [Px.signF] at HR
  generalize ht3 : ts[PS.at_ s1]? = o3 at HR
  rcases o3 with _ | t3
  · exact absurd HR.out.symm hnr
  try dsimp only at HR
  go_wp2_with fail
  refine Calls.mono (sees_any HP.out t3 ht3 sIf) ?_
  rintro e w4 ⟨rfl, b⟩
  have hp := HP.out.low b
  have hs := Step.low (n := w1.heap.size) HP.out b
  clear b
  replace HS := hid' (HS.out.then (Nat.le_refl _) hs)
  replace HP := hid' hp
  clear hp hs
  by_cases hl : sg t3 = sIf
  · rw [if_pos hl] at HR
    rw [decide_eq_true hl]
    rw [enterF, needF, ht3] at HR
    try dsimp only at HR
    rw [if_pos hl] at HR
    try dsimp only at HR
    by_cases hd5 : PS.deep s1 = 60
    · rw [if_pos hd5] at HR
      go_wp2_with fail
      · refine Calls.mono (enter_deep HP.out t3 ht3 sIf hl hd5) ?_
        rintro e wb hp
        have HF := hid' (FaultP.of_below hp HS.out.below)
        obtain ⟨gb, rfl, _⟩ := hp
        obtain rfl : R.bad true t3.pos = r := HR.out
        go_wp2
        exact ⟨rfl, HF.out⟩
    rw [if_neg hd5] at HR
    go_wp2_with fail
    refine Calls.mono (enter_hit HP.out t3 ht3 sIf hl hd5) ?_
    rintro e w7 ⟨rfl, hp, hst⟩
    have hs := hst.step w4.heap.size vl1 vs1
    clear hst
    replace HS := hid' (HS.out.then (Nat.le_refl _) hs)
    replace HP := hid' hp
    clear hp hs
    generalize (PS.mk (PS.at_ s1 + 1) (PS.nodes s1) (PS.deep s1 + 1)) = s7 at HP HR
    go_wp2_with fail
    generalize hq8 : runF ts m (.bin 0) s7 = r8 at HR
    rcases r8 with _ | ⟨l8, p8⟩ | ⟨z8, y8, c8, s8⟩
    · exact absurd HR.out.symm hnr
    · refine Calls.mono (H.or _ _ _ _ _ HP.out hq8 (by simp)) ?_
      rintro e wb hp
      have HF := hid' (FaultP.of_below hp HS.out.below)
      obtain ⟨gb, rfl, _⟩ := hp
      obtain rfl : R.bad l8 p8 = r := HR.out
      go_wp2
      exact ⟨rfl, HF.out⟩
    refine Calls.mono (H.or _ _ _ _ _ HP.out hq8 (by simp)) ?_
    rintro e w8 ⟨vl8, vs8, rfl, hp, hs⟩
    have hle8 := HS.out.below.size
    replace HS := hid' (HS.out.then (Nat.le_refl _) hs)
    replace HP := hid' hp
    clear hp hs
    dsimp only [R.bind] at HR
    clear hq8
    rw [needF] at HR
    generalize ht10 : ts[PS.at_ s8]? = o10 at HR
    rcases o10 with _ | t10
    · exact absurd HR.out.symm hnr
    try dsimp only at HR
    by_cases hl11 : ¬ sg t10 = sElse
    · rw [if_neg hl11] at HR
      go_wp2_with fail
      · refine Calls.mono (need_miss HP.out t10 ht10 sElse hl11) ?_
        rintro e wb hp
        have HF := hid' (FaultP.of_below hp HS.out.below)
        obtain ⟨gb, rfl, _⟩ := hp
        obtain rfl : R.bad false t10.pos = r := HR.out
        go_wp2
        exact ⟨rfl, HF.out⟩
    rw [Decidable.not_not] at hl11
    rw [if_pos hl11] at HR
    go_wp2_with fail
    refine Calls.mono (need_hit HP.out t10 ht10 sElse hl11) ?_
    rintro e w13 ⟨rfl, hp, hst⟩
    have hs := hst.step w8.heap.size vl8 vs8
    clear hst
    replace HS := hid' (HS.out.then (Nat.le_refl _) hs)
    replace HP := hid' hp
    clear hp hs
    generalize (PS.mk (PS.at_ s8 + 1) (PS.nodes s8) (PS.deep s8)) = s13 at HP HR
    go_wp2_with fail
    generalize hq14 : runF ts m .test s13 = r14 at HR
    rcases r14 with _ | ⟨l14, p14⟩ | ⟨z14, y14, c14, s14⟩
    · exact absurd HR.out.symm hnr
    · refine Calls.mono (H.test _ _ _ _ _ HP.out hq14 (by simp)) ?_
      rintro e wb hp
      have HF := hid' (FaultP.of_below hp HS.out.below)
      obtain ⟨gb, rfl, _⟩ := hp
      obtain rfl : R.bad l14 p14 = r := HR.out
      go_wp2
      exact ⟨rfl, HF.out⟩
    refine Calls.mono (H.test _ _ _ _ _ HP.out hq14 (by simp)) ?_
    rintro e w14 ⟨vl14, vs14, rfl, hp, hs⟩
    have hle14 := HS.out.below.size
    replace HS := hid' (HS.out.then (Nat.le_refl _) hs)
    replace HP := hid' hp
    clear hp hs
    dsimp only [R.bind] at HR
    clear hq14
    rw [leaveF] at HR
    by_cases hd16 : PS.deep s14 = 0
    · rw [if_pos hd16] at HR
      exact absurd HR.out.symm hnr
    rw [if_neg hd16] at HR
    go_wp2_with fail
    refine Calls.mono (leave_any HP.out hd16) ?_
    rintro e w17 ⟨rfl, hp, hst⟩
    have hs := hst.step w14.heap.size vl14 vs14
    clear hst
    replace HS := hid' (HS.out.then (Nat.le_refl _) hs)
    replace HP := hid' hp
    clear hp hs
    generalize (PS.mk (PS.at_ s14) (PS.nodes s14) (PS.deep s14 - 1)) = s17 at HP HR
    rw [addF] at HR
    by_cases hn18 : ¬ ((PS.nodes s17).length < 900000 ∧ (List.length ([z8, z1, z14] : List Int)) < 900000)
    · rw [if_neg hn18] at HR
      exact absurd HR.out.symm hnr
    rw [Decidable.not_not] at hn18
    rw [if_pos hn18] at HR
    go_wp2_with fail
    refine Calls.mono (add_lit HP.out 20 _ ⟨#[]⟩ (by decide) [z8, z1, z14] (by simp) _ rfl _ rfl hn18.1) ?_
    rintro e w18 ⟨rfl, vl18, vs18, hp, hs⟩
    replace HS := hid' (HS.out.then (Nat.le_refl _) hs)
    replace HP := hid' hp
    clear hp hs
    generalize hs18 : (PS.mk (PS.at_ s17) (PS.nodes s17 ++ [⟨20, 0, _, ⟨#[]⟩, [z8, z1, z14]⟩]) (PS.deep s17)) = s18 at HP HR
    clear hs18
    obtain rfl := HR.out
    go_wp2
    go_returns
    exact ⟨_, _, rfl, HP.out, HS.out⟩
  rw [if_neg hl] at HR
  rw [decide_eq_false hl]
  obtain rfl := HR.out
  go_wp2
  go_returns
  exact ⟨_, _, rfl, HP.out, HS.out⟩
end Go.Proofs.YtpjjofdphlgeiaaGreatDoor

namespace Go.Proofs.YtpjjofdphlgeiaaGreatDoor
open Go.RowKit
open Lx Ax Px

set_option maxRecDepth 10000 in
set_option maxHeartbeats 1600000 in
theorem not_step {A : Nat → Addr} {B pb : Nat} {ts : List Tok} {tv : Value} {m : Nat} (H : All A B pb ts tv m) : Does A B pb ts tv 145 #[ptr pb] .not (m + 1) := by
  intro W s vl vs r h hr hnr
  have HR := hid' hr
  have HP := hid' h
  have HS := hid' (Step.refl W.heap.size B pb W vl vs)
  have HLO := hid' h.lowB
  clear hr h
  rw [runF] at HR
  unfold bodyF at HR
  dsimp only at HR
  have hnot : ∀ (x : Bool) (w : World), (Op.unary .not (.bool x)).run Tryz.prog w = .ok (.bool (!x)) w := fun _ _ => rfl
  have hfk := tok_kind
  have hfp := tok_pos
  unfold ptr
  go_enter Tryz.func145, Tryz.ntmps145
  have hmf : ∀ (fn : Fn) (first cap : Array Value) (w : World), (Instr.makeFunc fn first cap).run Tryz.prog w = .ok (.func fn first cap) w := fun _ _ _ _ => rfl
  rw [Px.signF] at HR
  generalize ht1 : ts[PS.at_ s]? = o1 at HR
  rcases o1 with _ | t1
  · exact absurd HR.out.symm hnr
  try dsimp only at HR
  go_wp2_with fail
  refine Calls.mono (sees_any HP.out t1 ht1 sNot) ?_
  rintro e w2 ⟨rfl, b⟩
  have hp := HP.out.low b
  have hs := Step.low (n := W.heap.size) HP.out b
  clear b
  replace HS := hid' (HS.out.then (Nat.le_refl _) hs)
  replace HP := hid' hp
  clear hp hs
  by_cases hl : sg t1 = sNot
  · rw [if_pos hl] at HR
    rw [decide_eq_true hl]
    go_wp2_with fail
    refine Calls.mono (H.ahead0 _ _ _ _ _ HP.out HR.out hnr) ?_
    rintro e we hp
    clear HR
    rcases r with _ | ⟨lr, pr⟩ | ⟨zr, yr, cr, sr⟩
    · exact hp.elim
    · have HF := hid' (FaultP.of_below hp HS.out.below)
      obtain ⟨gb, rfl, _⟩ := hp
      go_wp2
      exact ⟨rfl, HF.out⟩
    obtain ⟨vle, vse, rfl, hp, hs⟩ := hp
    have HQ := hid' (HS.out.then (Nat.le_refl _) hs)
    have HP2 := hid' hp
    clear hp hs
    go_wp2
    go_returns
    exact ⟨_, _, rfl, HP2.out, HQ.out⟩
  rw [if_neg hl] at HR
  rw [decide_eq_false hl]
  go_wp2_with fail
  refine Calls.mono (H.compare _ _ _ _ _ HP.out HR.out hnr) ?_
  rintro e we hp
  clear HR
  rcases r with _ | ⟨lr, pr⟩ | ⟨zr, yr, cr, sr⟩
  · exact hp.elim
  · have HF := hid' (FaultP.of_below hp HS.out.below)
    obtain ⟨gb, rfl, _⟩ := hp
    go_wp2
    exact ⟨rfl, HF.out⟩
  obtain ⟨vle, vse, rfl, hp, hs⟩ := hp
  have HQ := hid' (HS.out.then (Nat.le_refl _) hs)
  have HP2 := hid' hp
  clear hp hs
  go_wp2
  go_returns
  exact ⟨_, _, rfl, HP2.out, HQ.out⟩

set_option maxRecDepth 10000 in
set_option maxHeartbeats 1600000 in
theorem unary_step {A : Nat → Addr} {B pb : Nat} {ts : List Tok} {tv : Value} {m : Nat} (H : All A B pb ts tv m) : Does A B pb ts tv 189 #[ptr pb] .unary (m + 1) := by
  intro W s vl vs r h hr hnr
  have HR := hid' hr
  have HP := hid' h
  have HS := hid' (Step.refl W.heap.size B pb W vl vs)
  have HLO := hid' h.lowB
  clear hr h
  rw [runF] at HR
  unfold bodyF at HR
  dsimp only at HR
  have hnot : ∀ (x : Bool) (w : World), (Op.unary .not (.bool x)).run Tryz.prog w = .ok (.bool (!x)) w := fun _ _ => rfl
  have hfk := tok_kind
  have hfp := tok_pos
  unfold ptr
  go_enter Tryz.func189, Tryz.ntmps189
  have hmf : ∀ (fn : Fn) (first cap : Array Value) (w : World), (Instr.makeFunc fn first cap).run Tryz.prog w = .ok (.func fn first cap) w := fun _ _ _ _ => rfl
  rw [Px.signF] at HR
  generalize ht1 : ts[PS.at_ s]? = o1 at HR
  rcases o1 with _ | t1
  · exact absurd HR.out.symm hnr
  try dsimp only at HR
  go_wp2_with fail
  refine Calls.mono (sees_any HP.out t1 ht1 [45]) ?_
  rintro e w2 ⟨rfl, b⟩
  have hp := HP.out.low b
  have hs := Step.low (n := W.heap.size) HP.out b
  clear b
  replace HS := hid' (HS.out.then (Nat.le_refl _) hs)
  replace HP := hid' hp
  clear hp hs
  by_cases hl : sg t1 = [45]
  · rw [if_pos hl] at HR
    rw [decide_eq_true hl]
    go_wp2_with fail
    refine Calls.mono (H.ahead1 _ _ _ _ _ HP.out HR.out hnr) ?_
    rintro e we hp
    clear HR
    rcases r with _ | ⟨lr, pr⟩ | ⟨zr, yr, cr, sr⟩
    · exact hp.elim
    · have HF := hid' (FaultP.of_below hp HS.out.below)
      obtain ⟨gb, rfl, _⟩ := hp
      go_wp2
      exact ⟨rfl, HF.out⟩
    obtain ⟨vle, vse, rfl, hp, hs⟩ := hp
    have HQ := hid' (HS.out.then (Nat.le_refl _) hs)
    have HP2 := hid' hp
    clear hp hs
    go_wp2
    go_returns
    exact ⟨_, _, rfl, HP2.out, HQ.out⟩
  rw [if_neg hl] at HR
  rw [decide_eq_false hl]
  go_wp2_with fail
  refine Calls.mono (H.primary _ _ _ _ _ HP.out HR.out hnr) ?_
  rintro e we hp
  clear HR
  rcases r with _ | ⟨lr, pr⟩ | ⟨zr, yr, cr, sr⟩
  · exact hp.elim
  · have HF := hid' (FaultP.of_below hp HS.out.below)
    obtain ⟨gb, rfl, _⟩ := hp
    go_wp2
    exact ⟨rfl, HF.out⟩
  obtain ⟨vle, vse, rfl, hp, hs⟩ := hp
  have HQ := hid' (HS.out.then (Nat.le_refl _) hs)
  have HP2 := hid' hp
  clear hp hs
  go_wp2
  go_returns
  exact ⟨_, _, rfl, HP2.out, HQ.out⟩

set_option maxRecDepth 10000 in
set_option maxHeartbeats 1600000 in
theorem ahead0_step {A : Nat → Addr} {B pb : Nat} {ts : List Tok} {tv : Value} {m : Nat} (H : All A B pb ts tv m) : Does A B pb ts tv 160 #[ptr pb, .string (txt sNot), .int .i64 17, bound 145 pb] (.ahead 0) (m + 1) := by
  intro W s vl vs r h hr hnr
  have HR := hid' hr
  have HP := hid' h
  have HS := hid' (Step.refl W.heap.size B pb W vl vs)
  have HLO := hid' h.lowB
  clear hr h
  rw [runF] at HR
  unfold bodyF at HR
  dsimp only at HR
  have hnot : ∀ (x : Bool) (w : World), (Op.unary .not (.bool x)).run Tryz.prog w = .ok (.bool (!x)) w := fun _ _ => rfl
  have hfk := tok_kind
  have hfp := tok_pos
  simp only [if_true] at HR
  unfold ptr bound
  go_enter Tryz.func160, Tryz.ntmps160
  rw [enterF, needF] at HR
  generalize ht1 : ts[PS.at_ s]? = o1 at HR
  rcases o1 with _ | t1
  · exact absurd HR.out.symm hnr
  try dsimp only at HR
  by_cases hl2 : ¬ sg t1 = sNot
  · rw [if_neg hl2] at HR
    go_wp2_with fail
    · refine Calls.mono (enter_miss HP.out t1 ht1 sNot hl2) ?_
      rintro e wb hp
      have HF := hid' (FaultP.of_below hp HS.out.below)
      obtain ⟨gb, rfl, _⟩ := hp
      obtain rfl : R.bad false t1.pos = r := HR.out
      go_wp2
      exact ⟨rfl, HF.out⟩
  rw [Decidable.not_not] at hl2
  rw [if_pos hl2] at HR
  try dsimp only at HR
  by_cases hd4 : PS.deep s = 60
  · rw [if_pos hd4] at HR
    go_wp2_with fail
    · refine Calls.mono (enter_deep HP.out t1 ht1 sNot hl2 hd4) ?_
      rintro e wb hp
      have HF := hid' (FaultP.of_below hp HS.out.below)
      obtain ⟨gb, rfl, _⟩ := hp
      obtain rfl : R.bad true t1.pos = r := HR.out
      go_wp2
      exact ⟨rfl, HF.out⟩
  rw [if_neg hd4] at HR
  go_wp2_with fail
  refine Calls.mono (enter_hit HP.out t1 ht1 sNot hl2 hd4) ?_
  rintro e w6 ⟨rfl, hp, hst⟩
  have hs := hst.step W.heap.size vl vs
  clear hst
  replace HS := hid' (HS.out.then (Nat.le_refl _) hs)
  replace HP := hid' hp
  clear hp hs
  generalize (PS.mk (PS.at_ s + 1) (PS.nodes s) (PS.deep s + 1)) = s6 at HP HR
  go_wp2_with fail
  generalize hq7 : runF ts m .not s6 = r7 at HR
  rcases r7 with _ | ⟨l7, p7⟩ | ⟨z7, y7, c7, s7⟩
  · exact absurd HR.out.symm hnr
  · refine Calls.mono (H.not _ _ _ _ _ HP.out hq7 (by simp)) ?_
    rintro e wb hp
    have HF := hid' (FaultP.of_below hp HS.out.below)
    obtain ⟨gb, rfl, _⟩ := hp
    obtain rfl : R.bad l7 p7 = r := HR.out
    go_wp2
    exact ⟨rfl, HF.out⟩
  refine Calls.mono (H.not _ _ _ _ _ HP.out hq7 (by simp)) ?_
  rintro e w7 ⟨vl7, vs7, rfl, hp, hs⟩
  have hle7 := HS.out.below.size
  replace HS := hid' (HS.out.then (Nat.le_refl _) hs)
  replace HP := hid' hp
  clear hp hs
  dsimp only [R.bind] at HR
  clear hq7
  rw [leaveF] at HR
  by_cases hd9 : PS.deep s7 = 0
  · rw [if_pos hd9] at HR
    exact absurd HR.out.symm hnr
  rw [if_neg hd9] at HR
  go_wp2_with fail
  refine Calls.mono (leave_any HP.out hd9) ?_
  rintro e w10 ⟨rfl, hp, hst⟩
  have hs := hst.step w7.heap.size vl7 vs7
  clear hst
  replace HS := hid' (HS.out.then (Nat.le_refl _) hs)
  replace HP := hid' hp
  clear hp hs
  generalize (PS.mk (PS.at_ s7) (PS.nodes s7) (PS.deep s7 - 1)) = s10 at HP HR
  rw [addF] at HR
  by_cases hn11 : ¬ ((PS.nodes s10).length < 900000 ∧ (List.length ([z7] : List Int)) < 900000)
  · rw [if_neg hn11] at HR
    exact absurd HR.out.symm hnr
  rw [Decidable.not_not] at hn11
  rw [if_pos hn11] at HR
  go_wp2_with fail
  refine Calls.mono (add_lit HP.out 17 _ ⟨#[]⟩ (by decide) [z7] (by simp) _ rfl _ rfl hn11.1) ?_
  rintro e w11 ⟨rfl, vl11, vs11, hp, hs⟩
  replace HS := hid' (HS.out.then (Nat.le_refl _) hs)
  replace HP := hid' hp
  clear hp hs
  generalize hs11 : (PS.mk (PS.at_ s10) (PS.nodes s10 ++ [⟨17, 0, _, ⟨#[]⟩, [z7]⟩]) (PS.deep s10)) = s11 at HP HR
  clear hs11
  obtain rfl := HR.out
  go_wp2
  go_returns
  exact ⟨_, _, rfl, HP.out, HS.out⟩

set_option maxRecDepth 10000 in
set_option maxHeartbeats 1600000 in
theorem ahead1_step {A : Nat → Addr} {B pb : Nat} {ts : List Tok} {tv : Value} {m : Nat} (H : All A B pb ts tv m) : Does A B pb ts tv 160 #[ptr pb, .string (txt [45]), .int .i64 16, bound 189 pb] (.ahead 1) (m + 1) := by
  intro W s vl vs r h hr hnr
  have HR := hid' hr
  have HP := hid' h
  have HS := hid' (Step.refl W.heap.size B pb W vl vs)
  have HLO := hid' h.lowB
  clear hr h
  rw [runF] at HR
  unfold bodyF at HR
  dsimp only at HR
  have hnot : ∀ (x : Bool) (w : World), (Op.unary .not (.bool x)).run Tryz.prog w = .ok (.bool (!x)) w := fun _ _ => rfl
  have hfk := tok_kind
  have hfp := tok_pos
  simp only [if_neg (by decide : ¬ (1 : Nat) = 0)] at HR
  unfold ptr bound
  go_enter Tryz.func160, Tryz.ntmps160
  rw [enterF, needF] at HR
  generalize ht1 : ts[PS.at_ s]? = o1 at HR
  rcases o1 with _ | t1
  · exact absurd HR.out.symm hnr
  try dsimp only at HR
  by_cases hl2 : ¬ sg t1 = [45]
  · rw [if_neg hl2] at HR
    go_wp2_with fail
    · refine Calls.mono (enter_miss HP.out t1 ht1 [45] hl2) ?_
      rintro e wb hp
      have HF := hid' (FaultP.of_below hp HS.out.below)
      obtain ⟨gb, rfl, _⟩ := hp
      obtain rfl : R.bad false t1.pos = r := HR.out
      go_wp2
      exact ⟨rfl, HF.out⟩
  rw [Decidable.not_not] at hl2
  rw [if_pos hl2] at HR
  try dsimp only at HR
  by_cases hd4 : PS.deep s = 60
  · rw [if_pos hd4] at HR
    go_wp2_with fail
    · refine Calls.mono (enter_deep HP.out t1 ht1 [45] hl2 hd4) ?_
      rintro e wb hp
      have HF := hid' (FaultP.of_below hp HS.out.below)
      obtain ⟨gb, rfl, _⟩ := hp
      obtain rfl : R.bad true t1.pos = r := HR.out
      go_wp2
      exact ⟨rfl, HF.out⟩
  rw [if_neg hd4] at HR
  go_wp2_with fail
  refine Calls.mono (enter_hit HP.out t1 ht1 [45] hl2 hd4) ?_
  rintro e w6 ⟨rfl, hp, hst⟩
  have hs := hst.step W.heap.size vl vs
  clear hst
  replace HS := hid' (HS.out.then (Nat.le_refl _) hs)
  replace HP := hid' hp
  clear hp hs
  generalize (PS.mk (PS.at_ s + 1) (PS.nodes s) (PS.deep s + 1)) = s6 at HP HR
  go_wp2_with fail
  generalize hq7 : runF ts m .unary s6 = r7 at HR
  rcases r7 with _ | ⟨l7, p7⟩ | ⟨z7, y7, c7, s7⟩
  · exact absurd HR.out.symm hnr
  · refine Calls.mono (H.unary _ _ _ _ _ HP.out hq7 (by simp)) ?_
    rintro e wb hp
    have HF := hid' (FaultP.of_below hp HS.out.below)
    obtain ⟨gb, rfl, _⟩ := hp
    obtain rfl : R.bad l7 p7 = r := HR.out
    go_wp2
    exact ⟨rfl, HF.out⟩
  refine Calls.mono (H.unary _ _ _ _ _ HP.out hq7 (by simp)) ?_
  rintro e w7 ⟨vl7, vs7, rfl, hp, hs⟩
  have hle7 := HS.out.below.size
  replace HS := hid' (HS.out.then (Nat.le_refl _) hs)
  replace HP := hid' hp
  clear hp hs
  dsimp only [R.bind] at HR
  clear hq7
  rw [leaveF] at HR
  by_cases hd9 : PS.deep s7 = 0
  · rw [if_pos hd9] at HR
    exact absurd HR.out.symm hnr
  rw [if_neg hd9] at HR
  go_wp2_with fail
  refine Calls.mono (leave_any HP.out hd9) ?_
  rintro e w10 ⟨rfl, hp, hst⟩
  have hs := hst.step w7.heap.size vl7 vs7
  clear hst
  replace HS := hid' (HS.out.then (Nat.le_refl _) hs)
  replace HP := hid' hp
  clear hp hs
  generalize (PS.mk (PS.at_ s7) (PS.nodes s7) (PS.deep s7 - 1)) = s10 at HP HR
  rw [addF] at HR
  by_cases hn11 : ¬ ((PS.nodes s10).length < 900000 ∧ (List.length ([z7] : List Int)) < 900000)
  · rw [if_neg hn11] at HR
    exact absurd HR.out.symm hnr
  rw [Decidable.not_not] at hn11
  rw [if_pos hn11] at HR
  go_wp2_with fail
  refine Calls.mono (add_lit HP.out 16 _ ⟨#[]⟩ (by decide) [z7] (by simp) _ rfl _ rfl hn11.1) ?_
  rintro e w11 ⟨rfl, vl11, vs11, hp, hs⟩
  replace HS := hid' (HS.out.then (Nat.le_refl _) hs)
  replace HP := hid' hp
  clear hp hs
  generalize hs11 : (PS.mk (PS.at_ s10) (PS.nodes s10 ++ [⟨16, 0, _, ⟨#[]⟩, [z7]⟩]) (PS.deep s10)) = s11 at HP HR
  clear hs11
  obtain rfl := HR.out
  go_wp2
  go_returns
  exact ⟨_, _, rfl, HP.out, HS.out⟩
end Go.Proofs.YtpjjofdphlgeiaaGreatDoor

namespace Go.Proofs.YtpjjofdphlgeiaaGreatDoor
open Go.RowKit
open Lx Ax Px

theorem orOp_any (l : List UInt8) (w : World) : Calls Tryz.prog 124 #[.string (txt l)] w fun e w' => e = .returned (.int .i64 (opF 0 l)) ∧ w' = w := by
  have f0 := str_is l [111, 114]
  by_cases h0 : l = [111, 114]
  · rw [decide_eq_true h0] at f0
    have hz : opF 0 l = 19 := by rw [h0]; decide
    rw [hz]
    clear hz h0 
    go_enter Tryz.func124, Tryz.ntmps124
    go_wp2
    go_returns
    exact ⟨rfl, rfl⟩
  rw [decide_eq_false h0] at f0
  have hz : opF 0 l = 0 := (if_neg h0).trans (rfl)
  rw [hz]
  clear hz h0
  go_enter Tryz.func124, Tryz.ntmps124
  go_wp2
  go_returns
  exact ⟨rfl, rfl⟩

theorem andOp_any (l : List UInt8) (w : World) : Calls Tryz.prog 146 #[.string (txt l)] w fun e w' => e = .returned (.int .i64 (opF 1 l)) ∧ w' = w := by
  have f0 := str_is l [97, 110, 100]
  by_cases h0 : l = [97, 110, 100]
  · rw [decide_eq_true h0] at f0
    have hz : opF 1 l = 18 := by rw [h0]; decide
    rw [hz]
    clear hz h0 
    go_enter Tryz.func146, Tryz.ntmps146
    go_wp2
    go_returns
    exact ⟨rfl, rfl⟩
  rw [decide_eq_false h0] at f0
  have hz : opF 1 l = 0 := (if_neg h0).trans (rfl)
  rw [hz]
  clear hz h0
  go_enter Tryz.func146, Tryz.ntmps146
  go_wp2
  go_returns
  exact ⟨rfl, rfl⟩

theorem sumOp_any (l : List UInt8) (w : World) : Calls Tryz.prog 183 #[.string (txt l)] w fun e w' => e = .returned (.int .i64 (opF 2 l)) ∧ w' = w := by
  have f0 := str_is l [43]
  have f1 := str_is l [45]
  by_cases h0 : l = [43]
  · rw [decide_eq_true h0] at f0
    have hz : opF 2 l = 21 := by rw [h0]; decide
    rw [hz]
    clear hz h0 f1
    go_enter Tryz.func183, Tryz.ntmps183
    go_wp2
    go_returns
    exact ⟨rfl, rfl⟩
  rw [decide_eq_false h0] at f0
  by_cases h1 : l = [45]
  · rw [decide_eq_true h1] at f1
    have hz : opF 2 l = 22 := by rw [h1]; decide
    rw [hz]
    clear hz h0 h1 
    go_enter Tryz.func183, Tryz.ntmps183
    go_wp2
    go_returns
    exact ⟨rfl, rfl⟩
  rw [decide_eq_false h1] at f1
  have hz : opF 2 l = 0 := (if_neg h0).trans ((if_neg h1).trans (rfl))
  rw [hz]
  clear hz h0 h1
  go_enter Tryz.func183, Tryz.ntmps183
  go_wp2
  go_returns
  exact ⟨rfl, rfl⟩

theorem mulOp_any (l : List UInt8) (w : World) : Calls Tryz.prog 190 #[.string (txt l)] w fun e w' => e = .returned (.int .i64 (opF 3 l)) ∧ w' = w := by
  have f0 := str_is l [42]
  have f1 := str_is l [47, 47]
  have f2 := str_is l [37]
  by_cases h0 : l = [42]
  · rw [decide_eq_true h0] at f0
    have hz : opF 3 l = 23 := by rw [h0]; decide
    rw [hz]
    clear hz h0 f1 f2
    go_enter Tryz.func190, Tryz.ntmps190
    go_wp2
    go_returns
    exact ⟨rfl, rfl⟩
  rw [decide_eq_false h0] at f0
  by_cases h1 : l = [47, 47]
  · rw [decide_eq_true h1] at f1
    have hz : opF 3 l = 24 := by rw [h1]; decide
    rw [hz]
    clear hz h0 h1 f2
    go_enter Tryz.func190, Tryz.ntmps190
    go_wp2
    go_returns
    exact ⟨rfl, rfl⟩
  rw [decide_eq_false h1] at f1
  by_cases h2 : l = [37]
  · rw [decide_eq_true h2] at f2
    have hz : opF 3 l = 25 := by rw [h2]; decide
    rw [hz]
    clear hz h0 h1 h2 
    go_enter Tryz.func190, Tryz.ntmps190
    go_wp2
    go_returns
    exact ⟨rfl, rfl⟩
  rw [decide_eq_false h2] at f2
  have hz : opF 3 l = 0 := (if_neg h0).trans ((if_neg h1).trans ((if_neg h2).trans (rfl)))
  rw [hz]
  clear hz h0 h1 h2
  go_enter Tryz.func190, Tryz.ntmps190
  go_wp2
  go_returns
  exact ⟨rfl, rfl⟩

theorem cmpOp_any (l : List UInt8) (w : World) : Calls Tryz.prog 171 #[.string (txt l)] w fun e w' => e = .returned (.int .i64 (cmpOp l)) ∧ w' = w := by
  have f0 := str_is l [61, 61]
  have f1 := str_is l [33, 61]
  have f2 := str_is l [60]
  have f3 := str_is l [60, 61]
  have f4 := str_is l [62]
  have f5 := str_is l [62, 61]
  have f6 := str_is l [105, 110]
  have f7 := str_is l [110, 111, 116]
  by_cases h0 : l = [61, 61]
  · rw [decide_eq_true h0] at f0
    have hz : cmpOp l = 26 := by rw [h0]; decide
    rw [hz]
    clear hz h0 f1 f2 f3 f4 f5 f6 f7
    go_enter Tryz.func171, Tryz.ntmps171
    go_wp2
    go_returns
    exact ⟨rfl, rfl⟩
  rw [decide_eq_false h0] at f0
  by_cases h1 : l = [33, 61]
  · rw [decide_eq_true h1] at f1
    have hz : cmpOp l = 27 := by rw [h1]; decide
    rw [hz]
    clear hz h0 h1 f2 f3 f4 f5 f6 f7
    go_enter Tryz.func171, Tryz.ntmps171
    go_wp2
    go_returns
    exact ⟨rfl, rfl⟩
  rw [decide_eq_false h1] at f1
  by_cases h2 : l = [60]
  · rw [decide_eq_true h2] at f2
    have hz : cmpOp l = 28 := by rw [h2]; decide
    rw [hz]
    clear hz h0 h1 h2 f3 f4 f5 f6 f7
    go_enter Tryz.func171, Tryz.ntmps171
    go_wp2
    go_returns
    exact ⟨rfl, rfl⟩
  rw [decide_eq_false h2] at f2
  by_cases h3 : l = [60, 61]
  · rw [decide_eq_true h3] at f3
    have hz : cmpOp l = 29 := by rw [h3]; decide
    rw [hz]
    clear hz h0 h1 h2 h3 f4 f5 f6 f7
    go_enter Tryz.func171, Tryz.ntmps171
    go_wp2
    go_returns
    exact ⟨rfl, rfl⟩
  rw [decide_eq_false h3] at f3
  by_cases h4 : l = [62]
  · rw [decide_eq_true h4] at f4
    have hz : cmpOp l = 30 := by rw [h4]; decide
    rw [hz]
    clear hz h0 h1 h2 h3 h4 f5 f6 f7
    go_enter Tryz.func171, Tryz.ntmps171
    go_wp2
    go_returns
    exact ⟨rfl, rfl⟩
  rw [decide_eq_false h4] at f4
  by_cases h5 : l = [62, 61]
  · rw [decide_eq_true h5] at f5
    have hz : cmpOp l = 31 := by rw [h5]; decide
    rw [hz]
    clear hz h0 h1 h2 h3 h4 h5 f6 f7
    go_enter Tryz.func171, Tryz.ntmps171
    go_wp2
    go_returns
    exact ⟨rfl, rfl⟩
  rw [decide_eq_false h5] at f5
  by_cases h6 : l = [105, 110]
  · rw [decide_eq_true h6] at f6
    have hz : cmpOp l = 32 := by rw [h6]; decide
    rw [hz]
    clear hz h0 h1 h2 h3 h4 h5 h6 f7
    go_enter Tryz.func171, Tryz.ntmps171
    go_wp2
    go_returns
    exact ⟨rfl, rfl⟩
  rw [decide_eq_false h6] at f6
  by_cases h7 : l = [110, 111, 116]
  · rw [decide_eq_true h7] at f7
    have hz : cmpOp l = 33 := by rw [h7]; decide
    rw [hz]
    clear hz h0 h1 h2 h3 h4 h5 h6 h7 
    go_enter Tryz.func171, Tryz.ntmps171
    go_wp2
    go_returns
    exact ⟨rfl, rfl⟩
  rw [decide_eq_false h7] at f7
  have hz : cmpOp l = 0 := (if_neg h0).trans ((if_neg h1).trans ((if_neg h2).trans ((if_neg h3).trans ((if_neg h4).trans ((if_neg h5).trans ((if_neg h6).trans ((if_neg h7).trans (rfl))))))))
  rw [hz]
  clear hz h0 h1 h2 h3 h4 h5 h6 h7
  go_enter Tryz.func171, Tryz.ntmps171
  go_wp2
  go_returns
  exact ⟨rfl, rfl⟩
end Go.Proofs.YtpjjofdphlgeiaaGreatDoor

namespace Go.Proofs.YtpjjofdphlgeiaaGreatDoor
open Go.RowKit
open Lx Ax Px

set_option maxRecDepth 10000 in
set_option maxHeartbeats 1600000 in
theorem binary_step {A : Nat → Addr} {B pb : Nat} {ts : List Tok} {tv : Value} {m : Nat} (k : Nat) (fo fp : FuncId) (hcp : ∀ args w, (callFunc fp args).run Tryz.prog w = .ok (.enter fp args) w) (hco : ∀ args w, (callFunc fo args).run Tryz.prog w = .ok (.enter fo args) w) (hop : ∀ (l : List UInt8) (w : World), Calls Tryz.prog fo #[.string (txt l)] w fun e w' => e = .returned (.int .i64 (opF k l)) ∧ w' = w) (hpart : ∀ j, j ≤ m → Does A B pb ts tv fp #[ptr pb] (partF k) j) : Does A B pb ts tv 122 #[ptr pb, bound fp pb, .func (.func fo) #[] #[]] (.bin k) (m + 1) := by
  intro W s vl vs r h hr hnr
  have HR := hid' hr
  have HP := hid' h
  have HS := hid' (Step.refl W.heap.size B pb W vl vs)
  have HLO := hid' h.lowB
  clear hr h
  rw [runF] at HR
  unfold bodyF at HR
  dsimp only at HR
  have hnot : ∀ (x : Bool) (w : World), (Op.unary .not (.bool x)).run Tryz.prog w = .ok (.bool (!x)) w := fun _ _ => rfl
  have hfk := tok_kind
  have hfp := tok_pos
  unfold ptr bound
  go_enter Tryz.func122, Tryz.ntmps122
  go_wp2_with fail
  generalize hq1 : runF ts m (partF k) s = r1 at HR
  rcases r1 with _ | ⟨l1, p1⟩ | ⟨z1, y1, c1, s1⟩
  · exact absurd HR.out.symm hnr
  · refine Calls.mono (hpart m (Nat.le_refl _) _ _ _ _ _ HP.out hq1 (by simp)) ?_
    rintro e wb hp
    have HF := hid' (FaultP.of_below hp HS.out.below)
    obtain ⟨gb, rfl, _⟩ := hp
    obtain rfl : R.bad l1 p1 = r := HR.out
    go_wp2
    exact ⟨rfl, HF.out⟩
  refine Calls.mono (hpart m (Nat.le_refl _) _ _ _ _ _ HP.out hq1 (by simp)) ?_
  rintro e w1 ⟨vl1, vs1, rfl, hp, hs⟩
  have hle1 := HS.out.below.size
  replace HS := hid' (HS.out.then (Nat.le_refl _) hs)
  replace HP := hid' hp
  clear hp hs
  dsimp only [R.bind] at HR
  clear hq1
  go_wp2_with fail
  go_loopg [7] m (fun gk u7 wr => ∃ z sr vlr vsr, gk ≤ m ∧ u7 = .int .i64 z ∧ Hid (PV A B pb ts tv wr sr vlr vsr) ∧ Hid (Step W.heap.size B pb W vl vs wr vlr vsr) ∧ Hid (runF ts gk (.binLoop k z) sr = r))
  case atStart => exact ⟨z1, s1, vl1, vs1, Nat.le_refl _, rfl, HP, HS, HR⟩
  case round =>
    obtain ⟨z, sr, vlr, vsr, hgk, rfl, HPr, HSr, HRr⟩ := hrel
    clear HP HS HR
    have HP := HPr
    have HS := HSr
    have HR := HRr
    clear HPr HSr HRr
    rcases gk with _ | j
    · exact absurd HR.out.symm hnr
    rw [runF] at HR
    unfold bodyF at HR
    try dsimp only at HR
    rw [Px.signF] at HR
    generalize ht3 : ts[PS.at_ sr]? = o3 at HR
    rcases o3 with _ | t3
    · exact absurd HR.out.symm hnr
    try dsimp only at HR
    go_wp2_with fail
    refine Calls.mono (p_sign_any HP.out t3 ht3) ?_
    rintro e w4 ⟨rfl, b⟩
    have hp := HP.out.low b
    have hs := Step.low (n := wr.heap.size) HP.out b
    clear b
    replace HS := hid' (HS.out.then (Nat.le_refl _) hs)
    replace HP := hid' hp
    clear hp hs
    go_wp2_with fail
    refine Calls.mono (hop (sg t3) _) ?_
    rintro e wo ⟨rfl, hwo⟩
    rw [hwo]
    clear hwo wo
    by_cases hz : opF k (sg t3) = 0
    · rw [if_pos hz] at HR
      rw [hz]
      obtain rfl := HR.out
      go_wp2
      go_returns
      exact ⟨_, _, rfl, HP.out, HS.out⟩
    rw [if_neg hz] at HR
    generalize opF k (sg t3) = op at HR hz
    have hzz : (op == 0) = false := by simpa using hz
    clear hz
    rw [nextF] at HR
    rw [ht3] at HR
    try dsimp only at HR
    go_wp2_with fail
    refine Calls.mono (next_any HP.out t3 ht3) ?_
    rintro e w5 ⟨rfl, hp, hst⟩
    have hs := hst.step w4.heap.size vlr vsr
    clear hst
    replace HS := hid' (HS.out.then (Nat.le_refl _) hs)
    replace HP := hid' hp
    clear hp hs
    generalize (PS.mk (PS.at_ sr + 1) (PS.nodes sr) (PS.deep sr)) = s5 at HP HR
    go_wp2_with fail
    generalize hq6 : runF ts j (partF k) s5 = r6 at HR
    rcases r6 with _ | ⟨l6, p6⟩ | ⟨z6, y6, c6, s6⟩
    · exact absurd HR.out.symm hnr
    · refine Calls.mono (hpart j (by omega) _ _ _ _ _ HP.out hq6 (by simp)) ?_
      rintro e wb hp
      have HF := hid' (FaultP.of_below hp HS.out.below)
      obtain ⟨gb, rfl, _⟩ := hp
      obtain rfl : R.bad l6 p6 = r := HR.out
      go_wp2
      exact ⟨rfl, HF.out⟩
    refine Calls.mono (hpart j (by omega) _ _ _ _ _ HP.out hq6 (by simp)) ?_
    rintro e w6 ⟨vl6, vs6, rfl, hp, hs⟩
    have hle6 := HS.out.below.size
    replace HS := hid' (HS.out.then (Nat.le_refl _) hs)
    replace HP := hid' hp
    clear hp hs
    dsimp only [R.bind] at HR
    clear hq6
    rw [addF] at HR
    by_cases hn8 : ¬ ((PS.nodes s6).length < 900000 ∧ (List.length ([z, z6] : List Int)) < 900000)
    · rw [if_neg hn8] at HR
      exact absurd HR.out.symm hnr
    rw [Decidable.not_not] at hn8
    rw [if_pos hn8] at HR
    go_wp2_with fail
    refine Calls.mono (add_lit HP.out op _ ⟨#[]⟩ (by decide) [z, z6] (by simp) _ rfl _ rfl hn8.1) ?_
    rintro e w8 ⟨rfl, vl8, vs8, hp, hs⟩
    replace HS := hid' (HS.out.then (Nat.le_refl _) hs)
    replace HP := hid' hp
    clear hp hs
    generalize hs8 : (PS.mk (PS.at_ s6) (PS.nodes s6 ++ [⟨op, 0, _, ⟨#[]⟩, [z, z6]⟩]) (PS.deep s6)) = s8 at HP HR
    clear hs8
    go_wp2
    go_roundg j
    case measure => omega
    case rel => exact ⟨_, _, _, _, by omega, rfl, HP, HS, HR⟩
end Go.Proofs.YtpjjofdphlgeiaaGreatDoor

namespace Go.Proofs.YtpjjofdphlgeiaaGreatDoor
open Go.RowKit
open Lx Ax Px

set_option maxRecDepth 10000 in
set_option maxHeartbeats 1600000 in
theorem or_step {A : Nat → Addr} {B pb : Nat} {ts : List Tok} {tv : Value} {m : Nat} (H : ∀ j, j ≤ m → All A B pb ts tv j) : Does A B pb ts tv 100 #[ptr pb] (.bin 0) (m + 1) := by
  intro W s vl vs r h hr hnr
  have HR := hid' hr
  have HP := hid' h
  have HS := hid' (Step.refl W.heap.size B pb W vl vs)
  have HLO := hid' h.lowB
  clear hr h
  have hmf : ∀ (fn : Fn) (first cap : Array Value) (w : World), (Instr.makeFunc fn first cap).run Tryz.prog w = .ok (.func fn first cap) w := fun _ _ _ _ => rfl
  unfold ptr
  go_enter Tryz.func100, Tryz.ntmps100
  go_wp2_with fail
  refine Calls.mono (binary_step 0 124 123 (fun _ _ => rfl) (fun _ _ => rfl) orOp_any (fun j hj => (H j hj).and) _ _ _ _ _ HP.out HR.out hnr) ?_
  rintro e we hp
  clear HR
  rcases r with _ | ⟨lr, pr⟩ | ⟨zr, yr, cr, sr⟩
  · exact hp.elim
  · have HF := hid' (FaultP.of_below hp HS.out.below)
    obtain ⟨gb, rfl, _⟩ := hp
    go_wp2
    exact ⟨rfl, HF.out⟩
  obtain ⟨vle, vse, rfl, hp, hs⟩ := hp
  have HQ := hid' (HS.out.then (Nat.le_refl _) hs)
  have HP2 := hid' hp
  clear hp hs
  go_wp2
  go_returns
  exact ⟨_, _, rfl, HP2.out, HQ.out⟩

set_option maxRecDepth 10000 in
set_option maxHeartbeats 1600000 in
theorem and_step {A : Nat → Addr} {B pb : Nat} {ts : List Tok} {tv : Value} {m : Nat} (H : ∀ j, j ≤ m → All A B pb ts tv j) : Does A B pb ts tv 123 #[ptr pb] (.bin 1) (m + 1) := by
  intro W s vl vs r h hr hnr
  have HR := hid' hr
  have HP := hid' h
  have HS := hid' (Step.refl W.heap.size B pb W vl vs)
  have HLO := hid' h.lowB
  clear hr h
  have hmf : ∀ (fn : Fn) (first cap : Array Value) (w : World), (Instr.makeFunc fn first cap).run Tryz.prog w = .ok (.func fn first cap) w := fun _ _ _ _ => rfl
  unfold ptr
  go_enter Tryz.func123, Tryz.ntmps123
  go_wp2_with fail
  refine Calls.mono (binary_step 1 146 145 (fun _ _ => rfl) (fun _ _ => rfl) andOp_any (fun j hj => (H j hj).not) _ _ _ _ _ HP.out HR.out hnr) ?_
  rintro e we hp
  clear HR
  rcases r with _ | ⟨lr, pr⟩ | ⟨zr, yr, cr, sr⟩
  · exact hp.elim
  · have HF := hid' (FaultP.of_below hp HS.out.below)
    obtain ⟨gb, rfl, _⟩ := hp
    go_wp2
    exact ⟨rfl, HF.out⟩
  obtain ⟨vle, vse, rfl, hp, hs⟩ := hp
  have HQ := hid' (HS.out.then (Nat.le_refl _) hs)
  have HP2 := hid' hp
  clear hp hs
  go_wp2
  go_returns
  exact ⟨_, _, rfl, HP2.out, HQ.out⟩

set_option maxRecDepth 10000 in
set_option maxHeartbeats 1600000 in
theorem sum_step {A : Nat → Addr} {B pb : Nat} {ts : List Tok} {tv : Value} {m : Nat} (H : ∀ j, j ≤ m → All A B pb ts tv j) : Does A B pb ts tv 170 #[ptr pb] (.bin 2) (m + 1) := by
  intro W s vl vs r h hr hnr
  have HR := hid' hr
  have HP := hid' h
  have HS := hid' (Step.refl W.heap.size B pb W vl vs)
  have HLO := hid' h.lowB
  clear hr h
  have hmf : ∀ (fn : Fn) (first cap : Array Value) (w : World), (Instr.makeFunc fn first cap).run Tryz.prog w = .ok (.func fn first cap) w := fun _ _ _ _ => rfl
  unfold ptr
  go_enter Tryz.func170, Tryz.ntmps170
  go_wp2_with fail
  refine Calls.mono (binary_step 2 183 182 (fun _ _ => rfl) (fun _ _ => rfl) sumOp_any (fun j hj => (H j hj).product) _ _ _ _ _ HP.out HR.out hnr) ?_
  rintro e we hp
  clear HR
  rcases r with _ | ⟨lr, pr⟩ | ⟨zr, yr, cr, sr⟩
  · exact hp.elim
  · have HF := hid' (FaultP.of_below hp HS.out.below)
    obtain ⟨gb, rfl, _⟩ := hp
    go_wp2
    exact ⟨rfl, HF.out⟩
  obtain ⟨vle, vse, rfl, hp, hs⟩ := hp
  have HQ := hid' (HS.out.then (Nat.le_refl _) hs)
  have HP2 := hid' hp
  clear hp hs
  go_wp2
  go_returns
  exact ⟨_, _, rfl, HP2.out, HQ.out⟩

set_option maxRecDepth 10000 in
set_option maxHeartbeats 1600000 in
theorem product_step {A : Nat → Addr} {B pb : Nat} {ts : List Tok} {tv : Value} {m : Nat} (H : ∀ j, j ≤ m → All A B pb ts tv j) : Does A B pb ts tv 182 #[ptr pb] (.bin 3) (m + 1) := by
  intro W s vl vs r h hr hnr
  have HR := hid' hr
  have HP := hid' h
  have HS := hid' (Step.refl W.heap.size B pb W vl vs)
  have HLO := hid' h.lowB
  clear hr h
  have hmf : ∀ (fn : Fn) (first cap : Array Value) (w : World), (Instr.makeFunc fn first cap).run Tryz.prog w = .ok (.func fn first cap) w := fun _ _ _ _ => rfl
  unfold ptr
  go_enter Tryz.func182, Tryz.ntmps182
  go_wp2_with fail
  refine Calls.mono (binary_step 3 190 189 (fun _ _ => rfl) (fun _ _ => rfl) mulOp_any (fun j hj => (H j hj).unary) _ _ _ _ _ HP.out HR.out hnr) ?_
  rintro e we hp
  clear HR
  rcases r with _ | ⟨lr, pr⟩ | ⟨zr, yr, cr, sr⟩
  · exact hp.elim
  · have HF := hid' (FaultP.of_below hp HS.out.below)
    obtain ⟨gb, rfl, _⟩ := hp
    go_wp2
    exact ⟨rfl, HF.out⟩
  obtain ⟨vle, vse, rfl, hp, hs⟩ := hp
  have HQ := hid' (HS.out.then (Nat.le_refl _) hs)
  have HP2 := hid' hp
  clear hp hs
  go_wp2
  go_returns
  exact ⟨_, _, rfl, HP2.out, HQ.out⟩
end Go.Proofs.YtpjjofdphlgeiaaGreatDoor

namespace Go.Proofs.YtpjjofdphlgeiaaGreatDoor
open Go.RowKit
open Lx Ax Px

set_option maxRecDepth 10000 in
set_option maxHeartbeats 6400000 in
theorem compare_step {A : Nat → Addr} {B pb : Nat} {ts : List Tok} {tv : Value} {m : Nat} (H : All A B pb ts tv m) : Does A B pb ts tv 159 #[ptr pb] .compare (m + 1) := by
  intro W s vl vs r h hr hnr
  have HR := hid' hr
  have HP := hid' h
  have HS := hid' (Step.refl W.heap.size B pb W vl vs)
  have HLO := hid' h.lowB
  clear hr h
  rw [runF] at HR
  unfold bodyF at HR
  dsimp only at HR
  have hnot : ∀ (x : Bool) (w : World), (Op.unary .not (.bool x)).run Tryz.prog w = .ok (.bool (!x)) w := fun _ _ => rfl
  have hfk := tok_kind
  have hfp := tok_pos
  unfold ptr
  go_enter Tryz.func159, Tryz.ntmps159
  go_wp2_with fail
  generalize hq1 : runF ts m (.bin 2) s = r1 at HR
  rcases r1 with _ | ⟨l1, p1⟩ | ⟨z1, y1, c1, s1⟩
  · exact absurd HR.out.symm hnr
  · refine Calls.mono (H.sum _ _ _ _ _ HP.out hq1 (by simp)) ?_
    rintro e wb hp
    have HF := hid' (FaultP.of_below hp HS.out.below)
    obtain ⟨gb, rfl, _⟩ := hp
    obtain rfl : R.bad l1 p1 = r := HR.out
    go_wp2
    exact ⟨rfl, HF.out⟩
  refine Calls.mono (H.sum _ _ _ _ _ HP.out hq1 (by simp)) ?_
  rintro e w1 ⟨vl1, vs1, rfl, hp, hs⟩
  have hle1 := HS.out.below.size
  replace HS := hid' (HS.out.then (Nat.le_refl _) hs)
  replace HP := hid' hp
  clear hp hs
  dsimp only [R.bind] at HR
  clear hq1
  rw [Px.signF] at HR
  generalize ht3 : ts[PS.at_ s1]? = o3 at HR
  rcases o3 with _ | t3
  · exact absurd HR.out.symm hnr
  try dsimp only at HR
  go_wp2_with fail
  refine Calls.mono (p_sign_any HP.out t3 ht3) ?_
  rintro e w4 ⟨rfl, b⟩
  have hp := HP.out.low b
  have hs := Step.low (n := w1.heap.size) HP.out b
  clear b
  replace HS := hid' (HS.out.then (Nat.le_refl _) hs)
  replace HP := hid' hp
  clear hp hs
  go_wp2_with fail
  refine Calls.mono (cmpOp_any (sg t3) _) ?_
  rintro e wo ⟨rfl, hwo⟩
  rw [hwo]
  clear hwo wo
  by_cases hz : cmpOp (sg t3) = 0
  · rw [if_pos hz] at HR
    rw [hz]
    obtain rfl := HR.out
    go_wp2
    go_returns
    exact ⟨_, _, rfl, HP.out, HS.out⟩
  rw [if_neg hz] at HR
  generalize cmpOp (sg t3) = op at HR hz
  have hzz : (op == 0) = false := by simpa using hz
  clear hz
  rw [nextF] at HR
  rw [ht3] at HR
  try dsimp only at HR
  go_wp2_with fail
  refine Calls.mono (next_any HP.out t3 ht3) ?_
  rintro e w5 ⟨rfl, hp, hst⟩
  have hs := hst.step w4.heap.size vl1 vs1
  clear hst
  replace HS := hid' (HS.out.then (Nat.le_refl _) hs)
  replace HP := hid' hp
  clear hp hs
  generalize (PS.mk (PS.at_ s1 + 1) (PS.nodes s1) (PS.deep s1)) = s5 at HP HR
  by_cases hop : op = 33
  · rw [if_pos hop] at HR
    subst hop
    clear hzz
    rw [needF] at HR
    generalize ht6 : ts[PS.at_ s5]? = o6 at HR
    rcases o6 with _ | t6
    · exact absurd HR.out.symm hnr
    try dsimp only at HR
    by_cases hl7 : ¬ sg t6 = sIn
    · rw [if_neg hl7] at HR
      go_wp2_with fail
      · refine Calls.mono (need_miss HP.out t6 ht6 sIn hl7) ?_
        rintro e wb hp
        have HF := hid' (FaultP.of_below hp HS.out.below)
        obtain ⟨gb, rfl, _⟩ := hp
        obtain rfl : R.bad false t6.pos = r := HR.out
        go_wp2
        exact ⟨rfl, HF.out⟩
    rw [Decidable.not_not] at hl7
    rw [if_pos hl7] at HR
    go_wp2_with fail
    refine Calls.mono (need_hit HP.out t6 ht6 sIn hl7) ?_
    rintro e w9 ⟨rfl, hp, hst⟩
    have hs := hst.step w5.heap.size vl1 vs1
    clear hst
    replace HS := hid' (HS.out.then (Nat.le_refl _) hs)
    replace HP := hid' hp
    clear hp hs
    generalize (PS.mk (PS.at_ s5 + 1) (PS.nodes s5) (PS.deep s5)) = s9 at HP HR
    go_wp2_with fail
    generalize hq10 : runF ts m (.bin 2) s9 = r10 at HR
    rcases r10 with _ | ⟨l10, p10⟩ | ⟨z10, y10, c10, s10⟩
    · exact absurd HR.out.symm hnr
    · refine Calls.mono (H.sum _ _ _ _ _ HP.out hq10 (by simp)) ?_
      rintro e wb hp
      have HF := hid' (FaultP.of_below hp HS.out.below)
      obtain ⟨gb, rfl, _⟩ := hp
      obtain rfl : R.bad l10 p10 = r := HR.out
      go_wp2
      exact ⟨rfl, HF.out⟩
    refine Calls.mono (H.sum _ _ _ _ _ HP.out hq10 (by simp)) ?_
    rintro e w10 ⟨vl10, vs10, rfl, hp, hs⟩
    have hle10 := HS.out.below.size
    replace HS := hid' (HS.out.then (Nat.le_refl _) hs)
    replace HP := hid' hp
    clear hp hs
    dsimp only [R.bind] at HR
    clear hq10
    rw [addF] at HR
    by_cases hn12 : ¬ ((PS.nodes s10).length < 900000 ∧ (List.length ([z1, z10] : List Int)) < 900000)
    · rw [if_neg hn12] at HR
      exact absurd HR.out.symm hnr
    rw [Decidable.not_not] at hn12
    rw [if_pos hn12] at HR
    go_wp2_with fail
    refine Calls.mono (add_lit HP.out 33 _ ⟨#[]⟩ (by decide) [z1, z10] (by simp) _ rfl _ rfl hn12.1) ?_
    rintro e w12 ⟨rfl, vl12, vs12, hp, hs⟩
    replace HS := hid' (HS.out.then (Nat.le_refl _) hs)
    replace HP := hid' hp
    clear hp hs
    generalize hs12 : (PS.mk (PS.at_ s10) (PS.nodes s10 ++ [⟨33, 0, _, ⟨#[]⟩, [z1, z10]⟩]) (PS.deep s10)) = s12 at HP HR
    clear hs12
    obtain rfl := HR.out
    go_wp2
    go_returns
    exact ⟨_, _, rfl, HP.out, HS.out⟩
  rw [if_neg hop] at HR
  have hop2 : (op == 33) = false := by simpa using hop
  clear hop
  go_wp2_with fail
  generalize hq13 : runF ts m (.bin 2) s5 = r13 at HR
  rcases r13 with _ | ⟨l13, p13⟩ | ⟨z13, y13, c13, s13⟩
  · exact absurd HR.out.symm hnr
  · refine Calls.mono (H.sum _ _ _ _ _ HP.out hq13 (by simp)) ?_
    rintro e wb hp
    have HF := hid' (FaultP.of_below hp HS.out.below)
    obtain ⟨gb, rfl, _⟩ := hp
    obtain rfl : R.bad l13 p13 = r := HR.out
    go_wp2
    exact ⟨rfl, HF.out⟩
  refine Calls.mono (H.sum _ _ _ _ _ HP.out hq13 (by simp)) ?_
  rintro e w13 ⟨vl13, vs13, rfl, hp, hs⟩
  have hle13 := HS.out.below.size
  replace HS := hid' (HS.out.then (Nat.le_refl _) hs)
  replace HP := hid' hp
  clear hp hs
  dsimp only [R.bind] at HR
  clear hq13
  rw [addF] at HR
  by_cases hn15 : ¬ ((PS.nodes s13).length < 900000 ∧ (List.length ([z1, z13] : List Int)) < 900000)
  · rw [if_neg hn15] at HR
    exact absurd HR.out.symm hnr
  rw [Decidable.not_not] at hn15
  rw [if_pos hn15] at HR
  go_wp2_with fail
  refine Calls.mono (add_lit HP.out op _ ⟨#[]⟩ (by decide) [z1, z13] (by simp) _ rfl _ rfl hn15.1) ?_
  rintro e w15 ⟨rfl, vl15, vs15, hp, hs⟩
  replace HS := hid' (HS.out.then (Nat.le_refl _) hs)
  replace HP := hid' hp
  clear hp hs
  generalize hs15 : (PS.mk (PS.at_ s13) (PS.nodes s13 ++ [⟨op, 0, _, ⟨#[]⟩, [z1, z13]⟩]) (PS.deep s13)) = s15 at HP HR
  clear hs15
  obtain rfl := HR.out
  go_wp2
  go_returns
  exact ⟨_, _, rfl, HP.out, HS.out⟩
end Go.Proofs.YtpjjofdphlgeiaaGreatDoor

namespace Go.Proofs.YtpjjofdphlgeiaaGreatDoor
open Go.RowKit
open Lx Ax Px

set_option maxRecDepth 10000 in
set_option maxHeartbeats 6400000 in
theorem begins_any {A : Nat → Addr} {B pb : Nat} {ts : List Tok} {tv : Value} {W : World} {s : PS} {vl : Value} {vs : List Value} (h : PV A B pb ts tv W s vl vs) (t : Tok) (ht : ts[s.at_]? = some t) :
    Calls Tryz.prog 92 #[.pointer (some ⟨pb, 0, none⟩)] W fun e w' => e = .returned (.bool (begins (sg t) t.kind)) ∧ Below W.heap.size W w' := by
  have HT := hid' (p_token_any h t ht)
  have HX := fun W' (hb : Below W.heap.size W W') => hid' (p_sign_any (h.low hb) t ht)
  have hfk := tok_kind
  clear h ht
  by_cases k1 : t.kind = 1
  · have hz : begins (sg t) t.kind = true := by unfold begins; simp [k1]
    rw [hz]
    rw [k1] at HT
    clear hz
    go_enter Tryz.func92, Tryz.ntmps92
    go_wp2_with fail
    refine Calls.mono HT.out ?_
    rintro e w2 ⟨rfl, b2⟩
    go_wp2
    go_returns
    exact ⟨rfl, b2⟩
  have q1 : ((t.kind : Int) == 1) = false := by simp; omega
  by_cases k2 : t.kind = 2
  · have hz : begins (sg t) t.kind = true := by unfold begins; simp [k2]
    rw [hz]
    rw [k2] at HT
    clear hz
    go_enter Tryz.func92, Tryz.ntmps92
    go_wp2_with fail
    refine Calls.mono HT.out ?_
    rintro e w2 ⟨rfl, b2⟩
    go_wp2
    go_returns
    exact ⟨rfl, b2⟩
  have q2 : ((t.kind : Int) == 2) = false := by simp; omega
  by_cases k3 : t.kind = 3
  · have hz : begins (sg t) t.kind = true := by unfold begins; simp [k3]
    rw [hz]
    rw [k3] at HT
    clear hz
    go_enter Tryz.func92, Tryz.ntmps92
    go_wp2_with fail
    refine Calls.mono HT.out ?_
    rintro e w2 ⟨rfl, b2⟩
    go_wp2
    go_returns
    exact ⟨rfl, b2⟩
  have q3 : ((t.kind : Int) == 3) = false := by simp; omega
  generalize hl : sg t = l at HX
  have f0 := str_is l sNot
  have f1 := str_is l [45]
  have f2 := str_is l sNone
  have f3 := str_is l sTrue
  have f4 := str_is l sFalse
  have f5 := str_is l [40]
  have f6 := str_is l [91]
  have f7 := str_is l [123]
  unfold sNot at f0
  unfold sNone at f2
  unfold sTrue at f3
  unfold sFalse at f4
  by_cases h0 : l = [110, 111, 116]
  · rw [decide_eq_true h0] at f0
    have hz : begins l t.kind = true := by unfold begins sNot sNone sTrue sFalse; simp [h0]
    rw [hz]
    clear hz hl h0 f1 f2 f3 f4 f5 f6 f7
    go_enter Tryz.func92, Tryz.ntmps92
    go_wp2_with fail
    refine Calls.mono HT.out ?_
    rintro e w2 ⟨rfl, b2⟩
    go_wp2_with fail
    refine Calls.mono (HX _ b2).out ?_
    rintro e w3 ⟨rfl, b3⟩
    have b2 := Below.thenB b2 b3
    go_wp2
    go_returns
    exact ⟨rfl, b2⟩
  rw [decide_eq_false h0] at f0
  by_cases h1 : l = [45]
  · rw [decide_eq_true h1] at f1
    have hz : begins l t.kind = true := by unfold begins sNot sNone sTrue sFalse; simp [h1]
    rw [hz]
    clear hz hl h0 h1 f2 f3 f4 f5 f6 f7
    go_enter Tryz.func92, Tryz.ntmps92
    go_wp2_with fail
    refine Calls.mono HT.out ?_
    rintro e w2 ⟨rfl, b2⟩
    go_wp2_with fail
    refine Calls.mono (HX _ b2).out ?_
    rintro e w3 ⟨rfl, b3⟩
    have b2 := Below.thenB b2 b3
    go_wp2
    go_returns
    exact ⟨rfl, b2⟩
  rw [decide_eq_false h1] at f1
  by_cases h2 : l = [78, 111, 110, 101]
  · rw [decide_eq_true h2] at f2
    have hz : begins l t.kind = true := by unfold begins sNot sNone sTrue sFalse; simp [h2]
    rw [hz]
    clear hz hl h0 h1 h2 f3 f4 f5 f6 f7
    go_enter Tryz.func92, Tryz.ntmps92
    go_wp2_with fail
    refine Calls.mono HT.out ?_
    rintro e w2 ⟨rfl, b2⟩
    go_wp2_with fail
    refine Calls.mono (HX _ b2).out ?_
    rintro e w3 ⟨rfl, b3⟩
    have b2 := Below.thenB b2 b3
    go_wp2
    go_returns
    exact ⟨rfl, b2⟩
  rw [decide_eq_false h2] at f2
  by_cases h3 : l = [84, 114, 117, 101]
  · rw [decide_eq_true h3] at f3
    have hz : begins l t.kind = true := by unfold begins sNot sNone sTrue sFalse; simp [h3]
    rw [hz]
    clear hz hl h0 h1 h2 h3 f4 f5 f6 f7
    go_enter Tryz.func92, Tryz.ntmps92
    go_wp2_with fail
    refine Calls.mono HT.out ?_
    rintro e w2 ⟨rfl, b2⟩
    go_wp2_with fail
    refine Calls.mono (HX _ b2).out ?_
    rintro e w3 ⟨rfl, b3⟩
    have b2 := Below.thenB b2 b3
    go_wp2
    go_returns
    exact ⟨rfl, b2⟩
  rw [decide_eq_false h3] at f3
  by_cases h4 : l = [70, 97, 108, 115, 101]
  · rw [decide_eq_true h4] at f4
    have hz : begins l t.kind = true := by unfold begins sNot sNone sTrue sFalse; simp [h4]
    rw [hz]
    clear hz hl h0 h1 h2 h3 h4 f5 f6 f7
    go_enter Tryz.func92, Tryz.ntmps92
    go_wp2_with fail
    refine Calls.mono HT.out ?_
    rintro e w2 ⟨rfl, b2⟩
    go_wp2_with fail
    refine Calls.mono (HX _ b2).out ?_
    rintro e w3 ⟨rfl, b3⟩
    have b2 := Below.thenB b2 b3
    go_wp2
    go_returns
    exact ⟨rfl, b2⟩
  rw [decide_eq_false h4] at f4
  by_cases h5 : l = [40]
  · rw [decide_eq_true h5] at f5
    have hz : begins l t.kind = true := by unfold begins sNot sNone sTrue sFalse; simp [h5]
    rw [hz]
    clear hz hl h0 h1 h2 h3 h4 h5 f6 f7
    go_enter Tryz.func92, Tryz.ntmps92
    go_wp2_with fail
    refine Calls.mono HT.out ?_
    rintro e w2 ⟨rfl, b2⟩
    go_wp2_with fail
    refine Calls.mono (HX _ b2).out ?_
    rintro e w3 ⟨rfl, b3⟩
    have b2 := Below.thenB b2 b3
    go_wp2
    go_returns
    exact ⟨rfl, b2⟩
  rw [decide_eq_false h5] at f5
  by_cases h6 : l = [91]
  · rw [decide_eq_true h6] at f6
    have hz : begins l t.kind = true := by unfold begins sNot sNone sTrue sFalse; simp [h6]
    rw [hz]
    clear hz hl h0 h1 h2 h3 h4 h5 h6 f7
    go_enter Tryz.func92, Tryz.ntmps92
    go_wp2_with fail
    refine Calls.mono HT.out ?_
    rintro e w2 ⟨rfl, b2⟩
    go_wp2_with fail
    refine Calls.mono (HX _ b2).out ?_
    rintro e w3 ⟨rfl, b3⟩
    have b2 := Below.thenB b2 b3
    go_wp2
    go_returns
    exact ⟨rfl, b2⟩
  rw [decide_eq_false h6] at f6
  by_cases h7 : l = [123]
  · rw [decide_eq_true h7] at f7
    have hz : begins l t.kind = true := by unfold begins sNot sNone sTrue sFalse; simp [h7]
    rw [hz]
    clear hz hl h0 h1 h2 h3 h4 h5 h6 h7 
    go_enter Tryz.func92, Tryz.ntmps92
    go_wp2_with fail
    refine Calls.mono HT.out ?_
    rintro e w2 ⟨rfl, b2⟩
    go_wp2_with fail
    refine Calls.mono (HX _ b2).out ?_
    rintro e w3 ⟨rfl, b3⟩
    have b2 := Below.thenB b2 b3
    go_wp2
    go_returns
    exact ⟨rfl, b2⟩
  rw [decide_eq_false h7] at f7
  have hz : begins l t.kind = false := by unfold begins sNot sNone sTrue sFalse; simp [k1, k2, k3, h0, h1, h2, h3, h4, h5, h6, h7]
  rw [hz]
  clear hz hl h0 h1 h2 h3 h4 h5 h6 h7
  go_enter Tryz.func92, Tryz.ntmps92
  go_wp2_with fail
  refine Calls.mono HT.out ?_
  rintro e w2 ⟨rfl, b2⟩
  go_wp2_with fail
  refine Calls.mono (HX _ b2).out ?_
  rintro e w3 ⟨rfl, b3⟩
  have b2 := Below.thenB b2 b3
  go_wp2
  go_returns
  exact ⟨rfl, b2⟩
end Go.Proofs.YtpjjofdphlgeiaaGreatDoor

namespace Go.Proofs.YtpjjofdphlgeiaaGreatDoor
open Go.RowKit
open Lx Ax Px

set_option maxRecDepth 10000 in
set_option maxHeartbeats 3200000 in
theorem primary_step {A : Nat → Addr} {B pb : Nat} {ts : List Tok} {tv : Value} {m : Nat} (H : ∀ j, j ≤ m → All A B pb ts tv j) : Does A B pb ts tv 148 #[ptr pb] .primary (m + 1) := by
  intro W s vl vs r h hr hnr
  have HR := hid' hr
  have HP := hid' h
  have HS := hid' (Step.refl W.heap.size B pb W vl vs)
  have HLO := hid' h.lowB
  clear hr h
  rw [runF] at HR
  unfold bodyF at HR
  dsimp only at HR
  have hnot : ∀ (x : Bool) (w : World), (Op.unary .not (.bool x)).run Tryz.prog w = .ok (.bool (!x)) w := fun _ _ => rfl
  have hfk := tok_kind
  have hfp := tok_pos
  unfold ptr
  go_enter Tryz.func148, Tryz.ntmps148
  go_wp2_with fail
  generalize hq1 : runF ts m .atom s = r1 at HR
  rcases r1 with _ | ⟨l1, p1⟩ | ⟨z1, y1, c1, s1⟩
  · exact absurd HR.out.symm hnr
  · refine Calls.mono ((H m (Nat.le_refl _)).atom _ _ _ _ _ HP.out hq1 (by simp)) ?_
    rintro e wb hp
    have HF := hid' (FaultP.of_below hp HS.out.below)
    obtain ⟨gb, rfl, _⟩ := hp
    obtain rfl : R.bad l1 p1 = r := HR.out
    go_wp2
    exact ⟨rfl, HF.out⟩
  refine Calls.mono ((H m (Nat.le_refl _)).atom _ _ _ _ _ HP.out hq1 (by simp)) ?_
  rintro e w1 ⟨vl1, vs1, rfl, hp, hs⟩
  have hle1 := HS.out.below.size
  replace HS := hid' (HS.out.then (Nat.le_refl _) hs)
  replace HP := hid' hp
  clear hp hs
  dsimp only [R.bind] at HR
  clear hq1
  go_wp2_with fail
  go_loopg [3] m (fun gk u3 wr => ∃ z sr vlr vsr, gk ≤ m ∧ u3 = .int .i64 z ∧ Hid (PV A B pb ts tv wr sr vlr vsr) ∧ Hid (Step W.heap.size B pb W vl vs wr vlr vsr) ∧ Hid (runF ts gk (.primLoop z) sr = r))
  case atStart => exact ⟨z1, s1, vl1, vs1, Nat.le_refl _, rfl, HP, HS, HR⟩
  case round =>
    obtain ⟨z, sr, vlr, vsr, hgk, rfl, HPr, HSr, HRr⟩ := hrel
    clear HP HS HR
    have HP := HPr
    have HS := HSr
    have HR := HRr
    clear HPr HSr HRr
    rcases gk with _ | j
    · exact absurd HR.out.symm hnr
    rw [runF] at HR
    unfold bodyF at HR
    try dsimp only at HR
    rw [Px.signF] at HR
    generalize ht3 : ts[PS.at_ sr]? = o3 at HR
    rcases o3 with _ | t3
    · exact absurd HR.out.symm hnr
    try dsimp only at HR
    have f0 := str_is (sg t3) [46]
    have f1 := str_is (sg t3) [40]
    have f2 := str_is (sg t3) [91]
    go_wp2_with fail
    refine Calls.mono (p_sign_any HP.out t3 ht3) ?_
    rintro e w4 ⟨rfl, b⟩
    have hp := HP.out.low b
    have hs := Step.low (n := wr.heap.size) HP.out b
    clear b
    replace HS := hid' (HS.out.then (Nat.le_refl _) hs)
    replace HP := hid' hp
    clear hp hs
    by_cases h0 : sg t3 = [46]
    · rw [if_pos h0] at HR
      rw [decide_eq_true h0] at f0
      clear h0 f1 f2
      go_wp2_with fail
      generalize hq5 : runF ts j (.dot z) sr = r5 at HR
      rcases r5 with _ | ⟨l5, p5⟩ | ⟨z5, y5, c5, s5⟩
      · exact absurd HR.out.symm hnr
      · refine Calls.mono ((H j (by omega)).dot z _ _ _ _ _ HP.out hq5 (by simp)) ?_
        rintro e wb hp
        have HF := hid' (FaultP.of_below hp HS.out.below)
        obtain ⟨gb, rfl, _⟩ := hp
        obtain rfl : R.bad l5 p5 = r := HR.out
        go_wp2
        exact ⟨rfl, HF.out⟩
      refine Calls.mono ((H j (by omega)).dot z _ _ _ _ _ HP.out hq5 (by simp)) ?_
      rintro e w5 ⟨vl5, vs5, rfl, hp, hs⟩
      have hle5 := HS.out.below.size
      replace HS := hid' (HS.out.then (Nat.le_refl _) hs)
      replace HP := hid' hp
      clear hp hs
      dsimp only [R.bind] at HR
      clear hq5
      go_wp2
      go_roundg j
      case measure => omega
      case rel => exact ⟨z5, s5, vl5, vs5, by omega, rfl, HP, HS, HR⟩
    rw [if_neg h0] at HR
    rw [decide_eq_false h0] at f0
    clear h0
    by_cases h1 : sg t3 = [40]
    · rw [if_pos h1] at HR
      rw [decide_eq_true h1] at f1
      clear h1 f2
      go_wp2_with fail
      generalize hq7 : runF ts j (.call z) sr = r7 at HR
      rcases r7 with _ | ⟨l7, p7⟩ | ⟨z7, y7, c7, s7⟩
      · exact absurd HR.out.symm hnr
      · refine Calls.mono ((H j (by omega)).call z _ _ _ _ _ HP.out hq7 (by simp)) ?_
        rintro e wb hp
        have HF := hid' (FaultP.of_below hp HS.out.below)
        obtain ⟨gb, rfl, _⟩ := hp
        obtain rfl : R.bad l7 p7 = r := HR.out
        go_wp2
        exact ⟨rfl, HF.out⟩
      refine Calls.mono ((H j (by omega)).call z _ _ _ _ _ HP.out hq7 (by simp)) ?_
      rintro e w7 ⟨vl7, vs7, rfl, hp, hs⟩
      have hle7 := HS.out.below.size
      replace HS := hid' (HS.out.then (Nat.le_refl _) hs)
      replace HP := hid' hp
      clear hp hs
      dsimp only [R.bind] at HR
      clear hq7
      go_wp2
      go_roundg j
      case measure => omega
      case rel => exact ⟨z7, s7, vl7, vs7, by omega, rfl, HP, HS, HR⟩
    rw [if_neg h1] at HR
    rw [decide_eq_false h1] at f1
    clear h1
    by_cases h2 : sg t3 = [91]
    · rw [if_pos h2] at HR
      rw [decide_eq_true h2] at f2
      clear h2
      go_wp2_with fail
      generalize hq9 : runF ts j (.index z) sr = r9 at HR
      rcases r9 with _ | ⟨l9, p9⟩ | ⟨z9, y9, c9, s9⟩
      · exact absurd HR.out.symm hnr
      · refine Calls.mono ((H j (by omega)).index z _ _ _ _ _ HP.out hq9 (by simp)) ?_
        rintro e wb hp
        have HF := hid' (FaultP.of_below hp HS.out.below)
        obtain ⟨gb, rfl, _⟩ := hp
        obtain rfl : R.bad l9 p9 = r := HR.out
        go_wp2
        exact ⟨rfl, HF.out⟩
      refine Calls.mono ((H j (by omega)).index z _ _ _ _ _ HP.out hq9 (by simp)) ?_
      rintro e w9 ⟨vl9, vs9, rfl, hp, hs⟩
      have hle9 := HS.out.below.size
      replace HS := hid' (HS.out.then (Nat.le_refl _) hs)
      replace HP := hid' hp
      clear hp hs
      dsimp only [R.bind] at HR
      clear hq9
      go_wp2
      go_roundg j
      case measure => omega
      case rel => exact ⟨z9, s9, vl9, vs9, by omega, rfl, HP, HS, HR⟩
    rw [if_neg h2] at HR
    rw [decide_eq_false h2] at f2
    clear h2
    obtain rfl := HR.out
    go_wp2
    go_returns
    exact ⟨_, _, rfl, HP.out, HS.out⟩
end Go.Proofs.YtpjjofdphlgeiaaGreatDoor
