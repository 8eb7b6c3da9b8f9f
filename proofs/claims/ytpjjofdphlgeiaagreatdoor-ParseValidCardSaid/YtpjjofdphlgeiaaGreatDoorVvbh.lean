/- Parts of the proof, together. A parser in memory: its cells, its tokens, its nodes; what a step of it keeps; what its calls answer. Conditions: its blocks lie from block B on, its tokens below. The parser's small calls: the token that is read next, the sign, whether it is that one; steps. Conditions: a token is there. -/
import Derived.Deep.QuietTactic
import Derived.Test.YtpjjofdphlgeiaaGreatDoorVvao
import Derived.Test.YtpjjofdphlgeiaaGreatDoorVvag
import Derived.Test.YtpjjofdphlgeiaaGreatDoorVvar
import Derived.Test.YtpjjofdphlgeiaaGreatDoorVvay
namespace Go.Proofs.YtpjjofdphlgeiaaGreatDoor
open Go.RowKit
open Lx Ax Px

/-- Tokens below block B. -/
def TkAt (B : Nat) (W : World) (tv : Value) (ts : List Tok) : Prop := ∃ ao cap, tv = .slice ao ts.length cap ∧ (ts = [] ∨ ∃ g, ao = some ⟨g, 0, none⟩ ∧ g < B ∧ ∀ (j : Nat) t, ts[j]? = some t →
  W.cell? ⟨g, j * 3, none⟩ = some (.int .i64 (t.kind : Int)) ∧ W.cell? ⟨g, j * 3 + 1, none⟩ = some (.string (txt t.text)) ∧ W.cell? ⟨g, j * 3 + 2, none⟩ = some (.int .i64 (t.pos : Int)))
theorem TkAt.below {B : Nat} {W W' : World} {tv : Value} {ts : List Tok} (h : TkAt B W tv ts) (hb : Below B W W') : TkAt B W' tv ts := by
  obtain ⟨ao, cap, e, h⟩ := h
  refine ⟨ao, cap, e, h.imp id fun ⟨g, h1, h2, h3⟩ => ⟨g, h1, h2, fun j t ht => ?_⟩⟩
  obtain ⟨a, b, c⟩ := h3 j t ht
  exact ⟨(hb.cell (p := ⟨g, j * 3, none⟩) h2).trans a, (hb.cell (p := ⟨g, j * 3 + 1, none⟩) h2).trans b, (hb.cell (p := ⟨g, j * 3 + 2, none⟩) h2).trans c⟩
theorem TkAt.tok {B : Nat} {W : World} {tv : Value} {ts : List Tok} (h : TkAt B W tv ts) (j : Nat) (t : Tok) (ht : ts[j]? = some t) : ∃ g cap, tv = .slice (some ⟨g, 0, none⟩) ts.length cap ∧ g < B ∧ j < ts.length ∧
    W.cell? ⟨g, j * 3, none⟩ = some (.int .i64 (t.kind : Int)) ∧ W.cell? ⟨g, j * 3 + 1, none⟩ = some (.string (txt t.text)) ∧ W.cell? ⟨g, j * 3 + 2, none⟩ = some (.int .i64 (t.pos : Int)) := by
  obtain ⟨ao, cap, e, h⟩ := h
  rcases h with h | ⟨g, h1, h2, h3⟩
  · rw [h] at ht; simp at ht
  · subst h1
    exact ⟨g, cap, e, h2, (List.getElem?_eq_some_iff.1 ht).1, h3 j t ht⟩
/-- The two errors of the package's own lie below block B. -/
structure EV (A : Nat → Addr) (B : Nat) (W : World) : Prop where
  parse : W.cell? ⟨3, 0, none⟩ = some (E A 1)
  limit : W.cell? ⟨2, 0, none⟩ = some (E A 7)
  low : 3 < B ∧ 2 < B
  words : WordsAt W ∧ 17 < B
theorem EV.below {A : Nat → Addr} {B : Nat} {W W' : World} (h : EV A B W) (hb : Below B W W') : EV A B W' :=
  ⟨(hb.cell (p := ⟨3, 0, none⟩) h.low.1).trans h.parse, (hb.cell (p := ⟨2, 0, none⟩) h.low.2).trans h.limit, h.low, fun j v hv => (hb.cell (p := ⟨17, 0 + j, none⟩) h.words.2).trans (h.words.1 j v hv), h.words.2⟩
def pC (tv : Value) (s : PS) (vl : Value) : List Value := [tv, .int .i64 (s.at_ : Int), vl, .int .i64 (s.deep : Int)]
/-- A parser. -/
structure PV (A : Nat → Addr) (B pb : Nat) (ts : List Tok) (tv : Value) (W : World) (s : PS) (vl : Value) (vs : List Value) : Prop where
  row : RowV W pb 69 (pC tv s vl)
  tr : Tr W B vl s.nodes vs
  high : B ≤ pb
  toks : TkAt B W tv ts
  few : ts.length ≤ 1000000 ∧ s.at_ ≤ ts.length ∧ s.deep ≤ 60
  env : EV A B W
/-- What a step of the parser keeps. -/
structure Step (n B pb : Nat) (W : World) (vl : Value) (vs : List Value) (W' : World) (vl' : Value) (vs' : List Value) : Prop where
  below : Below B W W'
  far : ∀ k, k < W.heap.size → k ≠ pb → vl.ownBlock ≠ some k → W'.heap[k]? = W.heap[k]?
  blk : ∀ k, vl'.ownBlock = some k → vl.ownBlock = some k ∨ W.heap.size ≤ k
  kids : ∃ l2, vs' = vs ++ l2 ∧ ∀ v ∈ l2, ∀ k, v.ownBlock = some k → n ≤ k
section
variable {A : Nat → Addr} {n B pb : Nat} {ts : List Tok} {tv : Value} {W W' W2 : World} {s s' : PS} {vl vl' vl2 : Value} {vs vs' vs2 : List Value}
theorem Step.refl (n B pb : Nat) (W : World) (vl : Value) (vs : List Value) : Step n B pb W vl vs W vl vs := ⟨Below.refl _ _, fun _ _ _ _ => rfl, fun _ h => .inl h, ⟨[], by simp, by simp⟩⟩
theorem Step.trans (h : Step n B pb W vl vs W' vl' vs') (h2 : Step n B pb W' vl' vs' W2 vl2 vs2) : Step n B pb W vl vs W2 vl2 vs2 := by
  refine ⟨h.below.trans h2.below, fun k hk hp hv => ?_, fun k hk => ?_, ?_⟩
  · rw [h2.far k (Nat.lt_of_lt_of_le hk h.below.size) hp (fun e => (h.blk k e).elim hv (fun e2 => by omega)), h.far k hk hp hv]
  · rcases h2.blk k hk with e | e
    · exact h.blk k e
    · exact .inr (Nat.le_trans h.below.size e)
  · obtain ⟨l, e, hl⟩ := h.kids
    obtain ⟨l', e', hl'⟩ := h2.kids
    refine ⟨l ++ l', by rw [e', e, List.append_assoc], fun v hv => ?_⟩
    rcases List.mem_append.1 hv with hv | hv
    · exact hl v hv
    · exact hl' v hv
theorem Step.mono {m : Nat} (h : Step m B pb W vl vs W' vl' vs') (hn : n ≤ m) : Step n B pb W vl vs W' vl' vs' :=
  ⟨h.below, h.far, h.blk, let ⟨l, e, hl⟩ := h.kids; ⟨l, e, fun v hv k hk => Nat.le_trans hn (hl v hv k hk)⟩⟩
/-- What comes behind a call, in the caller's own words. -/
theorem Step.then (h : Step n B pb W vl vs W' vl' vs') (hn : n ≤ W.heap.size) (h2 : Step W'.heap.size B pb W' vl' vs' W2 vl2 vs2) : Step n B pb W vl vs W2 vl2 vs2 :=
  h.trans (h2.mono (Nat.le_trans hn h.below.size))
theorem Step.drewN (h : Step n B pb W vl vs W' vl' vs') (k : Nat) : Step n B pb W vl vs (W'.drewN k) vl' vs' := ⟨⟨h.below.os, h.below.tape, h.below.output, h.below.size, h.below.block⟩, h.far, h.blk, h.kids⟩
/-- A new block. -/
theorem Step.alloc (h : Step n B pb W vl vs W' vl' vs') (o : Obj) (hB : B ≤ W.heap.size) : Step n B pb W vl vs (W'.alloc o) vl' vs' :=
  ⟨h.below.alloc (Nat.le_trans hB h.below.size) _, fun k hk hp hv => (Below.heap_alloc _ _ _ (Nat.lt_of_lt_of_le hk h.below.size)).trans (h.far k hk hp hv), h.blk, h.kids⟩
/-- A store into a block that is new, or the parser's. -/
theorem Step.set (h : Step n B pb W vl vs W' vl' vs') (p : Addr) (v : Value) (hp : W.heap.size ≤ p.block ∨ p.block = pb) (hB : B ≤ W.heap.size) (hpb : B ≤ pb) : Step n B pb W vl vs (W'.setCell p v) vl' vs' :=
  ⟨h.below.setCell (by rcases hp with hp | hp <;> omega) _, fun k hk hq hv => (heap_setCell_other _ p k v (by rcases hp with hp | hp <;> omega)).trans (h.far k hk hq hv), h.blk, h.kids⟩
theorem PV.lt (h : PV A B pb ts tv W s vl vs) : pb < W.heap.size := h.row.lt
theorem PV.lowB (h : PV A B pb ts tv W s vl vs) : B ≤ W.heap.size := Nat.le_of_lt (Nat.lt_of_le_of_lt h.high h.lt)
theorem PV.keep (h : PV A B pb ts tv W s vl vs) (hb : Below B W W') (hk : ∀ k, B ≤ k → k < W.heap.size → W'.heap[k]? = W.heap[k]?) : PV A B pb ts tv W' s vl vs :=
  ⟨h.row.far (hk pb h.high h.lt), h.tr.keep hk, h.high, h.toks.below hb, h.few, h.env.below hb⟩
theorem PV.drewN (h : PV A B pb ts tv W s vl vs) (k : Nat) : PV A B pb ts tv (W.drewN k) s vl vs := h.keep ⟨rfl, rfl, rfl, Nat.le_refl _, fun _ _ => rfl⟩ fun _ _ _ => rfl
theorem PV.alloc (h : PV A B pb ts tv W s vl vs) (o : Obj) : PV A B pb ts tv (W.alloc o) s vl vs := h.keep ((Below.refl _ _).alloc h.lowB _) fun _ _ hk => Below.heap_alloc _ _ _ hk
theorem PV.cells (h : PV A B pb ts tv W s vl vs) : W.cell? ⟨pb, 0, none⟩ = some tv ∧ W.cell? ⟨pb, 1, none⟩ = some (.int .i64 (s.at_ : Int)) ∧ W.cell? ⟨pb, 2, none⟩ = some vl ∧ W.cell? ⟨pb, 3, none⟩ = some (.int .i64 (s.deep : Int)) :=
  ⟨h.row.cell (j := 0) rfl, h.row.cell (j := 1) rfl, h.row.cell (j := 2) rfl, h.row.cell (j := 3) rfl⟩
theorem PV.open_ (h : PV A B pb ts tv W s vl vs) (i : Nat) : W.frozen? ⟨pb, i, none⟩ = false := h.row.open_ i
theorem ne_kind {W : World} {B pb : Nat} {e t : TypeId} {size m : Nat} {v : Value} {xs cs : List Value} (h : W.ownsRow B e size v m xs) (hr : RowV W pb t cs) (hne : e ≠ t) : ∀ k, v.ownBlock = some k → k ≠ pb := by
  intro k hk e1
  subst e1
  exact apart_kinds h hr hne hk
theorem PV.tr_far (h : PV A B pb ts tv W s vl vs) (hf : ∀ k, k ≠ pb → W'.heap[k]? = W.heap[k]?) : Tr W' B vl s.nodes vs :=
  h.tr.keep' (fun k e _ => hf k (ne_kind h.tr.own h.row (by decide) k e)) (fun j v hv k e _ => hf k (by
    have hj : j < s.nodes.length := by rw [← h.tr.len]; exact (List.getElem?_eq_some_iff.1 hv).1
    exact ne_kind (h.tr.kid j _ v (List.getElem?_eq_getElem hj) hv) h.row (by decide) k e))
/-- Another place. -/
theorem PV.setAt (h : PV A B pb ts tv W s vl vs) (a : Nat) (ha : a ≤ ts.length) : PV A B pb ts tv (W.setCell ⟨pb, 1, none⟩ (.int .i64 (a : Int))) { s with at_ := a } vl vs :=
  ⟨h.row.set 1 _, h.tr_far fun _ hk => heap_setCell_other _ _ _ _ hk, h.high, h.toks.below ((Below.refl _ _).setCell h.high _), ⟨h.few.1, ha, h.few.2.2⟩, h.env.below ((Below.refl _ _).setCell h.high _)⟩
/-- Another depth. -/
theorem PV.setDeep (h : PV A B pb ts tv W s vl vs) (d : Nat) (hd : d ≤ 60) : PV A B pb ts tv (W.setCell ⟨pb, 3, none⟩ (.int .i64 (d : Int))) { s with deep := d } vl vs :=
  ⟨h.row.set 3 _, h.tr_far fun _ hk => heap_setCell_other _ _ _ _ hk, h.high, h.toks.below ((Below.refl _ _).setCell h.high _), ⟨h.few.1, h.few.2.1, hd⟩, h.env.below ((Below.refl _ _).setCell h.high _)⟩
/-- This list's block is none of the nodes' kids'. -/
def Off (v : Value) (vs : List Value) : Prop := ∀ (j : Nat) u, vs[j]? = some u → ∀ k, u.ownBlock = some k → v.ownBlock ≠ some k
theorem Off.step {v : Value} (h : Off v vs) (hs : Step n B pb W vl vs W' vl' vs') (hv : ∀ k, v.ownBlock = some k → k < n) : Off v vs' := by
  obtain ⟨l, rfl, hl⟩ := hs.kids
  intro j u hu k hk e
  by_cases hj : j < vs.length
  · rw [List.getElem?_append_left hj] at hu
    exact h j u hu k hk e
  · rw [List.getElem?_append_right (by omega)] at hu
    have h1 := hl u (List.mem_of_getElem? hu) k hk
    have h2 := hv k e
    omega
theorem Off.new (h : PV A B pb ts tv W s vl vs) {v : Value} (hv : ∀ k, v.ownBlock = some k → W.heap.size ≤ k) : Off v vs := by
  intro j u hu k hk e
  have hj : j < s.nodes.length := by rw [← h.tr.len]; exact (List.getElem?_eq_some_iff.1 hu).1
  have h1 := (World.ownsRow.lt (h.tr.kid j _ u (List.getElem?_eq_getElem hj) hu) k hk).2
  have h2 := hv k e
  omega
/-- Numbers of the call's own are kept by a step. -/
theorem OwnZ.step {v : Value} {zs : List Int} (h : OwnZ W B v zs) (hp : PV A B pb ts tv W s vl vs) (hs : Step n B pb W vl vs W' vl' vs') : OwnZ W' B v zs :=
  h.keep fun k e hk => hs.far k hk (ne_kind h hp.row (by decide) k e) (fun e2 => own_apart h hp.tr.own (by decide) k e e2)
/-- A fault: the panic that ends all that is read. -/
def FaultP (A : Nat → Addr) (B : Nat) (W : World) (lim : Bool) (pos : Int) (e : Ending) (w' : World) : Prop := ∃ g, e = .panicked [{ v := .iface 67 (.pointer (some ⟨g, 0, none⟩)), recovered := false }] ∧ B ≤ g ∧
  w'.heap[g]? = some (.cells #[.int .i64 pos, E A (if lim then 7 else 1)] 84 (0, 0)) ∧ Below B W w'
theorem FaultP.of_below {lim : Bool} {pos : Int} {e : Ending} (h : FaultP A B W' lim pos e W2) (hb : Below B W W') : FaultP A B W lim pos e W2 := let ⟨g, h1, h2, h3, h5⟩ := h; ⟨g, h1, h2, h3, hb.trans h5⟩
/-- What a part of the language answers: its node. -/
def NodeP (A : Nat → Addr) (B pb : Nat) (ts : List Tok) (tv : Value) (W : World) (vl : Value) (vs : List Value) (r : R) (e : Ending) (w' : World) : Prop := match r with
  | .stuck => False
  | .bad l p => FaultP A B W l p e w'
  | .ok z _ _ s' => ∃ vl' vs', e = .returned (.int .i64 z) ∧ PV A B pb ts tv w' s' vl' vs' ∧ Step W.heap.size B pb W vl vs w' vl' vs'
/-- What a row answers: its parts, and whether there was a comma. -/
def RowP (A : Nat → Addr) (B pb : Nat) (ts : List Tok) (tv : Value) (W : World) (vl : Value) (vs : List Value) (r : R) (e : Ending) (w' : World) : Prop := match r with
  | .stuck => False
  | .bad l p => FaultP A B W l p e w'
  | .ok _ zs c s' => ∃ v vl' vs', e = .returned (.tuple #[v, .bool c]) ∧ PV A B pb ts tv w' s' vl' vs' ∧ Step W.heap.size B pb W vl vs w' vl' vs' ∧ OwnZ w' B v zs ∧ (∀ k, v.ownBlock = some k → W.heap.size ≤ k) ∧ Off v vs'
/-- What answers nothing. -/
def NoneP (A : Nat → Addr) (B pb : Nat) (ts : List Tok) (tv : Value) (W : World) (vl : Value) (vs : List Value) (r : R) (e : Ending) (w' : World) : Prop := match r with
  | .stuck => False
  | .bad l p => FaultP A B W l p e w'
  | .ok _ _ _ s' => ∃ vl' vs', e = .returned (.tuple #[]) ∧ PV A B pb ts tv w' s' vl' vs' ∧ Step W.heap.size B pb W vl vs w' vl' vs'
end
end Go.Proofs.YtpjjofdphlgeiaaGreatDoor

namespace Go.Proofs.YtpjjofdphlgeiaaGreatDoor
open Go.RowKit
open Lx Ax Px

theorem txt_inj {a b : List UInt8} : (txt a = txt b) = (a = b) := by
  apply propext
  refine ⟨fun h => ?_, fun h => by rw [h]⟩
  have h2 := congrArg (fun x : ByteArray => x.data.toList) h
  simpa [txt] using h2
theorem Below.thenB {W W1 W2 : World} (h : Below W.heap.size W W1) (h2 : Below W1.heap.size W1 W2) : Below W.heap.size W W2 := h.trans (h2.mono h.size)
/-- A variable for a token, made ahead of a call. -/
theorem var_tok {W w2 : World} (h : Below (W.alloc (.cells #[.int .i64 0, .string ⟨#[]⟩, .int .i64 0] 71)).heap.size (W.alloc (.cells #[.int .i64 0, .string ⟨#[]⟩, .int .i64 0] 71)) w2) :
    w2.cell? ⟨W.heap.size, 0, none⟩ = some (.int .i64 0) ∧ w2.cell? ⟨W.heap.size, 1, none⟩ = some (.string ⟨#[]⟩) ∧ w2.cell? ⟨W.heap.size, 2, none⟩ = some (.int .i64 0) ∧ w2.frozen? ⟨W.heap.size, 0, none⟩ = false ∧ w2.frozen? ⟨W.heap.size, 1, none⟩ = false ∧ w2.frozen? ⟨W.heap.size, 2, none⟩ = false ∧ W.heap.size < w2.heap.size ∧ RowV w2 W.heap.size 71 [.int .i64 0, .string ⟨#[]⟩, .int .i64 0] := by
  have hr : w2.heap[W.heap.size]? = some (.cells #[.int .i64 0, .string ⟨#[]⟩, .int .i64 0] 71 (0, 0)) := (h.block _ (by simp)).trans (heap_alloc_new _ _)
  exact ⟨cell_of_row _ _ 0 _ _ _ hr, cell_of_row _ _ 1 _ _ _ hr, cell_of_row _ _ 2 _ _ _ hr, frozen_of_row _ _ _ _ _ hr, frozen_of_row _ _ _ _ _ hr, frozen_of_row _ _ _ _ _ hr, (Array.getElem?_eq_some_iff.1 hr).1, hr⟩
section
variable {A : Nat → Addr} {n B pb : Nat} {ts : List Tok} {tv : Value} {W W' : World} {s : PS} {vl : Value} {vs : List Value}
theorem PV.low (h : PV A B pb ts tv W s vl vs) (hb : Below W.heap.size W W') : PV A B pb ts tv W' s vl vs := h.keep (hb.mono h.lowB) fun k _ hk => hb.block k hk
theorem Step.low (h : PV A B pb ts tv W s vl vs) (hb : Below W.heap.size W W') : Step n B pb W vl vs W' vl vs := ⟨hb.mono h.lowB, fun k hk _ _ => hb.block k hk, fun _ e => .inl e, ⟨[], by simp, by simp⟩⟩
/-- But for the parser's own block, what was there is as it was. -/
structure Still (B pb : Nat) (W W' : World) : Prop where
  below : Below B W W'
  far : ∀ k, k < W.heap.size → k ≠ pb → W'.heap[k]? = W.heap[k]?
theorem Still.low (hB : B ≤ W.heap.size) (hb : Below W.heap.size W W') : Still B pb W W' := ⟨hb.mono hB, fun k hk _ => hb.block k hk⟩
theorem Still.set {W' : World} (h : Still B pb W W') (p : Addr) (v : Value) (hp : W.heap.size ≤ p.block ∨ p.block = pb) (hB : B ≤ W.heap.size) (hpb : B ≤ pb) : Still B pb W (W'.setCell p v) :=
  ⟨h.below.setCell (by rcases hp with hp | hp <;> omega) _, fun k hk hq => (heap_setCell_other _ p k v (by rcases hp with hp | hp <;> omega)).trans (h.far k hk hq)⟩
theorem Still.alloc {W' : World} (h : Still B pb W W') (o : Obj) (hB : B ≤ W.heap.size) : Still B pb W (W'.alloc o) :=
  ⟨h.below.alloc (Nat.le_trans hB h.below.size) _, fun k hk hp => (Below.heap_alloc _ _ _ (Nat.lt_of_lt_of_le hk h.below.size)).trans (h.far k hk hp)⟩
theorem Still.drew {W' : World} (h : Still B pb W W') : Still B pb W W'.drew := ⟨⟨h.below.os, h.below.tape, h.below.output, h.below.size, h.below.block⟩, h.far⟩
theorem Still.trans {W1 W2 : World} (h : Still B pb W W1) (h2 : Still B pb W1 W2) : Still B pb W W2 := ⟨h.below.trans h2.below, fun k hk hp => (h2.far k (Nat.lt_of_lt_of_le hk h.below.size) hp).trans (h.far k hk hp)⟩
theorem Still.step (h : Still B pb W W') (n : Nat) (vl : Value) (vs : List Value) : Step n B pb W vl vs W' vl vs := ⟨h.below, fun k hk hp _ => h.far k hk hp, fun _ e => .inl e, ⟨[], by simp, by simp⟩⟩
/-- The parser's own block, turned. -/
theorem PV.turn (h : PV A B pb ts tv W s vl vs) (hs : Still B pb W W') (a d : Nat) (hr : RowV W' pb 69 (pC tv { s with at_ := a, deep := d } vl)) (ha : a ≤ ts.length) (hd : d ≤ 60) : PV A B pb ts tv W' { s with at_ := a, deep := d } vl vs :=
  ⟨hr, h.tr.keep' (fun k e hk => hs.far k hk (ne_kind h.tr.own h.row (by decide) k e)) (fun j v hv k e hk => hs.far k hk (by
    have hj : j < s.nodes.length := by rw [← h.tr.len]; exact (List.getElem?_eq_some_iff.1 hv).1
    exact ne_kind (h.tr.kid j _ v (List.getElem?_eq_getElem hj) hv) h.row (by decide) k e)), h.high, h.toks.below hs.below, ⟨h.few.1, ha, hd⟩, h.env.below hs.below⟩
theorem row_past {t : TypeId} {cs : List Value} (h : RowV W pb t cs) (p : Addr) (v : Value) (hp : ¬ pb = p.block) : RowV (W.setCell p v) pb t cs := h.far (heap_setCell_other _ p pb v hp)
theorem row_alloc {t : TypeId} {cs : List Value} (h : RowV W pb t cs) (o : Obj) : RowV (W.alloc o) pb t cs := h.far (Below.heap_alloc _ _ _ h.lt)
set_option maxHeartbeats 400000 in
theorem p_token_any (h : PV A B pb ts tv W s vl vs) (t : Tok) (ht : ts[s.at_]? = some t) :
    Calls Tryz.prog 33 #[.pointer (some ⟨pb, 0, none⟩)] W fun e w' => e = .returned (.agg #[.int .i64 (t.kind : Int), .string (txt t.text), .int .i64 (t.pos : Int)]) ∧ Below W.heap.size W w' := by
  obtain ⟨c0, c1, _, _⟩ := h.cells
  obtain ⟨g, cap, rfl, hg, hj, d0, d1, d2⟩ := h.toks.tok _ t ht
  have hlt := h.lt
  have hB := h.lowB
  have hgl : g < W.heap.size := by omega
  have hj1 : (0 : Int) ≤ (s.at_ : Int) ∧ (s.at_ : Int) < (ts.length : Int) := by omega
  have hHB := hid' ((Below.refl W.heap.size W).alloc (Nat.le_refl _) (.cells #[.int .i64 0, .string ⟨#[]⟩, .int .i64 0] 71))
  clear h ht
  go_enter Tryz.func33, Tryz.ntmps33
  go_wp2
  go_region
  go_wp2
  go_returns
  exact ⟨rfl, by go_grown⟩
theorem p_sign_any (h : PV A B pb ts tv W s vl vs) (t : Tok) (ht : ts[s.at_]? = some t) :
    Calls Tryz.prog 51 #[.pointer (some ⟨pb, 0, none⟩)] W fun e w' => e = .returned (.string (txt (sg t))) ∧ Below W.heap.size W w' := by
  have HT := hid' (p_token_any h t ht)
  by_cases hk : t.kind = 4
  · have hk' : ((t.kind : Int) == 4) = true := by rw [hk]; rfl
    unfold sg
    rw [if_pos hk]
    clear h ht hk
    go_enter Tryz.func51, Tryz.ntmps51
    go_wp2_with (go_at_call 33; with_reducible refine HT.out.mono ?_; rintro e w2 ⟨rfl, b2⟩; have hsz := b2.size)
    go_wp2
    go_returns
    exact ⟨rfl, by go_grown⟩
  · have hk' : ((t.kind : Int) == 4) = false := by simp; omega
    unfold sg
    rw [if_neg hk]
    clear h ht hk
    go_enter Tryz.func51, Tryz.ntmps51
    go_wp2_with (go_at_call 33; with_reducible refine HT.out.mono ?_; rintro e w2 ⟨rfl, b2⟩; have hsz := b2.size)
    go_wp2
    go_returns
    exact ⟨rfl, by go_grown⟩
theorem sees_any (h : PV A B pb ts tv W s vl vs) (t : Tok) (ht : ts[s.at_]? = some t) (l : List UInt8) :
    Calls Tryz.prog 74 #[.pointer (some ⟨pb, 0, none⟩), .string (txt l)] W fun e w' => e = .returned (.bool (decide (sg t = l))) ∧ Below W.heap.size W w' := by
  have HT := hid' (p_sign_any h t ht)
  clear h ht
  go_enter Tryz.func74, Tryz.ntmps74
  go_wp2_with (go_at_call 51; with_reducible refine HT.out.mono ?_; rintro e w2 ⟨rfl, b2⟩; have hsz := b2.size)
  go_wp2
  go_returns
  refine ⟨?_, by go_grown⟩
  have hq : ((txt (sg t)).toList == (txt l).toList) = decide (sg t = l) := by rw [toList_txt, toList_txt]; by_cases hq : sg t = l <;> simp [hq]
  rw [← hq]; rfl
set_option maxHeartbeats 1600000 in
theorem next_any (h : PV A B pb ts tv W s vl vs) (t : Tok) (ht : ts[s.at_]? = some t) :
    Calls Tryz.prog 47 #[.pointer (some ⟨pb, 0, none⟩)] W fun e w' => e = .returned (.agg #[.int .i64 (t.kind : Int), .string (txt t.text), .int .i64 (t.pos : Int)]) ∧ PV A B pb ts tv w' { s with at_ := s.at_ + 1 } vl vs ∧ Still B pb W w' := by
  have HT := fun W' (hb : Below W.heap.size W W') => hid' (p_token_any (h.low hb) t ht)
  have hlt := h.lt
  have hpn : ¬ pb = W.heap.size := by omega
  have hpn' : ¬ W.heap.size = pb := by omega
  have hj : s.at_ < ts.length := (List.getElem?_eq_some_iff.1 ht).1
  have hfew := h.few.1
  have hw : IntKind.i64.wrap ((s.at_ : Int) + 1) = ((s.at_ + 1 : Nat) : Int) := by rw [IntWalk.i64_in _ ⟨by omega, by omega⟩]; omega
  have HP := hid' h
  clear h ht
  go_enter Tryz.func47, Tryz.ntmps47
  go_wp2_with (go_at_call 33; go_loud (refine Calls.mono (HT _ ?_).out ?_; (· go_grown); rintro e w2 ⟨rfl, b2⟩; have hsz := b2.size; obtain ⟨r0, r1, r2, r3, r4, r5, r6, rr⟩ := var_tok b2; have RR := hid' rr; clear rr; have b2 := Below.thenB (by go_grown : Below W.heap.size W _) b2; have h2 := HP.out.low b2); obtain ⟨_, c1, _, _⟩ := h2.cells; have o1 := h2.open_ 1; have hl2 := h2.lt; have HP2 := hid' h2; clear h2)
  go_wp2
  have h2 := HP2.out
  have hlo := HP.out.lowB
  have hS : Still B pb W (((((w2.setCell ⟨pb, 1, none⟩ (.int .i64 ((s.at_ : Int) + 1))).setCell ⟨W.heap.size, 0, none⟩ (.int .i64 (t.kind : Int))).setCell ⟨W.heap.size, 1, none⟩ (.string (txt t.text))).setCell ⟨W.heap.size, 2, none⟩ (.int .i64 (t.pos : Int))).alloc (.cells #[.int .i64 (t.kind : Int), .string (txt t.text), .int .i64 (t.pos : Int)] 71)) :=
    (((((Still.low hlo b2).set ⟨pb, 1, none⟩ _ (.inr rfl) hlo h2.high).set ⟨W.heap.size, 0, none⟩ _ (.inl (Nat.le_refl _)) hlo h2.high).set ⟨W.heap.size, 1, none⟩ _ (.inl (Nat.le_refl _)) hlo h2.high).set ⟨W.heap.size, 2, none⟩ _ (.inl (Nat.le_refl _)) hlo h2.high).alloc _ hlo
  have hR := row_alloc ((((row_past RR.out ⟨pb, 1, none⟩ (.int .i64 ((s.at_ : Int) + 1)) hpn').set 0 (.int .i64 (t.kind : Int))).set 1 (.string (txt t.text))).set 2 (.int .i64 (t.pos : Int))) (.cells #[.int .i64 (t.kind : Int), .string (txt t.text), .int .i64 (t.pos : Int)] 71)
  refine bodyPost_ret (v := .agg #[.int .i64 (t.kind : Int), .string (txt t.text), .int .i64 (t.pos : Int)]) ?_ rfl ⟨rfl, ?_⟩
  · exact results_cell_row (fn := Tryz.f47) (p := 2) (ty := 71) (by kernel_rfl) _ _ W.heap.size _ #[.int .i64 (t.kind : Int), .string (txt t.text), .int .i64 (t.pos : Int)] (0, 0) _ rfl hR Tryz.underlying71 rfl (by kernel_rfl)
  · exact ⟨HP.out.turn hS (s.at_ + 1) s.deep (row_alloc (row_past (row_past (row_past (h2.row.set 1 _) _ _ hpn) _ _ hpn) _ _ hpn) _) (by omega) HP.out.few.2.2, hS⟩
theorem skip_any (h : PV A B pb ts tv W s vl vs) (t : Tok) (ht : ts[s.at_]? = some t) (l : List UInt8) :
    Calls Tryz.prog 76 #[.pointer (some ⟨pb, 0, none⟩), .string (txt l)] W fun e w' => e = .returned (.bool (decide (sg t = l))) ∧ PV A B pb ts tv w' (if sg t = l then { s with at_ := s.at_ + 1 } else s) vl vs ∧ Still B pb W w' := by
  have HT := hid' (sees_any h t ht l)
  have hlt := h.lt
  have hj : s.at_ < ts.length := (List.getElem?_eq_some_iff.1 ht).1
  have hfew := h.few.1
  have hw : IntKind.i64.wrap ((s.at_ : Int) + 1) = ((s.at_ + 1 : Nat) : Int) := by rw [IntWalk.i64_in _ ⟨by omega, by omega⟩]; omega
  have hnot : ∀ (x : Bool) (w : World), (Op.unary .not (.bool x)).run Tryz.prog w = .ok (.bool (!x)) w := fun _ _ => rfl
  have HP := hid' h
  have hlo := h.lowB
  clear h ht
  by_cases hq : sg t = l
  · rw [decide_eq_true hq] at HT
    rw [decide_eq_true hq, if_pos hq]
    go_enter Tryz.func76, Tryz.ntmps76
    go_wp2_with (go_at_call 74; with_reducible refine HT.out.mono ?_; rintro e w2 ⟨rfl, b2⟩; have h2 := HP.out.low b2; obtain ⟨_, c1, _, _⟩ := h2.cells; have o1 := h2.open_ 1; have hl2 := h2.lt; have HP2 := hid' h2; clear h2)
    go_wp2
    go_returns
    have h2 := HP2.out
    have hS := (Still.low hlo b2).set ⟨pb, 1, none⟩ (.int .i64 ((s.at_ : Int) + 1)) (.inr rfl) hlo h2.high
    exact ⟨rfl, HP.out.turn hS (s.at_ + 1) s.deep (h2.row.set 1 _) (by omega) HP.out.few.2.2, hS⟩
  · rw [decide_eq_false hq] at HT
    rw [decide_eq_false hq, if_neg hq]
    go_enter Tryz.func76, Tryz.ntmps76
    go_wp2_with (go_at_call 74; with_reducible refine HT.out.mono ?_; rintro e w2 ⟨rfl, b2⟩)
    go_wp2
    go_returns
    exact ⟨rfl, HP.out.low b2, Still.low hlo b2⟩
theorem leave_any (h : PV A B pb ts tv W s vl vs) (hd : ¬ s.deep = 0) :
    Calls Tryz.prog 102 #[.pointer (some ⟨pb, 0, none⟩)] W fun e w' => e = .returned (.tuple #[]) ∧ PV A B pb ts tv w' { s with deep := s.deep - 1 } vl vs ∧ Still B pb W w' := by
  have hlt := h.lt
  have hfew := h.few.2.2
  obtain ⟨_, _, _, c3⟩ := h.cells
  have o3 := h.open_ 3
  have hw : IntKind.i64.wrap ((s.deep : Int) - 1) = ((s.deep - 1 : Nat) : Int) := by rw [IntWalk.i64_in _ ⟨by omega, by omega⟩]; omega
  have hS := hid' ((Still.low (pb := pb) h.lowB (Below.refl _ W)).set ⟨pb, 3, none⟩ (.int .i64 ((s.deep - 1 : Nat) : Int)) (.inr rfl) h.lowB h.high)
  have HR := hid' (h.turn hS.out s.at_ (s.deep - 1) (h.row.set 3 _) h.few.2.1 (by omega))
  clear h
  go_enter Tryz.func102, Tryz.ntmps102
  go_wp2
  go_returns
  exact ⟨rfl, HR.out, hS.out⟩
end
end Go.Proofs.YtpjjofdphlgeiaaGreatDoor
