/- Small laws for path.Clean's walk: what a round leaves as it was, when all that it turns is one variable and the rows of its own. Conditions: none. -/
import Derived.Test.YteokigpeaggemaaDoorRange
import Derived.Lib.AppendStr
import Derived.OwnWalkIn
import Derived.RangeFuncBox
namespace Go.Proofs.YteokigpeaggemaaDoor
open Go.RowKit
namespace Stp

/-- All that is turned: the variable in block b; rows of cells from L on; new blocks. -/
structure Step (L b : Nat) (W W' : World) : Prop where
  os : W'.os = W.os
  tape : W'.tape = W.tape
  output : W'.output = W.output
  keeps : KeepsOthers W W'
  low : ∀ k, k < L → k ≠ b → k < W.heap.size → W'.heap[k]? = W.heap[k]?
theorem Step.refl (L b : Nat) (W : World) : Step L b W W := ⟨rfl, rfl, rfl, KeepsOthers.refl W, fun _ _ _ _ => rfl⟩
theorem Step.trans {L b : Nat} {A B C : World} (h : Step L b A B) (k : Step L b B C) : Step L b A C :=
  ⟨k.os.trans h.os, k.tape.trans h.tape, k.output.trans h.output, h.keeps.trans k.keeps, fun i x y z => (k.low i x y (Nat.lt_of_lt_of_le z h.keeps.size)).trans (h.low i x y z)⟩
theorem Step.alloc (L b : Nat) (W : World) (o : Obj) : Step L b W (W.alloc o) :=
  ⟨rfl, rfl, rfl, KeepsOthers.alloc W o, fun _ _ _ z => Below.heap_alloc W o _ z⟩
theorem Step.drew (L b : Nat) (W : World) : Step L b W W.drew := ⟨rfl, rfl, rfl, KeepsOthers.drew W, fun _ _ _ _ => rfl⟩
theorem Step.setCell (L b : Nat) (W : World) (v : Value) : Step L b W (W.setCell ⟨b, 0, none⟩ v) :=
  have g := grownBy_setCell' W b v
  ⟨g.os, g.tape, g.output, KeepsOthers.setCell W _ v, fun k _ y z => g.block k z (fun e => y (by cases e; rfl))⟩
theorem Step.grown {L b : Nat} {W w1 : World} {v : Value} {n : Nat} {xs : List Value} (hrow : W.ownsRow L 5 1 v n xs) (hg : W.grownBy w1 v.ownBlock) : Step L b W w1 :=
  ⟨hg.os, hg.tape, hg.output, KeepsOthers.of_grownBy hg fun j o ej hj => by
      rcases hrow.2 with ⟨rfl, _⟩ | ⟨g, cap, cur, rfl, _, hgb, _⟩
      · simp [Value.ownBlock] at ej
      · obtain rfl : g = j := by simpa [Value.ownBlock] using ej
        rw [hgb] at hj; cases hj; rfl,
    fun k x _ z => hg.block k z fun e => by have := (hrow.lt k e.symm).1; omega⟩
theorem Step.box {L b k : Nat} {W W' : World} {t : TypeId} {v : Value} (h : Step L b W W') (hb : Boxed W k t v) (hk : k < L) (hkb : k ≠ b) : Boxed W' k t v := (h.low k hk hkb hb.lt).trans hb
theorem Step.below {L b B : Nat} {W W' : World} (h : Step L b W W') (hB : B ≤ b) (hL : B ≤ L) (hW : B ≤ W.heap.size) : Below B W W' :=
  ⟨h.os, h.tape, h.output, h.keeps.size, fun k hk => h.low k (by omega) (by omega) (by omega)⟩
theorem Step.same {L b lo hi : Nat} {W W' : World} (h : Step L b W W') (hb : b < lo) (hi' : hi ≤ L) (hW : hi ≤ W.heap.size) : Rng.Same lo hi W W' :=
  ⟨fun k o x y => by unfold World.cell?; rw [h.low k (by omega) (by show k ≠ b; omega) (by show k < W.heap.size; omega)], fun k o x y => by unfold World.frozen?; rw [h.low k (by omega) (by show k ≠ b; omega) (by show k < W.heap.size; omega)]⟩

theorem row_set {L b : Nat} {W : World} {v u : Value} {n : Nat} {xs : List Value} (hb : b < L) (h : W.ownsRow L 5 1 v n xs) : (W.setCell ⟨b, 0, none⟩ u).ownsRow L 5 1 v n xs :=
  h.kept (grownBy_setCell' W b u) (by
    cases e : v.ownBlock with
    | none => exact .inl rfl
    | some k => exact .inr fun e2 => by have := (h.lt k e).1; cases e2; omega)
/-- The first k of a row are a row. -/
theorem row_take {L g cap n k : Nat} {W : World} {xs : List Value} (h : W.ownsRow L 5 1 (.slice (some ⟨g, 0, none⟩) n cap) n xs) (hk : k ≤ n) :
    W.ownsRow L 5 1 (.slice (some ⟨g, 0, none⟩) k cap) k (xs.take k) := by
  obtain ⟨hx, h2⟩ := h
  rcases h2 with ⟨h0, _⟩ | ⟨g', cap', cur, hv, hg, hh, hn, hcap, hsz, htake⟩
  · cases h0
  · cases hv
    refine ⟨by rw [List.length_take]; omega, .inr ⟨g, cap, cur, rfl, hg, hh, by omega, hcap, hsz, ?_⟩⟩
    rw [← htake, List.take_take]; congr 1; omega

theorem row_form {L n : Nat} {W : World} {v : Value} {xs : List Value} (h : W.ownsRow L 5 1 v n xs) (hn : 0 < n) : ∃ g cap, v = .slice (some ⟨g, 0, none⟩) n cap := by
  rcases h.2 with ⟨_, h0⟩ | ⟨g, cap, cur, hv, _⟩
  · omega
  · exact ⟨g, cap, hv⟩
theorem box_grown {L b n : Nat} {W w1 : World} {t : TypeId} {u v : Value} {xs : List Value} (hb : Boxed W b t u) (hbL : b < L) (hrow : W.ownsRow L 5 1 v n xs) (hg : W.grownBy w1 v.ownBlock) : Boxed w1 b t u :=
  hb.kept hg fun e => by have := (hrow.lt b e.symm).1; omega

/-- An append of a text's bytes, in a round. -/
theorem append_text {F : Fence} {n' : Nat} {P : Program} {ops : Array Oper} {rest : List Oper} {o : Oper} {a : Act} {Q : Exit → Act → World → Prop} (w : World) (hgd : o.guard = none) (sl x : Operand) (t u : TypeId)
    (ho : o.op = .call { callee := .builtin .append, args := #[sl, x], argTypes := #[t, u] })
    (base : Nat) (e : TypeId) (i : TypeInfo) (ht : P.underlying t = some (.slice e)) (hu : P.underlying u = some .string) (hi : P.info? e = some i) (hz : i.zero = some (.int .u8 0))
    (hsize : i.size = 1) (hby : i.bytes = 1) (v : Value) (n : Nat) (xs : List Value) (hs : a.eval sl = v) (hown : w.ownsRow base e 1 v n xs) (s : ByteArray) (hx : a.eval x = .string s)
    (h63 : n + s.size ≤ maxLen) (hbytes : n + s.size ≤ 140737488355328) (hbase : base ≤ w.heap.size)
    (h : ∀ v' w', w'.ownsRow base e 1 v' (n + s.size) (xs ++ Lib.strCells s) → w.grownBy w' v.ownBlock → (v' = .slice none 0 0 ↔ v = .slice none 0 0 ∧ s.size = 0) → wpListIn F n' P ops Q rest (a.put o.dst v') w') : wpListIn F n' P ops Q (o :: rest) a w := by
  refine wpListIn_plain hgd fun K hK => ?_
  obtain ⟨v', w', hr, h2, h3, h4⟩ := Lib.run_append_own_string (P := P) w base t u o.type e i ht hu hi hz hsize hby v n xs hown s h63 hbytes hbase
  unfold Oper.wpIn
  refine ⟨?_, ?_⟩
  · simp [Oper.about, ho, resolve, Target.leads, Sem.run_pure]
  · rw [Oper.semAt_plain F _ _ (by rw [ho]; intro c hc'; cases hc')]
    simp [execOp, ho, resolve, invoke, builtin, hs, hx, hr, Result.andThen]
    exact hK _ _ (h v' w' h2 h3 h4)

end Stp
end Go.Proofs.YteokigpeaggemaaDoor
