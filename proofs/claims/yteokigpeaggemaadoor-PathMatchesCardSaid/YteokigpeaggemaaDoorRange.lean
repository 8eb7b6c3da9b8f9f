/- A range over a function whose iterator stores into a captured variable of its own between two rounds: the statement's law, out of the library's law of the bare statement. Conditions: the body leaves the iterator's captured variables as they lie; what it says of the world abides a store into the one of them that the iterator writes. -/
import Derived.RangeFuncNested
import Derived.RangeFuncBound
import Derived.RangeFuncCalls
import Derived.RangeFuncLeaves
import Derived.WalkKit
namespace Go.Proofs.YteokigpeaggemaaDoor
open Go.RowKit
namespace Rng

/-- The cells of the blocks from lo on, below hi, are as they were. -/
structure Same (lo hi : Nat) (W W' : World) : Prop where
  cell : ∀ b o, lo ≤ b → b < hi → W'.cell? ⟨b, o, none⟩ = W.cell? ⟨b, o, none⟩
  frozen : ∀ b o, lo ≤ b → b < hi → W'.frozen? ⟨b, o, none⟩ = W.frozen? ⟨b, o, none⟩
theorem Same.refl (lo hi : Nat) (W : World) : Same lo hi W W := ⟨fun _ _ _ _ => rfl, fun _ _ _ _ => rfl⟩
theorem Same.trans {lo hi : Nat} {A B C : World} (h : Same lo hi A B) (k : Same lo hi B C) : Same lo hi A C :=
  ⟨fun b o x y => (k.cell b o x y).trans (h.cell b o x y), fun b o x y => (k.frozen b o x y).trans (h.frozen b o x y)⟩
theorem Same.putObj {lo hi : Nat} (W : World) {l : Nat} (o : Obj) (hl : hi ≤ l) : Same lo hi W (W.putObj l o) :=
  ⟨fun b _ _ y => by unfold World.cell?; rw [World.putObj_heap_other (by show b ≠ l; omega)], fun b _ _ y => by unfold World.frozen?; rw [World.putObj_heap_other (by show b ≠ l; omega)]⟩
theorem Same.alloc {lo hi : Nat} (W : World) (o : Obj) (h : hi ≤ W.heap.size) : Same lo hi W (W.alloc o) :=
  ⟨fun b x _ y => ((Below.refl hi W).alloc h o).cell (p := ⟨b, x, none⟩) y, fun b x _ y => ((Below.refl hi W).alloc h o).frozen (p := ⟨b, x, none⟩) y⟩

/-- What the iterator promises: it hands xs on, in their order, and stores into block lo alone. -/
def Gives (P : Program) (m g : Nat) (lb : Array Value) (lo hi : Nat) (xs : List ByteArray) (w : World) : Prop :=
  ∀ (l : Nat) (J Jx : List ByteArray → World → Prop) (W : World), Below w.heap.size w W → (∀ s W v, J s W → J s (W.setCell ⟨lo, 0, none⟩ v)) →
    (∀ pre x W1, J pre W1 → (pre ++ [x]) <+: xs → YieldAt Fence.wide (m - 1) P l #[.string x] W1 fun e W' =>
      (e = .returned (.bool true) ∧ J (pre ++ [x]) W' ∧ Same lo hi W1 W') ∨ (e = .returned (.bool false) ∧ Jx (pre ++ [x]) W')) →
    J [] W →
    CallsIn Fence.wide m P g (#[.func (.yield l) #[] #[]] ++ lb) W fun e W' => (∃ v, e = .returned v) ∧ (J xs W' ∨ ∃ pre, pre <+: xs ∧ Jx pre W')

/-- How the body of a round may be left. -/
def left (B lo hi : Nat) (I : List ByteArray → World → Prop) (Ix : Code → List ByteArray → World → Prop) (xs : List ByteArray) (W : World) : Exit → Act → World → Prop
  | .normal, _, W' => KeepsFrom B W W' ∧ Same lo hi W W' ∧ I xs W'
  | .ret, _, W' => KeepsFrom B W W' ∧ Ix .ret xs W'
  | .exit id, _, W' => KeepsFrom B W W' ∧ Ix (.exit id) xs W'
  | .goto t, _, W' => KeepsFrom B W W' ∧ Ix (.goto t) xs W'
  | .panic _, _, _ => False
  | .outgrown, _, _ => False

theorem range_stores {P : Program} {m : Nat} {g : Operand} {p : Tmp} {assign body : Code} {Q : Exit → Act → World → Prop} {a : Act} {w : World} {gf : Nat} {lb : Array Value}
    (hg : a.eval g = .func (.func gf) #[] lb) (eg : ∀ args w, (callFunc gf args).run P w = .ok (.enter gf args) w) {lo hi : Nat} {xs : List ByteArray} (_hlh : lo < hi) (hhi : hi ≤ w.heap.size)
    (hseq : Gives P (m - 1) gf lb lo hi xs w)
    (I : List ByteArray → World → Prop) (Ix : Code → List ByteArray → World → Prop) (hI : OwnFrom w.heap.size I) (hIs : ∀ s W v, I s W → I s (W.setCell ⟨lo, 0, none⟩ v)) (hIx : ∀ c, OwnFrom w.heap.size (Ix c)) (h0 : I [] w) (a₁ : ByteArray → Act)
    (hassign : ∀ (l : Nat) (x : ByteArray) (W : World) (K : Act → World → Prop), K (a₁ x) W →
      assign.wpIn (Fence.wide.inRound l) (m - 1 - 1) P (Exit.then K (fun _ _ _ => False)) { tmps := ((#[p] : Array Tmp).zip #[Value.string x]).foldl (fun t (p, v) => t.setIfInBounds p v) a.tmps, defers := [] } W)
    (hbody : ∀ (l : Nat) (pre : List ByteArray) (x : ByteArray) (W : World), I pre W → (pre ++ [x]) <+: xs → body.wpIn (Fence.wide.inRound l) (m - 1 - 1) P (left w.heap.size lo hi I Ix (pre ++ [x]) W) (a₁ x) W)
    (hdone : ∀ (W : World), I xs W → W.heap[w.heap.size]? = some (.deferred (some [])) → Q .normal { a with defers := { target := .collected w.heap.size, args := #[] } :: a.defers } W)
    (hstop : ∀ (c : Code) (pre : List ByteArray) (W : World), pre <+: xs → Ix c pre W → W.heap[w.heap.size]? = some (.deferred (some [])) → c.wpIn Fence.wide m P Q { a with defers := { target := .collected w.heap.size, args := #[] } :: a.defers } W) :
    (Code.rangeFunc g #[p] assign body).wpIn Fence.wide m P Q a w := by
  refine wpIn_rangeFunc ?_
  intro fn hfn
  -- the record as the statement lays it, at each state of the loop
  let rec' : LoopState → Option Code → Loop := fun st pe => { state := st, pending := pe, fn, tmps := a.tmps, params := #[p], assign, body, defers := w.heap.size }
  let busy : Obj := .loop { rec' .ready none with state := .busy }
  have hW1 : ∀ W1, W1 = (w.alloc (.deferred (some []))).alloc (.loop (rec' .ready none)) → W1.heap[w.heap.size + 1]? = some (.loop (rec' .ready none)) ∧ W1.heap[w.heap.size]? = some (.deferred (some [])) ∧ I [] W1 ∧ Below w.heap.size w W1 := by
    rintro W1 rfl
    refine ⟨?_, (Below.heap_alloc _ _ _ (by simp)).trans (World.alloc_heap_new w _), hI.alloc _ (hI.alloc _ h0), ((Below.refl _ w).alloc (Nat.le_refl _) _).alloc (by simp) _⟩
    have := World.alloc_heap_new (w.alloc (.deferred (some []))) (.loop (rec' .ready none))
    rwa [World.size_alloc] at this
  obtain ⟨W1, eW1⟩ : ∃ W1, W1 = (w.alloc (.deferred (some []))).alloc (.loop (rec' .ready none)) := ⟨_, rfl⟩
  obtain ⟨hL1, hK1, hI1, hb1⟩ := hW1 W1 eW1
  refine ⟨w.heap.size + 1, [{ target := .collected w.heap.size, args := #[] }], W1, { target := .fn (.func gf) lb, args := #[.func (.yield (w.heap.size + 1)) #[] #[]] }, W1, gf,
    #[.func (.yield (w.heap.size + 1)) #[] #[]] ++ lb, W1, ?_, ?_, fun _ _ => trivial, ?_, fun h => by simp [Fence.wide] at h, ?_⟩
  · rw [eW1]; exact run_enterLoop_outer _ _ _ _ _
  · simp only [resolve, hg]
    simp [go_sem]
  · simp [invoke, go_sem, eg]
  -- what holds between two rounds, and where a round has left
  let J : List ByteArray → World → Prop := fun pre W => I pre W ∧ W.heap[w.heap.size + 1]? = some (.loop (rec' .ready none)) ∧ W.heap[w.heap.size]? = some (.deferred (some []))
  let Jx : List ByteArray → World → Prop := fun pre W => ∃ c, Ix c pre W ∧ W.heap[w.heap.size + 1]? = some (.loop (rec' .done (some c))) ∧ W.heap[w.heap.size]? = some (.deferred (some []))
  have hJs : ∀ s W v, J s W → J s (W.setCell ⟨lo, 0, none⟩ v) := by
    rintro s W v ⟨x, y, z⟩
    exact ⟨hIs s W v x, (KeepsOthers.setCell W ⟨lo, 0, none⟩ v).same _ _ y rfl, (KeepsOthers.setCell W ⟨lo, 0, none⟩ v).same _ _ z rfl⟩
  have hround : ∀ pre x W, J pre W → (pre ++ [x]) <+: xs → YieldAt Fence.wide (m - 1 - 1) P (w.heap.size + 1) #[.string x] W fun e W' =>
      (e = .returned (.bool true) ∧ J (pre ++ [x]) W' ∧ Same lo hi W W') ∨ (e = .returned (.bool false) ∧ Jx (pre ++ [x]) W') := by
    rintro pre x W ⟨hi', hl, hk⟩ hpx
    have hlt : w.heap.size + 1 < W.heap.size := (Array.getElem?_eq_some_iff.1 hl).1
    refine ⟨fn, _, assign, body, run_yield (P := P) (args := #[.string x]) hl rfl, roundIn_of_wpIn hfn ?_⟩
    refine hassign _ x W _ ?_
    refine ⟨_, run_beginRound hl rfl, ?_⟩
    have hl2 : (W.putObj (w.heap.size + 1) busy).heap[w.heap.size + 1]? = some busy := World.putObj_heap_same hlt
    have hk2 : (W.putObj (w.heap.size + 1) busy).heap[w.heap.size]? = some (.deferred (some [])) := (World.putObj_heap_other (by omega)).trans hk
    have hs2 : Same lo hi W (W.putObj (w.heap.size + 1) busy) := Same.putObj W _ (by omega)
    refine wpIn_mono (hbody _ pre x _ (hI.putObj _ hi' (by omega) hl rfl) hpx) ?_
    have fin : ∀ (jump : Option Code) (W3 : World), KeepsFrom w.heap.size (W.putObj (w.heap.size + 1) busy) W3 →
        (Instr.endRound (w.heap.size + 1) jump).run P W3 = .ok (.bool jump.isNone) (W3.putObj (w.heap.size + 1) (.loop (rec' (if jump.isNone then .ready else .done) jump))) ∧ W3.heap[w.heap.size + 1]? = some busy ∧
        (W3.putObj (w.heap.size + 1) (.loop (rec' (if jump.isNone then .ready else .done) jump))).heap[w.heap.size + 1]? = some (.loop (rec' (if jump.isNone then .ready else .done) jump)) ∧
        (W3.putObj (w.heap.size + 1) (.loop (rec' (if jump.isNone then .ready else .done) jump))).heap[w.heap.size]? = some (.deferred (some [])) := fun jump W3 hk3 => by
      have hl3 := hk3.same _ _ (by omega) hl2 rfl
      exact ⟨run_endRound (P := P) jump hl3, hl3, World.putObj_heap_same (Array.getElem?_eq_some_iff.1 hl3).1, (World.putObj_heap_other (by omega)).trans (hk3.same _ _ (Nat.le_refl _) hk2 rfl)⟩
    have jump : ∀ (c : Code) (W3 : World), KeepsFrom w.heap.size (W.putObj (w.heap.size + 1) busy) W3 → Ix c (pre ++ [x]) W3 →
        (Instr.endRound (w.heap.size + 1) (some c)).run P W3 = .ok (.bool false) (W3.putObj (w.heap.size + 1) (.loop (rec' .done (some c)))) ∧ Jx (pre ++ [x]) (W3.putObj (w.heap.size + 1) (.loop (rec' .done (some c)))) := fun c W3 hk3 hx => by
      obtain ⟨hr, hl3, hl4, hk4⟩ := fin (some c) W3 hk3
      exact ⟨hr, c, (hIx c).putObj _ hx (by omega) hl3 rfl, hl4, hk4⟩
    rintro e a3 W3 hp
    cases e with
    | normal =>
      obtain ⟨hk3, hs3, hi3⟩ := hp
      obtain ⟨hr, hl3, hl4, hk4⟩ := fin none W3 hk3
      exact ⟨_, _, hr, .inl ⟨rfl, ⟨hI.putObj _ hi3 (by omega) hl3 rfl, hl4, hk4⟩, (hs2.trans hs3).trans (Same.putObj _ _ (by omega))⟩⟩
    | ret => exact ⟨_, _, (jump _ W3 hp.1 hp.2).1, .inr ⟨rfl, (jump _ W3 hp.1 hp.2).2⟩⟩
    | exit id => exact ⟨_, _, (jump _ W3 hp.1 hp.2).1, .inr ⟨rfl, (jump _ W3 hp.1 hp.2).2⟩⟩
    | goto t => exact ⟨_, _, (jump _ W3 hp.1 hp.2).1, .inr ⟨rfl, (jump _ W3 hp.1 hp.2).2⟩⟩
    | panic ch => exact hp.elim
    | outgrown => exact hp.elim
  refine (hseq (w.heap.size + 1) J Jx W1 hb1 hJs hround ⟨hI1, hL1, hK1⟩).mono ?_
  rintro e W2 ⟨⟨v, rfl⟩, (⟨hi', hl, hk⟩ | ⟨pre, hpre, c, hi', hl, hk⟩)⟩
  · exact ⟨none, _, run_endLoop (P := P) hl (by simp [rec']), hdone _ (hI.putObj _ hi' (by omega) hl rfl) ((World.putObj_heap_other (by omega)).trans hk)⟩
  · exact ⟨some c, _, run_endLoop (P := P) hl (by simp [rec']), hstop c pre _ hpre ((hIx c).putObj _ hi' (by omega) hl rfl) ((World.putObj_heap_other (by omega)).trans hk)⟩

end Rng
end Go.Proofs.YteokigpeaggemaaDoor
