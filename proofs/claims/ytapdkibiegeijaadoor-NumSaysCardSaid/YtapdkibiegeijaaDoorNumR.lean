/- A range over a function of two values whose rounds all go on: the statement's law; what slices.Backward gives. Conditions: the body leaves what the iterator reads; parts whose cells hold them. -/
import Derived.Test.YtapdkibiegeijaaDoorNumM
import Derived.RangeFuncNested
import Derived.RangeFuncBound
import Derived.RangeFuncCalls
import Derived.RangeFuncLeaves
import Derived.Shelf.Abstract
import Derived.Shelf.RegionOpen
import Derived.OwnWalkIn
import Derived.TacticsInMore
import Derived.LoopNIn
import Derived.LoopIn
namespace Go.Proofs.YtapdkibiegeijaaDoor
open Go.RowKit Go.Shelf
attribute [local go_sem] Oper.semAt_some
namespace Nm

/-- What blocks of a kind hold is as it was. -/
structure Same2 (pr : Nat → Prop) (W W' : World) : Prop where
  cell : ∀ b o, pr b → W'.cell? ⟨b, o, none⟩ = W.cell? ⟨b, o, none⟩
theorem Same2.refl (pr : Nat → Prop) (W : World) : Same2 pr W W := ⟨fun _ _ _ => rfl⟩
theorem Same2.trans {pr : Nat → Prop} {A B C : World} (h : Same2 pr A B) (k : Same2 pr B C) : Same2 pr A C := ⟨fun b o x => (k.cell b o x).trans (h.cell b o x)⟩
theorem Same2.putObj {pr : Nat → Prop} (W : World) {l : Nat} (o : Obj) (hl : ∀ b, pr b → b ≠ l) : Same2 pr W (W.putObj l o) :=
  ⟨fun b _ y => by unfold World.cell?; rw [World.putObj_heap_other (by exact hl b y)]⟩
/-- What the iterator promises: it hands xs on, in their order. -/
def Gives2 (P : Program) (m g : Nat) (lb : Array Value) (pr : Nat → Prop) (xs : List (Nat × Nat)) (w : World) : Prop :=
  ∀ (l : Nat) (J : List (Nat × Nat) → World → Prop) (W : World), Below w.heap.size w W →
    (∀ pre x W1, J pre W1 → (pre ++ [x]) <+: xs → YieldAt Fence.wide (m - 1) P l #[.int .i64 (x.1 : Int), .int .u32 (x.2 : Int)] W1 fun e W' => e = .returned (.bool true) ∧ J (pre ++ [x]) W' ∧ Same2 pr W1 W') →
    J [] W →
    CallsIn Fence.wide m P g (#[.func (.yield l) #[] #[]] ++ lb) W fun e W' => (∃ v, e = .returned v) ∧ J xs W'
/-- A round goes on. -/
def on2 (B : Nat) (pr : Nat → Prop) (I : List (Nat × Nat) → World → Prop) (xs : List (Nat × Nat)) (W : World) : Exit → Act → World → Prop
  | .normal, _, W' => KeepsFrom B W W' ∧ Same2 pr W W' ∧ I xs W'
  | _, _, _ => False

theorem range_two {P : Program} {m : Nat} {g : Operand} {p q : Tmp} {assign body : Code} {Q : Exit → Act → World → Prop} {a : Act} {w : World} {gf : Nat} {lb : Array Value}
    (hg : a.eval g = .func (.func gf) #[] lb) (eg : ∀ args w, (callFunc gf args).run P w = .ok (.enter gf args) w) {pr : Nat → Prop} {xs : List (Nat × Nat)} (hpr : ∀ b, pr b → b < w.heap.size)
    (hseq : Gives2 P (m - 1) gf lb pr xs w)
    (I : List (Nat × Nat) → World → Prop) (hI : OwnFrom w.heap.size I) (h0 : I [] w) (a₁ : Nat × Nat → Act)
    (hassign : ∀ (l : Nat) (x : Nat × Nat) (W : World) (K : Act → World → Prop), K (a₁ x) W →
      assign.wpIn (Fence.wide.inRound l) (m - 1 - 1) P (Exit.then K (fun _ _ _ => False)) { tmps := ((#[p, q] : Array Tmp).zip #[Value.int .i64 (x.1 : Int), Value.int .u32 (x.2 : Int)]).foldl (fun t (p, v) => t.setIfInBounds p v) a.tmps, defers := [] } W)
    (hbody : ∀ (l : Nat) (pre : List (Nat × Nat)) (x : Nat × Nat) (W : World), I pre W → (pre ++ [x]) <+: xs → body.wpIn (Fence.wide.inRound l) (m - 1 - 1) P (on2 w.heap.size pr I (pre ++ [x]) W) (a₁ x) W)
    (hdone : ∀ (W : World), I xs W → W.heap[w.heap.size]? = some (.deferred (some [])) → Q .normal { a with defers := { target := .collected w.heap.size, args := #[] } :: a.defers } W) :
    (Code.rangeFunc g #[p, q] assign body).wpIn Fence.wide m P Q a w := by
  refine wpIn_rangeFunc ?_
  intro fn hfn
  let rec' : LoopState → Option Code → Loop := fun st pe => { state := st, pending := pe, fn, tmps := a.tmps, params := #[p, q], assign, body, defers := w.heap.size }
  let busy : Obj := .loop { rec' .ready none with state := .busy }
  have hW1 : ∀ W1, W1 = (w.alloc (.deferred (some []))).alloc (.loop (rec' .ready none)) → W1.heap[w.heap.size + 1]? = some (.loop (rec' .ready none)) ∧ W1.heap[w.heap.size]? = some (.deferred (some [])) ∧ I [] W1 ∧ Below w.heap.size w W1 := by
    rintro W1 rfl
    refine ⟨?_, (Below.heap_alloc _ _ _ (by simp)).trans (World.alloc_heap_new w _), hI.alloc _ (hI.alloc _ h0), ((Below.refl _ w).alloc (Nat.le_refl _) _).alloc (by simp) _⟩
    have := World.alloc_heap_new (w.alloc (.deferred (some []))) (.loop (rec' .ready none))
    rwa [World.size_alloc] at this
  obtain ⟨W1, eW1⟩ : ∃ W1, W1 = (w.alloc (.deferred (some []))).alloc (.loop (rec' .ready none)) := ⟨_, rfl⟩
  obtain ⟨hL1, hK1, hI1, hb1⟩ := hW1 W1 eW1
  refine ⟨w.heap.size + 1, [{ target := .collected w.heap.size, args := #[] }], W1, { target := .fn (.func gf) lb, args := #[.func (.yield (w.heap.size + 1)) #[] #[]] }, W1, gf,
    #[.func (.yield (w.heap.size + 1)) #[] #[]] ++ lb, W1, ?_, ?_, fun _ _ => trivial, ?_, fun h => by simp [Fence.wide] at h, ?_⟩
  · rw [eW1]; exact run_enterLoop_outer _ _ _ _ _
  · simp only [resolve, hg]
    simp [go_sem]
  · simp [invoke, go_sem, eg]
  let J : List (Nat × Nat) → World → Prop := fun pre W => I pre W ∧ W.heap[w.heap.size + 1]? = some (.loop (rec' .ready none)) ∧ W.heap[w.heap.size]? = some (.deferred (some []))
  have hprl : ∀ b, pr b → b ≠ w.heap.size + 1 := fun b hb => by have := hpr b hb; omega
  have hround : ∀ pre x W, J pre W → (pre ++ [x]) <+: xs → YieldAt Fence.wide (m - 1 - 1) P (w.heap.size + 1) #[.int .i64 (x.1 : Int), .int .u32 (x.2 : Int)] W fun e W' =>
      e = .returned (.bool true) ∧ J (pre ++ [x]) W' ∧ Same2 pr W W' := by
    rintro pre x W ⟨hi', hl, hk⟩ hpx
    have hlt : w.heap.size + 1 < W.heap.size := (Array.getElem?_eq_some_iff.1 hl).1
    refine ⟨fn, _, assign, body, run_yield (P := P) (args := #[.int .i64 (x.1 : Int), .int .u32 (x.2 : Int)]) hl rfl, roundIn_of_wpIn hfn ?_⟩
    refine hassign _ x W _ ?_
    refine ⟨_, run_beginRound hl rfl, ?_⟩
    have hl2 : (W.putObj (w.heap.size + 1) busy).heap[w.heap.size + 1]? = some busy := World.putObj_heap_same hlt
    have hk2 : (W.putObj (w.heap.size + 1) busy).heap[w.heap.size]? = some (.deferred (some [])) := (World.putObj_heap_other (by omega)).trans hk
    have hs2 : Same2 pr W (W.putObj (w.heap.size + 1) busy) := Same2.putObj W _ hprl
    refine wpIn_mono (hbody _ pre x _ (hI.putObj _ hi' (by omega) hl rfl) hpx) ?_
    rintro e a3 W3 hp
    cases e with
    | normal =>
      obtain ⟨hk3, hs3, hi3⟩ := hp
      have hl3 := hk3.same _ _ (by omega) hl2 rfl
      refine ⟨_, _, run_endRound (P := P) none hl3, rfl, ⟨hI.putObj _ hi3 (by omega) hl3 rfl, World.putObj_heap_same (Array.getElem?_eq_some_iff.1 hl3).1, (World.putObj_heap_other (by omega)).trans (hk3.same _ _ (Nat.le_refl _) hk2 rfl)⟩, (hs2.trans hs3).trans (Same2.putObj _ _ hprl)⟩
    | ret => exact hp.elim
    | exit id => exact hp.elim
    | goto t => exact hp.elim
    | panic ch => exact hp.elim
    | outgrown => exact hp.elim
  refine (hseq (w.heap.size + 1) J W1 hb1 hround ⟨hI1, hL1, hK1⟩).mono ?_
  rintro e W2 ⟨⟨v, rfl⟩, hi', hl, hk⟩
  exact ⟨none, _, run_endLoop (P := P) hl (by simp [rec']), hdone _ (hI.putObj _ hi' (by omega) hl rfl) ((World.putObj_heap_other (by omega)).trans hk)⟩

/-- The parts with their places, from the last one on. -/
def backs (l : List Nat) : List (Nat × Nat) := ((List.range l.length).map fun i => (i, l.getD i 0)).reverse
theorem backs_at (l : List Nat) (j : Nat) (h : j < l.length) : (((List.range l.length).drop (j + 1)).map fun i => (i, l.getD i 0)).reverse ++ [(j, l.getD j 0)] = (((List.range l.length).drop j).map fun i => (i, l.getD i 0)).reverse := by
  rw [List.drop_eq_getElem_cons (show j < (List.range l.length).length by simpa using h)]
  simp
theorem backs_prefix (l : List Nat) (j : Nat) : (((List.range l.length).drop j).map fun i => (i, l.getD i 0)).reverse <+: backs l := by
  unfold backs
  rw [List.reverse_prefix]
  exact List.IsSuffix.map _ (List.drop_suffix _ _)

set_option maxHeartbeats 400000 in
theorem backward_any (ao : Option Addr) (n cap : Nat) (w : World) :
    Calls Tryd.prog 43 #[.slice ao n cap] w fun e w' => e = .returned (.func (.func 60) #[] #[.pointer (some ⟨w.heap.size, 0, none⟩)]) ∧ w' = w.alloc (.cells #[.slice ao n cap] 23) := by
  go_enter Tryd.func43, Tryd.ntmps43
  go_wp2
  go_ret
  exact ⟨rfl, rfl⟩
/-- The blocks that the iterator reads. -/
def reads (C : Nat) (ao : Option Addr) (b : Nat) : Prop := b = C ∨ (b < C ∧ ∃ o, ao = some ⟨b, o, none⟩)
set_option maxRecDepth 100000 in
set_option maxHeartbeats 2000000 in
theorem backward1_in (m C l n cap : Nat) (ao : Option Addr) (ps : List Nat) (J : List (Nat × Nat) → World → Prop) (W : World) (hn : ps.length = n) (hl : n < 1073741824)
    (hC : W.cell? ⟨C, 0, none⟩ = some (.slice ao n cap)) (hS : 0 < ps.length → ∃ bk off, ao = some ⟨bk, off, none⟩ ∧ bk < C ∧ AtN W bk off ps)
    (hY : ∀ pre x W1, J pre W1 → (pre ++ [x]) <+: backs ps → YieldAt Fence.wide (m - 1) Tryd.prog l #[.int .i64 (x.1 : Int), .int .u32 (x.2 : Int)] W1 fun e W' => e = .returned (.bool true) ∧ J (pre ++ [x]) W' ∧ Same2 (reads C ao) W1 W')
    (h0 : J [] W) :
    CallsIn Fence.wide m Tryd.prog 60 #[.func (.yield l) #[] #[], .pointer (some ⟨C, 0, none⟩)] W fun e W' => (∃ v, e = .returned v) ∧ J (backs ps) W' := by
  have HS := hidden hS
  have HC := hidden hC
  have HN := hidden hn
  clear hS hn
  refine callsIn_of_wp Tryd.func60 rfl trivial ?_ rfl
  simp only [Tryd.ntmps60, List.size_toArray, List.length_cons, List.length_nil, Nat.reduceAdd, Nat.reduceSub, Array.replicate_succ, Array.replicate_zero, List.push_toArray, List.append_toArray, List.nil_append, List.cons_append]
  gi_wp2
  gi_loopw [3] (fun i wr => ∃ j : Nat, j ≤ n ∧ i = .int .i64 ((j : Int) - 1) ∧ Hid (J (((List.range ps.length).drop j).map fun i => (i, ps.getD i 0)).reverse wr) ∧ Hid (Same2 (reads C ao) W wr)) (fun i _ => (intOf i + 1).toNat)
  case atStart => exact ⟨n, Nat.le_refl _, rfl, hidden (by rw [List.drop_of_length_le (by rw [List.length_range, HN.out]; omega)]; exact h0), hidden (Same2.refl _ _)⟩
  case round =>
    clear hC h0
    obtain ⟨j, hj, rfl, hJ, hSm⟩ := hrel
    by_cases hp : 0 < j
    · obtain ⟨i, rfl⟩ : ∃ i, j = i + 1 := ⟨j - 1, by omega⟩
      rw [show ((i + 1 : Nat) : Int) - 1 = (i : Int) by omega]
      have hcc := (hSm.out.cell C 0 (.inl rfl)).trans HC.out
      obtain ⟨bk, off, rfl, hb, hA⟩ := HS.out (by rw [HN.out]; omega)
      have hce := (hSm.out.cell bk (off + i) (.inr ⟨hb, off, rfl⟩)).trans (hA.get i (by rw [HN.out]; omega))
      obtain ⟨x, hx⟩ : ∃ x, ps.getD i 0 = x := ⟨_, rfl⟩
      have hnx := backs_at ps i (by rw [HN.out]; omega)
      rw [hx] at hce hnx
      have HNX := hidden hnx
      obtain ⟨fn, tmps, assign, body, hy, hR⟩ := hY _ (i, x) wr hJ.out (by rw [HNX.out]; exact backs_prefix ps i)
      clear hx hnx hb hA
      gi_wp2
      refine ⟨(fun h => by simp [Fence.wide] at h), hR.mono ?_⟩
      rintro e W3 ⟨rfl, hJ3, hs3⟩
      rw [HNX.out] at hJ3
      have HJ3 := hidden hJ3
      have HS3 := hidden (hSm.out.trans hs3)
      clear hJ3 hs3
      gi_wp2
      go_roundw
      case rel => exact ⟨i, by omega, by go_num, HJ3, HS3⟩
      case measure => simp [intOf]
    · obtain rfl : j = 0 := by omega
      gi_wp2
      go_end0
      exact ⟨⟨_, rfl⟩, hJ.out⟩
theorem backward_gives (m n cap : Nat) (ao : Option Addr) (ps : List Nat) (w : World) (hn : ps.length = n) (hl : n < 1073741824) (hS : SrcN w ao ps) :
    Gives2 Tryd.prog m 60 #[.pointer (some ⟨w.heap.size, 0, none⟩)] (reads w.heap.size ao) (backs ps) (w.alloc (.cells #[.slice ao n cap] 23)) := by
  intro l J W hW hY h0
  have hcc : (w.alloc (.cells #[.slice ao n cap] 23)).cell? ⟨w.heap.size, 0, none⟩ = some (.slice ao n cap) := cell_of_row _ w.heap.size 0 _ _ _ (heap_alloc_new _ _)
  exact backward1_in m w.heap.size l n cap ao ps J W hn hl ((hW.cell (p := ⟨w.heap.size, 0, none⟩) (by simp)).trans hcc) (fun hp => by
    obtain ⟨bk, off, e, hb, hA⟩ := hS hp
    exact ⟨bk, off, e, hb, (hA.below ((Below.refl _ _).alloc (Nat.le_refl _) _) hb).below hW (by simp; omega)⟩) hY h0
end Nm
end Go.Proofs.YtapdkibiegeijaaDoor
