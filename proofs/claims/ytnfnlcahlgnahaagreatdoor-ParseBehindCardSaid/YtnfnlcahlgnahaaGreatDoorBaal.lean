/- Parts of the proof, together. A scanner in memory: its cells, its three lists; what an append, a cut and a step make of it. Conditions: its blocks lie from block B on. -/
import Derived.Maps.AppendAt
import Derived.Deep.RegionLaw
import Derived.Deep.QuietTactic
import Derived.Test.YtnfnlcahlgnahaaGreatDoorBaak
import Derived.Test.YtnfnlcahlgnahaaGreatDoorBaaf
namespace Go.Proofs.YtnfnlcahlgnahaaGreatDoor
open Go.RowKit
open Lx

theorem info_tok : (Tryz.prog.info? 71).map (fun i => (i.zero, i.size, i.bytes)) = some (some (.agg #[.int .i64 0, .string ⟨#[]⟩, .int .i64 0]), 3, 32) := by kernel_rfl
theorem info_int : (Tryz.prog.info? 3).map (fun i => (i.zero, i.size, i.bytes)) = some (some (.int .i64 0), 1, 8) := by kernel_rfl
theorem info_u8 : (Tryz.prog.info? 5).map (fun i => (i.zero, i.size, i.bytes)) = some (some (.int .u8 0), 1, 1) := by kernel_rfl
def iv (n : Nat) : Value := .int .i64 (n : Int)
def tokC (t : Tok) : List Value := [.int .i64 (t.kind : Int), .string (txt t.text), .int .i64 (t.pos : Int)]
def scanC (T : ByteArray) (p : Nat) (vt vb vo : Value) : Array Value := #[.string T, .int .i64 (p : Int), vt, vb, vo]
/-- A scanner at place p: its cells, its lists. -/
structure ScanV (W : World) (B sb : Nat) (T : ByteArray) (p : Nat) (st : St) (vt vb vo : Value) : Prop where
  row : W.heap[sb]? = some (.cells (scanC T p vt vb vo) 99 (0, 0))
  toks : W.ownsRow B 71 3 vt st.toks.length (st.toks.flatMap tokC)
  blks : W.ownsRow B 3 1 vb st.blocks.length (st.blocks.reverse.map iv)
  opn : W.ownsRow B 5 1 vo st.op.length (st.op.reverse.map bv)
  high : B ≤ sb
def ScanAt (W : World) (B sb : Nat) (T : ByteArray) (p : Nat) (st : St) : Prop := ∃ vt vb vo, ScanV W B sb T p st vt vb vo
theorem apart_kinds {W : World} {base : Nat} {e e' : TypeId} {size n k : Nat} {v : Value} {xs : List Value} {cs : Array Value} {fz : Nat × Nat} (h : W.ownsRow base e size v n xs) (hk : W.heap[k]? = some (.cells cs e' fz)) (hne : e ≠ e') : v.ownBlock ≠ some k := by
  rcases h.2 with ⟨rfl, _⟩ | ⟨g, cap, cur, rfl, _, hg, _⟩
  · simp [Value.ownBlock]
  · intro e1
    simp only [Value.ownBlock, Option.some.injEq] at e1
    subst e1
    rw [hg] at hk
    injection hk with hk
    injection hk with _ h2 _
    exact hne h2
/-- The row of fewer. -/
theorem own_less {W : World} {base : Nat} {e : TypeId} {g n m cap : Nat} {xs : List Value} (h : W.ownsRow base e 1 (.slice (some ⟨g, 0, none⟩) n cap) n xs) (hm : m ≤ n) : W.ownsRow base e 1 (.slice (some ⟨g, 0, none⟩) m cap) m (xs.take m) := by
  have hl := h.1
  refine ⟨by rw [List.length_take]; omega, ?_⟩
  rcases h.2 with ⟨h0, _⟩ | ⟨g', cap', cur, e1, hB, hg, hc, hx, hs, ht⟩
  · cases h0
  · cases e1
    refine .inr ⟨g, cap, cur, rfl, hB, hg, by omega, hx, hs, ?_⟩
    rw [← ht, List.take_take, Nat.mul_one, Nat.mul_one, Nat.min_eq_left hm]
section
variable {W W' : World} {B sb : Nat} {T : ByteArray} {p : Nat} {st : St} {vt vb vo : Value}
theorem ScanV.lt (h : ScanV W B sb T p st vt vb vo) : sb < W.heap.size := (Array.getElem?_eq_some_iff.1 h.row).1
theorem ScanV.keep (h : ScanV W B sb T p st vt vb vo) (hk : ∀ k, B ≤ k → k < W.heap.size → W'.heap[k]? = W.heap[k]?) : ScanV W' B sb T p st vt vb vo :=
  ⟨(hk sb h.high h.lt).trans h.row, row_far h.toks fun k e hl => hk k (h.toks.lt k e).1 hl, row_far h.blks fun k e hl => hk k (h.blks.lt k e).1 hl, row_far h.opn fun k e hl => hk k (h.opn.lt k e).1 hl, h.high⟩
theorem ScanAt.keep (h : ScanAt W B sb T p st) (hk : ∀ k, B ≤ k → k < W.heap.size → W'.heap[k]? = W.heap[k]?) : ScanAt W' B sb T p st :=
  let ⟨vt, vb, vo, h⟩ := h; ⟨vt, vb, vo, h.keep hk⟩
theorem ScanAt.drewN (h : ScanAt W B sb T p st) (n : Nat) : ScanAt (W.drewN n) B sb T p st := h.keep fun _ _ _ => rfl
theorem ScanAt.below (h : ScanAt W B sb T p st) (hb : Below W.heap.size W W') : ScanAt W' B sb T p st := h.keep fun k _ hl => hb.block k hl
theorem ScanAt.lt (h : ScanAt W B sb T p st) : B ≤ sb ∧ sb < W.heap.size := let ⟨_, _, _, h⟩ := h; ⟨h.high, h.lt⟩
theorem ScanV.cells (h : ScanV W B sb T p st vt vb vo) : W.cell? ⟨sb, 0, none⟩ = some (.string T) ∧ W.cell? ⟨sb, 1, none⟩ = some (.int .i64 (p : Int)) ∧ W.cell? ⟨sb, 2, none⟩ = some vt ∧ W.cell? ⟨sb, 3, none⟩ = some vb ∧ W.cell? ⟨sb, 4, none⟩ = some vo :=
  ⟨cell_of_row W sb 0 _ _ _ h.row, cell_of_row W sb 1 _ _ _ h.row, cell_of_row W sb 2 _ _ _ h.row, cell_of_row W sb 3 _ _ _ h.row, cell_of_row W sb 4 _ _ _ h.row⟩
theorem ScanV.open_ (h : ScanV W B sb T p st vt vb vo) (i : Nat) : W.frozen? ⟨sb, i, none⟩ = false := frozen_of_row W sb i _ _ h.row
theorem ScanV.apart (h : ScanV W B sb T p st vt vb vo) : vt.ownBlock ≠ some sb ∧ vb.ownBlock ≠ some sb ∧ vo.ownBlock ≠ some sb :=
  ⟨apart_kinds h.toks h.row (by decide), apart_kinds h.blks h.row (by decide), apart_kinds h.opn h.row (by decide)⟩
theorem far_set (W : World) {sb k i : Nat} (u : Value) (h : k ≠ sb) : (W.setCell ⟨sb, i, none⟩ u).heap[k]? = W.heap[k]? := heap_setCell_other _ _ _ _ h
/-- Another place. -/
theorem ScanV.setPos (h : ScanV W B sb T p st vt vb vo) (p' : Nat) : ScanV (W.setCell ⟨sb, 1, none⟩ (.int .i64 (p' : Int))) B sb T p' st vt vb vo :=
  ⟨heap_setCell_same W sb 1 _ _ _ h.row, row_far h.toks fun _ e _ => far_set W _ (fun e' => h.apart.1 (e' ▸ e)), row_far h.blks fun _ e _ => far_set W _ (fun e' => h.apart.2.1 (e' ▸ e)), row_far h.opn fun _ e _ => far_set W _ (fun e' => h.apart.2.2 (e' ▸ e)), h.high⟩
/-- Another list of tokens. -/
theorem ScanV.setToks (h : ScanV W B sb T p st vt vb vo) {u : Value} {l : List Tok} (hu : W'.ownsRow B 71 3 u l.length (l.flatMap tokC)) (hk : ∀ k, k < W.heap.size → vt.ownBlock ≠ some k → W'.heap[k]? = W.heap[k]?) :
    W'.cell? ⟨sb, 2, none⟩ = some vt ∧ W'.frozen? ⟨sb, 2, none⟩ = false ∧ W'.cell? ⟨sb, 1, none⟩ = some (.int .i64 (p : Int)) ∧ W'.frozen? ⟨sb, 1, none⟩ = false ∧ ScanV (W'.setCell ⟨sb, 2, none⟩ u) B sb T p { st with toks := l } u vb vo := by
  have hr : W'.heap[sb]? = some (.cells (scanC T p vt vb vo) 99 (0, 0)) := (hk sb h.lt h.apart.1).trans h.row
  have hb : W'.ownsRow B 3 1 vb st.blocks.length (st.blocks.reverse.map iv) := row_far h.blks fun k e hl => hk k hl (by
    rcases h.blks.2 with ⟨rfl, _⟩ | ⟨g, cap, cur, rfl, _, hg, _⟩
    · simp [Value.ownBlock] at e
    · obtain rfl : g = k := by simpa [Value.ownBlock] using e
      exact apart_kinds h.toks hg (by decide))
  have ho : W'.ownsRow B 5 1 vo st.op.length (st.op.reverse.map bv) := row_far h.opn fun k e hl => hk k hl (by
    rcases h.opn.2 with ⟨rfl, _⟩ | ⟨g, cap, cur, rfl, _, hg, _⟩
    · simp [Value.ownBlock] at e
    · obtain rfl : g = k := by simpa [Value.ownBlock] using e
      exact apart_kinds h.toks hg (by decide))
  exact ⟨cell_of_row W' sb 2 _ _ _ hr, frozen_of_row W' sb 2 _ _ hr, cell_of_row W' sb 1 _ _ _ hr, frozen_of_row W' sb 1 _ _ hr,
    ⟨heap_setCell_same W' sb 2 _ _ _ hr, row_far hu fun k e _ => far_set W' _ (fun e' => apart_kinds hu hr (by decide) (e' ▸ e)), row_far hb fun k e _ => far_set W' _ (fun e' => apart_kinds hb hr (by decide) (e' ▸ e)), row_far ho fun k e _ => far_set W' _ (fun e' => apart_kinds ho hr (by decide) (e' ▸ e)), h.high⟩⟩
/-- Other blocks. -/
theorem ScanV.setBlks (h : ScanV W B sb T p st vt vb vo) {u : Value} {l : List Nat} (hu : W'.ownsRow B 3 1 u l.length (l.reverse.map iv)) (hk : ∀ k, k < W.heap.size → vb.ownBlock ≠ some k → W'.heap[k]? = W.heap[k]?) :
    W'.cell? ⟨sb, 3, none⟩ = some vb ∧ W'.frozen? ⟨sb, 3, none⟩ = false ∧ ScanV (W'.setCell ⟨sb, 3, none⟩ u) B sb T p { st with blocks := l } vt u vo := by
  have hr : W'.heap[sb]? = some (.cells (scanC T p vt vb vo) 99 (0, 0)) := (hk sb h.lt h.apart.2.1).trans h.row
  have ht : W'.ownsRow B 71 3 vt st.toks.length (st.toks.flatMap tokC) := row_far h.toks fun k e hl => hk k hl (by
    rcases h.toks.2 with ⟨rfl, _⟩ | ⟨g, cap, cur, rfl, _, hg, _⟩
    · simp [Value.ownBlock] at e
    · obtain rfl : g = k := by simpa [Value.ownBlock] using e
      exact apart_kinds h.blks hg (by decide))
  have ho : W'.ownsRow B 5 1 vo st.op.length (st.op.reverse.map bv) := row_far h.opn fun k e hl => hk k hl (by
    rcases h.opn.2 with ⟨rfl, _⟩ | ⟨g, cap, cur, rfl, _, hg, _⟩
    · simp [Value.ownBlock] at e
    · obtain rfl : g = k := by simpa [Value.ownBlock] using e
      exact apart_kinds h.blks hg (by decide))
  exact ⟨cell_of_row W' sb 3 _ _ _ hr, frozen_of_row W' sb 3 _ _ hr,
    ⟨heap_setCell_same W' sb 3 _ _ _ hr, row_far ht fun k e _ => far_set W' _ (fun e' => apart_kinds ht hr (by decide) (e' ▸ e)), row_far hu fun k e _ => far_set W' _ (fun e' => apart_kinds hu hr (by decide) (e' ▸ e)), row_far ho fun k e _ => far_set W' _ (fun e' => apart_kinds ho hr (by decide) (e' ▸ e)), h.high⟩⟩
/-- Other brackets. -/
theorem ScanV.setOpn (h : ScanV W B sb T p st vt vb vo) {u : Value} {l : List UInt8} (hu : W'.ownsRow B 5 1 u l.length (l.reverse.map bv)) (hk : ∀ k, k < W.heap.size → vo.ownBlock ≠ some k → W'.heap[k]? = W.heap[k]?) :
    W'.cell? ⟨sb, 4, none⟩ = some vo ∧ W'.frozen? ⟨sb, 4, none⟩ = false ∧ ScanV (W'.setCell ⟨sb, 4, none⟩ u) B sb T p { st with op := l } vt vb u := by
  have hr : W'.heap[sb]? = some (.cells (scanC T p vt vb vo) 99 (0, 0)) := (hk sb h.lt h.apart.2.2).trans h.row
  have ht : W'.ownsRow B 71 3 vt st.toks.length (st.toks.flatMap tokC) := row_far h.toks fun k e hl => hk k hl (by
    rcases h.toks.2 with ⟨rfl, _⟩ | ⟨g, cap, cur, rfl, _, hg, _⟩
    · simp [Value.ownBlock] at e
    · obtain rfl : g = k := by simpa [Value.ownBlock] using e
      exact apart_kinds h.opn hg (by decide))
  have hb : W'.ownsRow B 3 1 vb st.blocks.length (st.blocks.reverse.map iv) := row_far h.blks fun k e hl => hk k hl (by
    rcases h.blks.2 with ⟨rfl, _⟩ | ⟨g, cap, cur, rfl, _, hg, _⟩
    · simp [Value.ownBlock] at e
    · obtain rfl : g = k := by simpa [Value.ownBlock] using e
      exact apart_kinds h.opn hg (by decide))
  exact ⟨cell_of_row W' sb 4 _ _ _ hr, frozen_of_row W' sb 4 _ _ hr,
    ⟨heap_setCell_same W' sb 4 _ _ _ hr, row_far ht fun k e _ => far_set W' _ (fun e' => apart_kinds ht hr (by decide) (e' ▸ e)), row_far hb fun k e _ => far_set W' _ (fun e' => apart_kinds hb hr (by decide) (e' ▸ e)), row_far hu fun k e _ => far_set W' _ (fun e' => apart_kinds hu hr (by decide) (e' ▸ e)), h.high⟩⟩
end
end Go.Proofs.YtnfnlcahlgnahaaGreatDoor
