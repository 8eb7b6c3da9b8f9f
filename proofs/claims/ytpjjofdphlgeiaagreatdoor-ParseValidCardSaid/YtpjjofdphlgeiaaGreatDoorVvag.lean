/- Parts of the proof, together. A scanner in memory: its cells, its three lists; what an append, a cut and a step make of it. Conditions: its blocks lie from block B on. What the scanner's small calls make of it: block, lineEnds, add, fault. Conditions: its blocks lie from block B on; short texts. -/
import Derived.Maps.AppendAt
import Derived.Deep.RegionLaw
import Derived.Deep.QuietTactic
import Derived.BigQuiet
import Derived.Laws.NewBlocks
import Derived.Deep.RegionHeld3
import Derived.Test.YtpjjofdphlgeiaaGreatDoorVvaf
import Derived.Test.YtpjjofdphlgeiaaGreatDoorVvab
namespace Go.Proofs.YtpjjofdphlgeiaaGreatDoor
open Go.RowKit
open Lx

theorem info_tok : (Tryz.prog.info? 71).map (fun i => (i.zero, i.size, i.bytes)) = some (some (.agg #[.int .i64 0, .string ⟨#[]⟩, .int .i64 0]), 3, 32) := by kernel_rfl
theorem info_int : (Tryz.prog.info? 3).map (fun i => (i.zero, i.size, i.bytes)) = some (some (.int .i64 0), 1, 8) := by kernel_rfl
theorem info_u8 : (Tryz.prog.info? 5).map (fun i => (i.zero, i.size, i.bytes)) = some (some (.int .u8 0), 1, 1) := by kernel_rfl
def iv (n : Nat) : Value := .int .i64 (n : Int)
def tokC (t : Tok) : List Value := [.int .i64 (t.kind : Int), .string (txt t.text), .int .i64 (t.pos : Int)]
def scanC (T : ByteArray) (p : Nat) (vt vb vo : Value) : Array Value := #[.string T, .int .i64 (p : Int), vt, vb, vo]
/-- A scanner at place p: its cells, its lists. -/
structure ScanV (W : World) (B sb : Nat) (T : ByteArray) (p : Nat) (st : St) (vt vb vo : Value) : Prop where
  row : W.heap[sb]? = some (.cells (scanC T p vt vb vo) 99 (0, 0))
  toks : W.ownsRow B 71 3 vt st.toks.length (st.toks.flatMap tokC)
  blks : W.ownsRow B 3 1 vb st.blocks.length (st.blocks.reverse.map iv)
  opn : W.ownsRow B 5 1 vo st.op.length (st.op.reverse.map bv)
  high : B ≤ sb
def ScanAt (W : World) (B sb : Nat) (T : ByteArray) (p : Nat) (st : St) : Prop := ∃ vt vb vo, ScanV W B sb T p st vt vb vo
theorem apart_kinds {W : World} {base : Nat} {e e' : TypeId} {size n k : Nat} {v : Value} {xs : List Value} {cs : Array Value} {fz : Nat × Nat} (h : W.ownsRow base e size v n xs) (hk : W.heap[k]? = some (.cells cs e' fz)) (hne : e ≠ e') : v.ownBlock ≠ some k := by
  rcases h.2 with ⟨rfl, _⟩ | ⟨g, cap, cur, rfl, _, hg, _⟩
  · simp [Value.ownBlock]
  · intro e1
    simp only [Value.ownBlock, Option.some.injEq] at e1
    subst e1
    rw [hg] at hk
    injection hk with hk
    injection hk with _ h2 _
    exact hne h2
/-- The row of fewer. -/
theorem own_less {W : World} {base : Nat} {e : TypeId} {g n m cap : Nat} {xs : List Value} (h : W.ownsRow base e 1 (.slice (some ⟨g, 0, none⟩) n cap) n xs) (hm : m ≤ n) : W.ownsRow base e 1 (.slice (some ⟨g, 0, none⟩) m cap) m (xs.take m) := by
  have hl := h.1
  refine ⟨by rw [List.length_take]; omega, ?_⟩
  rcases h.2 with ⟨h0, _⟩ | ⟨g', cap', cur, e1, hB, hg, hc, hx, hs, ht⟩
  · cases h0
  · cases e1
    refine .inr ⟨g, cap, cur, rfl, hB, hg, by omega, hx, hs, ?_⟩
    rw [← ht, List.take_take, Nat.mul_one, Nat.mul_one, Nat.min_eq_left hm]
section
variable {W W' : World} {B sb : Nat} {T : ByteArray} {p : Nat} {st : St} {vt vb vo : Value}
theorem ScanV.lt (h : ScanV W B sb T p st vt vb vo) : sb < W.heap.size := (Array.getElem?_eq_some_iff.1 h.row).1
theorem ScanV.keep (h : ScanV W B sb T p st vt vb vo) (hk : ∀ k, B ≤ k → k < W.heap.size → W'.heap[k]? = W.heap[k]?) : ScanV W' B sb T p st vt vb vo :=
  ⟨(hk sb h.high h.lt).trans h.row, row_far h.toks fun k e hl => hk k (h.toks.lt k e).1 hl, row_far h.blks fun k e hl => hk k (h.blks.lt k e).1 hl, row_far h.opn fun k e hl => hk k (h.opn.lt k e).1 hl, h.high⟩
theorem ScanAt.keep (h : ScanAt W B sb T p st) (hk : ∀ k, B ≤ k → k < W.heap.size → W'.heap[k]? = W.heap[k]?) : ScanAt W' B sb T p st :=
  let ⟨vt, vb, vo, h⟩ := h; ⟨vt, vb, vo, h.keep hk⟩
theorem ScanAt.drewN (h : ScanAt W B sb T p st) (n : Nat) : ScanAt (W.drewN n) B sb T p st := h.keep fun _ _ _ => rfl
theorem ScanAt.below (h : ScanAt W B sb T p st) (hb : Below W.heap.size W W') : ScanAt W' B sb T p st := h.keep fun k _ hl => hb.block k hl
theorem ScanAt.lt (h : ScanAt W B sb T p st) : B ≤ sb ∧ sb < W.heap.size := let ⟨_, _, _, h⟩ := h; ⟨h.high, h.lt⟩
theorem ScanV.cells (h : ScanV W B sb T p st vt vb vo) : W.cell? ⟨sb, 0, none⟩ = some (.string T) ∧ W.cell? ⟨sb, 1, none⟩ = some (.int .i64 (p : Int)) ∧ W.cell? ⟨sb, 2, none⟩ = some vt ∧ W.cell? ⟨sb, 3, none⟩ = some vb ∧ W.cell? ⟨sb, 4, none⟩ = some vo :=
  ⟨cell_of_row W sb 0 _ _ _ h.row, cell_of_row W sb 1 _ _ _ h.row, cell_of_row W sb 2 _ _ _ h.row, cell_of_row W sb 3 _ _ _ h.row, cell_of_row W sb 4 _ _ _ h.row⟩
theorem ScanV.open_ (h : ScanV W B sb T p st vt vb vo) (i : Nat) : W.frozen? ⟨sb, i, none⟩ = false := frozen_of_row W sb i _ _ h.row
theorem ScanV.apart (h : ScanV W B sb T p st vt vb vo) : vt.ownBlock ≠ some sb ∧ vb.ownBlock ≠ some sb ∧ vo.ownBlock ≠ some sb :=
  ⟨apart_kinds h.toks h.row (by decide), apart_kinds h.blks h.row (by decide), apart_kinds h.opn h.row (by decide)⟩
theorem far_set (W : World) {sb k i : Nat} (u : Value) (h : k ≠ sb) : (W.setCell ⟨sb, i, none⟩ u).heap[k]? = W.heap[k]? := heap_setCell_other _ _ _ _ h
/-- Another place. -/
theorem ScanV.setPos (h : ScanV W B sb T p st vt vb vo) (p' : Nat) : ScanV (W.setCell ⟨sb, 1, none⟩ (.int .i64 (p' : Int))) B sb T p' st vt vb vo :=
  ⟨heap_setCell_same W sb 1 _ _ _ h.row, row_far h.toks fun _ e _ => far_set W _ (fun e' => h.apart.1 (e' ▸ e)), row_far h.blks fun _ e _ => far_set W _ (fun e' => h.apart.2.1 (e' ▸ e)), row_far h.opn fun _ e _ => far_set W _ (fun e' => h.apart.2.2 (e' ▸ e)), h.high⟩
/-- Another list of tokens. -/
theorem ScanV.setToks (h : ScanV W B sb T p st vt vb vo) {u : Value} {l : List Tok} (hu : W'.ownsRow B 71 3 u l.length (l.flatMap tokC)) (hk : ∀ k, k < W.heap.size → vt.ownBlock ≠ some k → W'.heap[k]? = W.heap[k]?) :
    W'.cell? ⟨sb, 2, none⟩ = some vt ∧ W'.frozen? ⟨sb, 2, none⟩ = false ∧ W'.cell? ⟨sb, 1, none⟩ = some (.int .i64 (p : Int)) ∧ W'.frozen? ⟨sb, 1, none⟩ = false ∧ ScanV (W'.setCell ⟨sb, 2, none⟩ u) B sb T p { st with toks := l } u vb vo := by
  have hr : W'.heap[sb]? = some (.cells (scanC T p vt vb vo) 99 (0, 0)) := (hk sb h.lt h.apart.1).trans h.row
  have hb : W'.ownsRow B 3 1 vb st.blocks.length (st.blocks.reverse.map iv) := row_far h.blks fun k e hl => hk k hl (by
    rcases h.blks.2 with ⟨rfl, _⟩ | ⟨g, cap, cur, rfl, _, hg, _⟩
    · simp [Value.ownBlock] at e
    · obtain rfl : g = k := by simpa [Value.ownBlock] using e
      exact apart_kinds h.toks hg (by decide))
  have ho : W'.ownsRow B 5 1 vo st.op.length (st.op.reverse.map bv) := row_far h.opn fun k e hl => hk k hl (by
    rcases h.opn.2 with ⟨rfl, _⟩ | ⟨g, cap, cur, rfl, _, hg, _⟩
    · simp [Value.ownBlock] at e
    · obtain rfl : g = k := by simpa [Value.ownBlock] using e
      exact apart_kinds h.toks hg (by decide))
  exact ⟨cell_of_row W' sb 2 _ _ _ hr, frozen_of_row W' sb 2 _ _ hr, cell_of_row W' sb 1 _ _ _ hr, frozen_of_row W' sb 1 _ _ hr,
    ⟨heap_setCell_same W' sb 2 _ _ _ hr, row_far hu fun k e _ => far_set W' _ (fun e' => apart_kinds hu hr (by decide) (e' ▸ e)), row_far hb fun k e _ => far_set W' _ (fun e' => apart_kinds hb hr (by decide) (e' ▸ e)), row_far ho fun k e _ => far_set W' _ (fun e' => apart_kinds ho hr (by decide) (e' ▸ e)), h.high⟩⟩
/-- Other blocks. -/
theorem ScanV.setBlks (h : ScanV W B sb T p st vt vb vo) {u : Value} {l : List Nat} (hu : W'.ownsRow B 3 1 u l.length (l.reverse.map iv)) (hk : ∀ k, k < W.heap.size → vb.ownBlock ≠ some k → W'.heap[k]? = W.heap[k]?) :
    W'.cell? ⟨sb, 3, none⟩ = some vb ∧ W'.frozen? ⟨sb, 3, none⟩ = false ∧ ScanV (W'.setCell ⟨sb, 3, none⟩ u) B sb T p { st with blocks := l } vt u vo := by
  have hr : W'.heap[sb]? = some (.cells (scanC T p vt vb vo) 99 (0, 0)) := (hk sb h.lt h.apart.2.1).trans h.row
  have ht : W'.ownsRow B 71 3 vt st.toks.length (st.toks.flatMap tokC) := row_far h.toks fun k e hl => hk k hl (by
    rcases h.toks.2 with ⟨rfl, _⟩ | ⟨g, cap, cur, rfl, _, hg, _⟩
    · simp [Value.ownBlock] at e
    · obtain rfl : g = k := by simpa [Value.ownBlock] using e
      exact apart_kinds h.blks hg (by decide))
  have ho : W'.ownsRow B 5 1 vo st.op.length (st.op.reverse.map bv) := row_far h.opn fun k e hl => hk k hl (by
    rcases h.opn.2 with ⟨rfl, _⟩ | ⟨g, cap, cur, rfl, _, hg, _⟩
    · simp [Value.ownBlock] at e
    · obtain rfl : g = k := by simpa [Value.ownBlock] using e
      exact apart_kinds h.blks hg (by decide))
  exact ⟨cell_of_row W' sb 3 _ _ _ hr, frozen_of_row W' sb 3 _ _ hr,
    ⟨heap_setCell_same W' sb 3 _ _ _ hr, row_far ht fun k e _ => far_set W' _ (fun e' => apart_kinds ht hr (by decide) (e' ▸ e)), row_far hu fun k e _ => far_set W' _ (fun e' => apart_kinds hu hr (by decide) (e' ▸ e)), row_far ho fun k e _ => far_set W' _ (fun e' => apart_kinds ho hr (by decide) (e' ▸ e)), h.high⟩⟩
/-- Other brackets. -/
theorem ScanV.setOpn (h : ScanV W B sb T p st vt vb vo) {u : Value} {l : List UInt8} (hu : W'.ownsRow B 5 1 u l.length (l.reverse.map bv)) (hk : ∀ k, k < W.heap.size → vo.ownBlock ≠ some k → W'.heap[k]? = W.heap[k]?) :
    W'.cell? ⟨sb, 4, none⟩ = some vo ∧ W'.frozen? ⟨sb, 4, none⟩ = false ∧ ScanV (W'.setCell ⟨sb, 4, none⟩ u) B sb T p { st with op := l } vt vb u := by
  have hr : W'.heap[sb]? = some (.cells (scanC T p vt vb vo) 99 (0, 0)) := (hk sb h.lt h.apart.2.2).trans h.row
  have ht : W'.ownsRow B 71 3 vt st.toks.length (st.toks.flatMap tokC) := row_far h.toks fun k e hl => hk k hl (by
    rcases h.toks.2 with ⟨rfl, _⟩ | ⟨g, cap, cur, rfl, _, hg, _⟩
    · simp [Value.ownBlock] at e
    · obtain rfl : g = k := by simpa [Value.ownBlock] using e
      exact apart_kinds h.opn hg (by decide))
  have hb : W'.ownsRow B 3 1 vb st.blocks.length (st.blocks.reverse.map iv) := row_far h.blks fun k e hl => hk k hl (by
    rcases h.blks.2 with ⟨rfl, _⟩ | ⟨g, cap, cur, rfl, _, hg, _⟩
    · simp [Value.ownBlock] at e
    · obtain rfl : g = k := by simpa [Value.ownBlock] using e
      exact apart_kinds h.opn hg (by decide))
  exact ⟨cell_of_row W' sb 4 _ _ _ hr, frozen_of_row W' sb 4 _ _ hr,
    ⟨heap_setCell_same W' sb 4 _ _ _ hr, row_far ht fun k e _ => far_set W' _ (fun e' => apart_kinds ht hr (by decide) (e' ▸ e)), row_far hb fun k e _ => far_set W' _ (fun e' => apart_kinds hb hr (by decide) (e' ▸ e)), row_far hu fun k e _ => far_set W' _ (fun e' => apart_kinds hu hr (by decide) (e' ▸ e)), h.high⟩⟩
end
end Go.Proofs.YtpjjofdphlgeiaaGreatDoor

namespace Go.Proofs.YtpjjofdphlgeiaaGreatDoor
open Go.RowKit
open Lx

/-- An append of one token in a drawn region. -/
theorem tok_drawn {ops : Array Oper} {o : Oper} {a : Act} {K : Act → World → Prop} {Q : Exit → Act → World → Prop} {E : Prop} {W : World} {B sb : Nat} {T : ByteArray} {p : Nat} {st : St} {vt vb vo : Value} (h : ScanV W B sb T p st vt vb vo) (k : Nat) (s : ByteArray) (hl : st.toks.length < 1000000) (hgd : o.guard = none) (x y : Operand)
    (ho : o.op = .call { callee := .builtin .append, args := #[x, y], argTypes := #[64, 64] }) (hx : a.eval x = vt) (hy : a.eval y = .slice (some ⟨W.heap.size, 0, none⟩) 1 1)
    (hK : ∀ g n cap w', w'.cell? ⟨sb, 2, none⟩ = some vt → w'.frozen? ⟨sb, 2, none⟩ = false → w'.cell? ⟨sb, 1, none⟩ = some (.int .i64 (p : Int)) → w'.frozen? ⟨sb, 1, none⟩ = false → ScanV (w'.setCell ⟨sb, 2, none⟩ (.slice (some ⟨g, 0, none⟩) n cap)) B sb T p { st with toks := st.toks ++ [⟨k, s.data.toList, p⟩] } (.slice (some ⟨g, 0, none⟩) n cap) vb vo →
      Below B W (w'.setCell ⟨sb, 2, none⟩ (.slice (some ⟨g, 0, none⟩) n cap)) → K (a.put o.dst (.slice (some ⟨g, 0, none⟩) n cap)) w') :
    if Region.wanted o (yielded ops a.tmps) = true then Oper.wp Tryz.prog o a (W.alloc (.cells #[.int .i64 (k : Int), .string s, .int .i64 (p : Int)] 71)) K Q else E := by
  rw [if_pos (by simp [Region.wanted, hgd])]
  obtain ⟨i0, hi, hz, hz1, hz2⟩ := info_parts info_tok
  have hB : B ≤ W.heap.size := by have := h.high; have := h.lt; omega
  have hr0 : (W.alloc (.cells #[.int .i64 (k : Int), .string s, .int .i64 (p : Int)] 71)).heap[W.heap.size]? = some (.cells #[.int .i64 (k : Int), .string s, .int .i64 (p : Int)] 71 (0, 0)) := heap_alloc_new _ _
  obtain ⟨u, w', hr, h1, h2, _, h4⟩ := run_append_own_at (P := Tryz.prog) (W.alloc (.cells #[.int .i64 (k : Int), .string s, .int .i64 (p : Int)] 71)) B 64 o.type 71 i0 _ 3 32 Tryz.underlying64 hi hz hz1 hz2 rfl (by decide) vt st.toks.length (st.toks.flatMap tokC)
    (h.toks.alloc _) ⟨W.heap.size, 0, none⟩ 1 1 [.int .i64 (k : Int), .string s, .int .i64 (p : Int)] rfl (fun j u hu => by
      rw [Go.WideShapes.add_plain]
      match j, hu with
      | 0, hu => simp at hu; subst hu; exact cell_of_row _ _ 0 _ _ _ hr0
      | 1, hu => simp at hu; subst hu; exact cell_of_row _ _ 1 _ _ _ hr0
      | 2, hu => simp at hu; subst hu; exact cell_of_row _ _ 2 _ _ _ hr0
      | j + 3, hu => simp at hu) (fun u hu => by simp at hu; rcases hu with rfl | rfl | rfl <;> rfl) (by unfold maxLen; omega) (by omega) (by simp; omega)
  have hb : ∀ j, j < W.heap.size → vt.ownBlock ≠ some j → w'.heap[j]? = W.heap[j]? := fun j hj hne => (h2.block j (by simp; omega) (Ne.symm hne)).trans (Below.heap_alloc W _ j hj)
  obtain ⟨p1, p2, q1, q2, p3⟩ := h.setToks (l := st.toks ++ [⟨k, s.data.toList, p⟩]) (by rw [List.length_append, List.flatMap_append]; exact h1) hb
  obtain ⟨g, cap, e, _⟩ := own_some p3.toks (by simp)
  subst e
  unfold Oper.wp execOp
  simp only [ho, resolve, invoke, builtin, Sem.run_bind, Sem.run_pure, Result.andThen_ok, List.map_toArray, List.map_cons, List.map_nil, hx, hy, hr]
  refine hK g _ cap w' p1 p2 q1 q2 p3 ?_
  refine Below.setCell ?_ (by simp only; exact h.high) _
  exact ((Below.refl B W).alloc hB _).grown h2 (by simp; omega) fun j hj => (h.toks.lt j hj).1
section
variable {W : World} {B sb : Nat} {T : ByteArray} {p : Nat} {st : St}
set_option maxRecDepth 10000 in
set_option maxHeartbeats 1600000 in
theorem add_any (h : ScanAt W B sb T p st) (k : Nat) (s : ByteArray) (n : Nat) (hp : p ≤ 1000000) (hn : n ≤ 1000000) (hl : st.toks.length < 1000000) :
    Calls Tryz.prog 97 #[.pointer (some ⟨sb, 0, none⟩), .int .i64 (k : Int), .string s, .int .i64 (n : Int)] W fun e w' => e = .returned (.tuple #[]) ∧ ScanAt w' B sb T (p + n) { st with toks := st.toks ++ [⟨k, s.data.toList, p⟩] } ∧ Below B W w' := by
  obtain ⟨vt, vb, vo, h⟩ := h
  obtain ⟨ao, cap, e, _⟩ := own_form h.toks
  obtain ⟨c0, c1, c2, c3, c4⟩ := h.cells
  have HV := hid' e
  rw [e] at c2
  have hlt := h.lt
  have HS := hid' h
  have hnw := World.new_ne W _ c1
  clear h e
  go_enter Tryz.func97, Tryz.ntmps97
  go_wp2_with fail
  go_region_law (refine tok_drawn (W := W.drew) (HS.out.keep fun _ _ _ => rfl) k s hl rfl (.tmp 12) (.tmp 20) (by rfl) (by first | exact HV.out.symm | (simp [Act.eval]; exact HV.out.symm)) (by first | rfl | simp [Act.eval]) ?_; intro g2 n2 c2' w9 p1 p2 q1 q2 p3 p4; have HP3 := hid' p3; have HP4 := hid' p4; clear p3 p4)
  all_goals (
    have hpn : (p : Int) + (n : Int) = ((p + n : Nat) : Int) := by omega
    have HF := hid' (HP3.out.setPos (p + n))
    have HB : Hid (Below B W ((w9.setCell ⟨sb, 2, none⟩ (.slice (some ⟨g2, 0, none⟩) n2 c2')).setCell ⟨sb, 1, none⟩ (.int .i64 ((p + n : Nat) : Int)))) := hid' (Below.setCell (show Below B W _ from ⟨HP4.out.os, HP4.out.tape, HP4.out.output, HP4.out.size, HP4.out.block⟩) (by simp only; exact HS.out.high) _)
    rw [← hpn] at HF HB
    clear hpn
    go_wp2
    go_end0
    exact ⟨rfl, ⟨_, _, _, HF.out⟩, HB.out⟩)
end
end Go.Proofs.YtpjjofdphlgeiaaGreatDoor
