/- Parts of the proof, together. What the scanner's small calls make of it: block, lineEnds, add, fault. Conditions: its blocks lie from block B on; short texts. -/
import Derived.BigQuiet
import Derived.Laws.NewBlocks
import Derived.Deep.RegionHeld3
import Derived.Test.YtnfnlcahlgnahaaGreatDoorBaal
namespace Go.Proofs.YtnfnlcahlgnahaaGreatDoor
open Go.RowKit
open Lx

/-- An append of one token in a drawn region. -/
theorem tok_drawn {ops : Array Oper} {o : Oper} {a : Act} {K : Act → World → Prop} {Q : Exit → Act → World → Prop} {E : Prop} {W : World} {B sb : Nat} {T : ByteArray} {p : Nat} {st : St} {vt vb vo : Value} (h : ScanV W B sb T p st vt vb vo) (k : Nat) (s : ByteArray) (hl : st.toks.length < 1000000) (hgd : o.guard = none) (x y : Operand)
    (ho : o.op = .call { callee := .builtin .append, args := #[x, y], argTypes := #[64, 64] }) (hx : a.eval x = vt) (hy : a.eval y = .slice (some ⟨W.heap.size, 0, none⟩) 1 1)
    (hK : ∀ g n cap w', w'.cell? ⟨sb, 2, none⟩ = some vt → w'.frozen? ⟨sb, 2, none⟩ = false → w'.cell? ⟨sb, 1, none⟩ = some (.int .i64 (p : Int)) → w'.frozen? ⟨sb, 1, none⟩ = false → ScanV (w'.setCell ⟨sb, 2, none⟩ (.slice (some ⟨g, 0, none⟩) n cap)) B sb T p { st with toks := st.toks ++ [⟨k, s.data.toList, p⟩] } (.slice (some ⟨g, 0, none⟩) n cap) vb vo →
      Below B W (w'.setCell ⟨sb, 2, none⟩ (.slice (some ⟨g, 0, none⟩) n cap)) → K (a.put o.dst (.slice (some ⟨g, 0, none⟩) n cap)) w') :
    if Region.wanted o (yielded ops a.tmps) = true then Oper.wp Tryz.prog o a (W.alloc (.cells #[.int .i64 (k : Int), .string s, .int .i64 (p : Int)] 71)) K Q else E := by
  rw [if_pos (by simp [Region.wanted, hgd])]
  obtain ⟨i0, hi, hz, hz1, hz2⟩ := info_parts info_tok
  have hB : B ≤ W.heap.size := by have := h.high; have := h.lt; omega
  have hr0 : (W.alloc (.cells #[.int .i64 (k : Int), .string s, .int .i64 (p : Int)] 71)).heap[W.heap.size]? = some (.cells #[.int .i64 (k : Int), .string s, .int .i64 (p : Int)] 71 (0, 0)) := heap_alloc_new _ _
  obtain ⟨u, w', hr, h1, h2, _, h4⟩ := run_append_own_at (P := Tryz.prog) (W.alloc (.cells #[.int .i64 (k : Int), .string s, .int .i64 (p : Int)] 71)) B 64 o.type 71 i0 _ 3 32 Tryz.underlying64 hi hz hz1 hz2 rfl (by decide) vt st.toks.length (st.toks.flatMap tokC)
    (h.toks.alloc _) ⟨W.heap.size, 0, none⟩ 1 1 [.int .i64 (k : Int), .string s, .int .i64 (p : Int)] rfl (fun j u hu => by
      rw [Go.WideShapes.add_plain]
      match j, hu with
      | 0, hu => simp at hu; subst hu; exact cell_of_row _ _ 0 _ _ _ hr0
      | 1, hu => simp at hu; subst hu; exact cell_of_row _ _ 1 _ _ _ hr0
      | 2, hu => simp at hu; subst hu; exact cell_of_row _ _ 2 _ _ _ hr0
      | j + 3, hu => simp at hu) (fun u hu => by simp at hu; rcases hu with rfl | rfl | rfl <;> rfl) (by unfold maxLen; omega) (by omega) (by simp; omega)
  have hb : ∀ j, j < W.heap.size → vt.ownBlock ≠ some j → w'.heap[j]? = W.heap[j]? := fun j hj hne => (h2.block j (by simp; omega) (Ne.symm hne)).trans (Below.heap_alloc W _ j hj)
  obtain ⟨p1, p2, q1, q2, p3⟩ := h.setToks (l := st.toks ++ [⟨k, s.data.toList, p⟩]) (by rw [List.length_append, List.flatMap_append]; exact h1) hb
  obtain ⟨g, cap, e, _⟩ := own_some p3.toks (by simp)
  subst e
  unfold Oper.wp execOp
  simp only [ho, resolve, invoke, builtin, Sem.run_bind, Sem.run_pure, Result.andThen_ok, List.map_toArray, List.map_cons, List.map_nil, hx, hy, hr]
  refine hK g _ cap w' p1 p2 q1 q2 p3 ?_
  refine Below.setCell ?_ (by simp only; exact h.high) _
  exact ((Below.refl B W).alloc hB _).grown h2 (by simp; omega) fun j hj => (h.toks.lt j hj).1
section
variable {W : World} {B sb : Nat} {T : ByteArray} {p : Nat} {st : St}
set_option maxRecDepth 10000 in
set_option maxHeartbeats 1600000 in
theorem add_any (h : ScanAt W B sb T p st) (k : Nat) (s : ByteArray) (n : Nat) (hp : p ≤ 1000000) (hn : n ≤ 1000000) (hl : st.toks.length < 1000000) :
    Calls Tryz.prog 97 #[.pointer (some ⟨sb, 0, none⟩), .int .i64 (k : Int), .string s, .int .i64 (n : Int)] W fun e w' => e = .returned (.tuple #[]) ∧ ScanAt w' B sb T (p + n) { st with toks := st.toks ++ [⟨k, s.data.toList, p⟩] } ∧ Below B W w' := by
  obtain ⟨vt, vb, vo, h⟩ := h
  obtain ⟨ao, cap, e, _⟩ := own_form h.toks
  obtain ⟨c0, c1, c2, c3, c4⟩ := h.cells
  have HV := hid' e
  rw [e] at c2
  have hlt := h.lt
  have HS := hid' h
  have hnw := World.new_ne W _ c1
  clear h e
  go_enter Tryz.func97, Tryz.ntmps97
  go_wp2_with fail
  go_region_law (refine tok_drawn (W := W.drew) (HS.out.keep fun _ _ _ => rfl) k s hl rfl (.tmp 12) (.tmp 20) (by rfl) (by first | exact HV.out.symm | (simp [Act.eval]; exact HV.out.symm)) (by first | rfl | simp [Act.eval]) ?_; intro g2 n2 c2' w9 p1 p2 q1 q2 p3 p4; have HP3 := hid' p3; have HP4 := hid' p4; clear p3 p4)
  all_goals (
    have hpn : (p : Int) + (n : Int) = ((p + n : Nat) : Int) := by omega
    have HF := hid' (HP3.out.setPos (p + n))
    have HB : Hid (Below B W ((w9.setCell ⟨sb, 2, none⟩ (.slice (some ⟨g2, 0, none⟩) n2 c2')).setCell ⟨sb, 1, none⟩ (.int .i64 ((p + n : Nat) : Int)))) := hid' (Below.setCell (show Below B W _ from ⟨HP4.out.os, HP4.out.tape, HP4.out.output, HP4.out.size, HP4.out.block⟩) (by simp only; exact HS.out.high) _)
    rw [← hpn] at HF HB
    clear hpn
    go_wp2
    go_end0
    exact ⟨rfl, ⟨_, _, _, HF.out⟩, HB.out⟩)
end
end Go.Proofs.YtnfnlcahlgnahaaGreatDoor
