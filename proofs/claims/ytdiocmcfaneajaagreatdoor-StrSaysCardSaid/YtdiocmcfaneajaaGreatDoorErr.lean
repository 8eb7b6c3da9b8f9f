/- What smithysee's functions say of api's errors. Conditions: the errors of api lie in their variables, each a pointer of its own. -/
import Derived.Test.YtdiocmcfaneajaaGreatDoorProg
import Derived.WalkKit
import Derived.RowKitTokens
import Derived.Great.BuildSlice
import Derived.Laws.Rows
import Derived.Laws.CopyRow
import Derived.Laws.ResultCell
import Derived.Deep.WholeRow
import Derived.Below
import Derived.OwnWalk
import Derived.BigQuiet
import Derived.Handy
import Derived.LaidEql
namespace Go.Proofs.YtdiocmcfaneajaaGreatDoor
open Go.RowKit

theorem hid' {p : Prop} (h : p) : Hid p := h
theorem alloc_new' (w : World) (o : Obj) : (w.alloc o).heap[w.heap.size]? = some o := heap_alloc_new w o
theorem ret_bool' {a b : Bool} (h : a = b) : Ending.returned (.bool a) = .returned (.bool b) := by rw [h]
def E (A : Nat → Addr) (i : Nat) : Value := .iface 153 (.pointer (some (A i)))
/-- api's errors lie in their variables, each a pointer of its own. -/
structure Sent (A : Nat → Addr) (w : World) : Prop where
  apart : ∀ i j, i < 17 → j < 17 → A i = A j → i = j
  block : ∀ i, i < 17 → ∃ c t, w.heap[(A i).block]? = some (.cells c t (0, 0))
  g0 : w.cell? ⟨4, 0, none⟩ = some (E A 0)
  g1 : w.cell? ⟨5, 0, none⟩ = some (E A 1)
  g2 : w.cell? ⟨6, 0, none⟩ = some (E A 2)
  g3 : w.cell? ⟨0, 0, none⟩ = some (E A 3)
  g4 : w.cell? ⟨7, 0, none⟩ = some (E A 4)
  g5 : w.cell? ⟨8, 0, none⟩ = some (E A 5)
  g6 : w.cell? ⟨9, 0, none⟩ = some (E A 6)
  g7 : w.cell? ⟨1, 0, none⟩ = some (E A 7)
  g8 : w.cell? ⟨10, 0, none⟩ = some (E A 8)
  g9 : w.cell? ⟨11, 0, none⟩ = some (E A 9)
  g10 : w.cell? ⟨12, 0, none⟩ = some (E A 10)
  g11 : w.cell? ⟨13, 0, none⟩ = some (E A 11)
  g12 : w.cell? ⟨14, 0, none⟩ = some (E A 12)
  g13 : w.cell? ⟨15, 0, none⟩ = some (E A 13)
  g14 : w.cell? ⟨16, 0, none⟩ = some (E A 14)
  g15 : w.cell? ⟨17, 0, none⟩ = some (E A 15)
  g16 : w.cell? ⟨18, 0, none⟩ = some (E A 16)

def allE (A : Nat → Addr) : Array Value := #[E A 0, E A 1, E A 2, E A 3, E A 4, E A 5, E A 6, E A 7, E A 8, E A 9, E A 10, E A 11, E A 12, E A 13, E A 14, E A 15, E A 16]
theorem at_list {P : Program} {ops : Array Oper} {l : List Oper} {a : Act} {w : World} {Q : Exit → Act → World → Prop} (h : wpList P ops Q l a w) : wpList P ops Q l a w := h
/-- One cell is read. -/
theorem load_one {P : Program} {ops : Array Oper} {rest : List Oper} {o : Oper} {a : Act} {w : World} {Q : Exit → Act → World → Prop} (hgd : o.guard = none) (ty : TypeId) (x : Operand) (ho : o.op = .load ty x)
    (ad : Addr) (hx : a.eval x = .pointer (some ad)) (d : TypeDesc) (hu : P.underlying ty = some d) (hd : (match d with | .struct _ | .array _ _ => true | _ => false) = false) (v : Value) (hc : w.cell? ad = some v)
    (h : wpList P ops Q rest (a.put o.dst v) w) : wpList P ops Q (o :: rest) a w := by
  refine wpList_plain hgd fun K hK => ?_
  have hagg : (isAgg ty).run P w = .ok false w := by
    unfold isAgg
    rw [Sem.run_bind, run_underlying hu w]
    cases d <;> simp_all
  unfold Oper.wp execOp
  simp [ho, hx, Instr.loadAt, Instr.sureAddr, loadVar, Sem.run_bind, hagg, hc]
  exact hK _ _ h

set_option maxRecDepth 100000 in
set_option maxHeartbeats 400000 in
theorem sentinels_any (A : Nat → Addr) (w : World) (h : Sent A w) :
    Calls Tryz.prog 102 #[] w fun e w' => e = .returned (.slice (some ⟨w.heap.size, 0, none⟩) 17 17) ∧ w' = w.alloc (.cells (allE A) 26) := by
  have H := hid' h
  clear h
  go_enter Tryz.func102, Tryz.ntmps102
  go_wp2_with ((with_reducible refine at_list ?_); first | (refine load_one rfl 26 (.global 4) rfl ⟨4, 0, none⟩ rfl _ Tryz.underlying26 rfl (.iface 153 (.pointer (some (A 0)))) H.out.g0 ?_) | (refine load_one rfl 26 (.global 5) rfl ⟨5, 0, none⟩ rfl _ Tryz.underlying26 rfl (.iface 153 (.pointer (some (A 1)))) H.out.g1 ?_) | (refine load_one rfl 26 (.global 6) rfl ⟨6, 0, none⟩ rfl _ Tryz.underlying26 rfl (.iface 153 (.pointer (some (A 2)))) H.out.g2 ?_) | (refine load_one rfl 26 (.global 0) rfl ⟨0, 0, none⟩ rfl _ Tryz.underlying26 rfl (.iface 153 (.pointer (some (A 3)))) H.out.g3 ?_) | (refine load_one rfl 26 (.global 7) rfl ⟨7, 0, none⟩ rfl _ Tryz.underlying26 rfl (.iface 153 (.pointer (some (A 4)))) H.out.g4 ?_) | (refine load_one rfl 26 (.global 8) rfl ⟨8, 0, none⟩ rfl _ Tryz.underlying26 rfl (.iface 153 (.pointer (some (A 5)))) H.out.g5 ?_) | (refine load_one rfl 26 (.global 9) rfl ⟨9, 0, none⟩ rfl _ Tryz.underlying26 rfl (.iface 153 (.pointer (some (A 6)))) H.out.g6 ?_) | (refine load_one rfl 26 (.global 1) rfl ⟨1, 0, none⟩ rfl _ Tryz.underlying26 rfl (.iface 153 (.pointer (some (A 7)))) H.out.g7 ?_) | (refine load_one rfl 26 (.global 10) rfl ⟨10, 0, none⟩ rfl _ Tryz.underlying26 rfl (.iface 153 (.pointer (some (A 8)))) H.out.g8 ?_) | (refine load_one rfl 26 (.global 11) rfl ⟨11, 0, none⟩ rfl _ Tryz.underlying26 rfl (.iface 153 (.pointer (some (A 9)))) H.out.g9 ?_) | (refine load_one rfl 26 (.global 12) rfl ⟨12, 0, none⟩ rfl _ Tryz.underlying26 rfl (.iface 153 (.pointer (some (A 10)))) H.out.g10 ?_) | (refine load_one rfl 26 (.global 13) rfl ⟨13, 0, none⟩ rfl _ Tryz.underlying26 rfl (.iface 153 (.pointer (some (A 11)))) H.out.g11 ?_) | (refine load_one rfl 26 (.global 14) rfl ⟨14, 0, none⟩ rfl _ Tryz.underlying26 rfl (.iface 153 (.pointer (some (A 12)))) H.out.g12 ?_) | (refine load_one rfl 26 (.global 15) rfl ⟨15, 0, none⟩ rfl _ Tryz.underlying26 rfl (.iface 153 (.pointer (some (A 13)))) H.out.g13 ?_) | (refine load_one rfl 26 (.global 16) rfl ⟨16, 0, none⟩ rfl _ Tryz.underlying26 rfl (.iface 153 (.pointer (some (A 14)))) H.out.g14 ?_) | (refine load_one rfl 26 (.global 17) rfl ⟨17, 0, none⟩ rfl _ Tryz.underlying26 rfl (.iface 153 (.pointer (some (A 15)))) H.out.g15 ?_) | (refine load_one rfl 26 (.global 18) rfl ⟨18, 0, none⟩ rfl _ Tryz.underlying26 rfl (.iface 153 (.pointer (some (A 16)))) H.out.g16 ?_))
  go_ret
  exact ⟨rfl, rfl⟩
theorem ptr_cmp : (Tryz.prog.info? 153).map (·.comparable) = some true := by kernel_rfl
theorem ptr_size : (Tryz.prog.info? 155).map (fun i => decide (i.size ≠ 0)) = some true := by kernel_rfl
theorem eql_same (a : Addr) (w : World) : (binOp .eql 26 (.iface 153 (.pointer (some a))) (.iface 153 (.pointer (some a)))).run Tryz.prog w = .ok (.bool true) w := by
  obtain ⟨i, hi, hc⟩ := Option.map_eq_some_iff.1 ptr_cmp
  obtain ⟨j, hj, _⟩ := Option.map_eq_some_iff.1 ptr_size
  exact run_eql_iface_ptr_same w a Tryz.underlying26 Tryz.underlying153 hi hc hj
theorem eql_other {a b : Addr} {ca cb : Array Value} {ta tb : TypeId} (w : World) (hne : a ≠ b) (ha : w.heap[a.block]? = some (.cells ca ta (0, 0))) (hb : w.heap[b.block]? = some (.cells cb tb (0, 0))) :
    (binOp .eql 26 (.iface 153 (.pointer (some a))) (.iface 153 (.pointer (some b)))).run Tryz.prog w = .ok (.bool false) w := by
  obtain ⟨i, hi, hc⟩ := Option.map_eq_some_iff.1 ptr_cmp
  obtain ⟨j, hj, hz⟩ := Option.map_eq_some_iff.1 ptr_size
  exact run_eql_iface_ptr_other w Tryz.underlying26 Tryz.underlying153 hi hc hj (by simpa using hz) hne ha hb

set_option maxRecDepth 100000 in
set_option maxHeartbeats 400000 in
theorem Alike_is (A : Nat → Addr) (i j : Nat) (w : World) (hi : i < 17) (hj : j < 17) (h : Sent A w) :
    Calls Tryz.prog 103 #[E A i, E A j] w fun e w' => e = .returned (.bool (decide (i = j))) ∧ w' = w := by
  unfold E
  by_cases hij : i = j
  · subst hij
    have hs := eql_same (A i) w
    clear h
    go_enter Tryz.func103, Tryz.ntmps103
    go_wp2
    go_ret
    exact ⟨ret_bool' (by simp), rfl⟩
  · have hne : A i ≠ A j := fun e => hij (h.apart i j hi hj e)
    obtain ⟨ci, ti, hbi⟩ := h.block i hi
    obtain ⟨cj, tj, hbj⟩ := h.block j hj
    have hs := eql_other w hne hbi hbj
    clear h hne hbi hbj
    go_enter Tryz.func103, Tryz.ntmps103
    go_wp2
    go_ret
    exact ⟨ret_bool' (by simp [hij]), rfl⟩

end Go.Proofs.YtdiocmcfaneajaaGreatDoor
