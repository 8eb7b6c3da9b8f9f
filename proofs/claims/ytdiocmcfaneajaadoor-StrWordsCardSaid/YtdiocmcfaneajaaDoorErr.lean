/- What smithysee's functions say of api's errors. Conditions: the errors of api lie in their variables, each a pointer of its own. -/
import Derived.Test.YtdiocmcfaneajaaDoorProg
import Derived.WalkKit
import Derived.RowKitTokens
import Derived.Great.BuildSlice
import Derived.Laws.Rows
import Derived.Laws.CopyRow
import Derived.Laws.ResultCell
import Derived.Deep.WholeRow
import Derived.Below
import Derived.OwnWalk
import Derived.BigQuiet
import Derived.Handy
import Derived.LaidEql
namespace Go.Proofs.YtdiocmcfaneajaaDoor
open Go.RowKit

theorem hid' {p : Prop} (h : p) : Hid p := h
theorem alloc_new' (w : World) (o : Obj) : (w.alloc o).heap[w.heap.size]? = some o := heap_alloc_new w o
theorem ret_bool' {a b : Bool} (h : a = b) : Ending.returned (.bool a) = .returned (.bool b) := by rw [h]
def E (A : Nat → Addr) (i : Nat) : Value := .iface 108 (.pointer (some (A i)))
def allE (A : Nat → Addr) : Array Value := #[E A 0, E A 1, E A 2, E A 3, E A 4, E A 5, E A 6, E A 7, E A 8, E A 9, E A 10, E A 11, E A 12, E A 13, E A 14, E A 15, E A 16]
theorem at_list {P : Program} {ops : Array Oper} {l : List Oper} {a : Act} {w : World} {Q : Exit → Act → World → Prop} (h : wpList P ops Q l a w) : wpList P ops Q l a w := h
/-- One cell is read. -/
theorem load_one {P : Program} {ops : Array Oper} {rest : List Oper} {o : Oper} {a : Act} {w : World} {Q : Exit → Act → World → Prop} (hgd : o.guard = none) (ty : TypeId) (x : Operand) (ho : o.op = .load ty x)
    (ad : Addr) (hx : a.eval x = .pointer (some ad)) (d : TypeDesc) (hu : P.underlying ty = some d) (hd : (match d with | .struct _ | .array _ _ => true | _ => false) = false) (v : Value) (hc : w.cell? ad = some v)
    (h : wpList P ops Q rest (a.put o.dst v) w) : wpList P ops Q (o :: rest) a w := by
  refine wpList_plain hgd fun K hK => ?_
  have hagg : (isAgg ty).run P w = .ok false w := by
    unfold isAgg
    rw [Sem.run_bind, run_underlying hu w]
    cases d <;> simp_all
  unfold Oper.wp execOp
  simp [ho, hx, Instr.loadAt, Instr.sureAddr, loadVar, Sem.run_bind, hagg, hc]
  exact hK _ _ h

theorem ptr_cmp : (Tryd.prog.info? 108).map (·.comparable) = some true := by kernel_rfl
theorem ptr_size : (Tryd.prog.info? 110).map (fun i => decide (i.size ≠ 0)) = some true := by kernel_rfl
theorem eql_same (a : Addr) (w : World) : (binOp .eql 25 (.iface 108 (.pointer (some a))) (.iface 108 (.pointer (some a)))).run Tryd.prog w = .ok (.bool true) w := by
  obtain ⟨i, hi, hc⟩ := Option.map_eq_some_iff.1 ptr_cmp
  obtain ⟨j, hj, _⟩ := Option.map_eq_some_iff.1 ptr_size
  exact run_eql_iface_ptr_same w a Tryd.underlying25 Tryd.underlying108 hi hc hj
theorem eql_other {a b : Addr} {ca cb : Array Value} {ta tb : TypeId} (w : World) (hne : a ≠ b) (ha : w.heap[a.block]? = some (.cells ca ta (0, 0))) (hb : w.heap[b.block]? = some (.cells cb tb (0, 0))) :
    (binOp .eql 25 (.iface 108 (.pointer (some a))) (.iface 108 (.pointer (some b)))).run Tryd.prog w = .ok (.bool false) w := by
  obtain ⟨i, hi, hc⟩ := Option.map_eq_some_iff.1 ptr_cmp
  obtain ⟨j, hj, hz⟩ := Option.map_eq_some_iff.1 ptr_size
  exact run_eql_iface_ptr_other w Tryd.underlying25 Tryd.underlying108 hi hc hj (by simpa using hz) hne ha hb

end Go.Proofs.YtdiocmcfaneajaaDoor
