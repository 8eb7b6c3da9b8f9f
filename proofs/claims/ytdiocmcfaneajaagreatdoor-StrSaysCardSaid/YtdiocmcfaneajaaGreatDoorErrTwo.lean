/- What smithysee.placed, Fault, Same and Is say of api's errors and of none. Conditions: the errors of api lie in their variables, each a pointer of its own. -/
import Derived.Test.YtdiocmcfaneajaaGreatDoorErrOne
import Derived.Laws.Tables
import Derived.Laws.CopyOwn
namespace Go.Proofs.YtdiocmcfaneajaaGreatDoor
open Go.RowKit

theorem no_at (a : Addr) (w : World) : (Instr.typeAssert (.iface 153 (.pointer (some a))) 26 124 true).run Tryz.prog w = .ok (.tuple #[.pointer none, .bool false]) w := by kernel_rfl
theorem no_in (a : Addr) (w : World) : (Instr.typeAssert (.iface 153 (.pointer (some a))) 26 110 true).run Tryz.prog w = .ok (.tuple #[.pointer none, .bool false]) w := by kernel_rfl

/-- The cells of a fault with nothing around it. -/
def bareRow (c : Int) : Array Value := #[.int .i64 c, .bool false, .int .i64 0, .bool false, .string ⟨#[]⟩]
theorem bare_one (c : Int) : (bareRow c).all (·.oneCell') = true := by simp [bareRow, Value.oneCell']
theorem fault_size : (Tryz.prog.info? 60).map (·.size) = some 5 := by kernel_rfl
/-- The result's own row, behind callees that keep it. -/
theorem row_kept {w w' : World} {c : Int} (hb : Below (w.heap.size + 1) (w.alloc (.cells (bareRow c) 60)) w') : w'.heap[w.heap.size]? = some (.cells (bareRow c) 60 (0, 0)) :=
  (hb.block _ (by omega)).trans (alloc_new' w _)

theorem end_fault {fn : Func} {p : Tmp} (hres : fn.results = #[.cell p 60]) {a : Act} {w w2 : World} {old : Array Value} {c : Int} (hp : a.tmps.getD p undef = .pointer (some ⟨w.heap.size, 0, none⟩)) (hd : a.defers = [])
    (hrow : w2.heap[w.heap.size]? = some (.cells old 60 (0, 0))) (hb : Below w.heap.size w w2) : bodyPost Tryz.prog fn (tells (bare c) w) Exit.ret a (w2.setRow w.heap.size (bareRow c)) :=
  bodyPost_ret (results_cell_row hres a.tmps _ w.heap.size 60 (bareRow c) (0, 0) _ hp (setRow_heap w2 w.heap.size old (bareRow c) 60 (0, 0) hrow) Tryz.underlying60 rfl fault_size) hd ⟨rfl, below_setRow hb (Nat.le_refl _) _⟩

set_option maxRecDepth 100000 in
set_option maxHeartbeats 400000 in
theorem placed_is (A : Nat → Addr) (m : Nat) (w : World) (hm : m < 17) (h : Sent A w) :
    Calls Tryz.prog 73 #[E A m] w (tells (bare (101 + (m : Int))) w) := by
  have HS := hid' (fun W (hW : Sent A W) => sentinel_is A m W hm hW)
  have H := hid' h
  clear h
  have hx := no_at (A m)
  unfold E at HS ⊢
  go_enter Tryz.func73, Tryz.ntmps73
  go_wp2_with fail
  have hb0 : Below w.heap.size w (w.alloc (.cells (bareRow 0) 60)) := (Below.refl _ _).alloc (Nat.le_refl _) _
  refine (HS.out _ (H.out.below hb0)).mono ?_
  rintro e w1 ⟨rfl, hb1⟩
  go_wp2_with fail
  refine (Bare_any _ _).mono ?_
  rintro e w2 ⟨rfl, hb2⟩
  have hb12 : Below (w.heap.size + 1) (w.alloc (.cells (bareRow 0) 60)) w2 := by
    have hz : w.heap.size + 1 ≤ w1.heap.size := by have := hb1.size; simpa using this
    exact (hb1.mono (by simp)).trans (hb2.mono hz)
  have Hrow := hid' (row_kept hb12)
  have HB : Hid (Below w.heap.size w w2) := hid' (hb0.trans (hb12.mono (by omega)))
  clear hb0 hb1 hb2 hb12
  unfold bare
  go_wp2_with ((with_reducible refine at_list ?_); refine wpList_store_row rfl 60 (.tmp 2) (.tmp 14) rfl w.heap.size (bareRow (101 + (m : Int))) rfl rfl 60 (bareRow 0) Hrow.out fault_size rfl (bare_one _) ?_)
  exact end_fault Tryz.results73 rfl rfl Hrow.out HB.out

set_option maxRecDepth 100000 in
set_option maxHeartbeats 400000 in
theorem Fault_is (A : Nat → Addr) (m : Nat) (w : World) (hm : m < 17) (h : Sent A w) :
    Calls Tryz.prog 55 #[E A m] w (tells (bare (101 + (m : Int))) w) := by
  have HS := hid' (fun W (hW : Sent A W) => placed_is A m W hm hW)
  have H := hid' h
  clear h
  have hx := no_in (A m)
  unfold E at HS ⊢
  go_enter Tryz.func55, Tryz.ntmps55
  go_wp2_with fail
  have hb0 : Below w.heap.size w (w.alloc (.cells (bareRow 0) 60)) := (Below.refl _ _).alloc (Nat.le_refl _) _
  refine (HS.out _ (H.out.below hb0)).mono ?_
  rintro e w2 ⟨rfl, hb2⟩
  have hb12 : Below (w.heap.size + 1) (w.alloc (.cells (bareRow 0) 60)) w2 := hb2.mono (by simp)
  have Hrow := hid' (row_kept hb12)
  have HB : Hid (Below w.heap.size w w2) := hid' (hb0.trans (hb12.mono (by omega)))
  clear hb0 hb2 hb12
  unfold bare
  go_wp2_with ((with_reducible refine at_list ?_); refine wpList_store_row rfl 60 (.tmp 2) (.tmp 17) rfl w.heap.size (bareRow (101 + (m : Int))) rfl rfl 60 (bareRow 0) Hrow.out fault_size rfl (bare_one _) ?_)
  exact end_fault Tryz.results55 rfl rfl Hrow.out HB.out
set_option maxRecDepth 100000 in
set_option maxHeartbeats 400000 in
theorem Fault_nil (w : World) : Calls Tryz.prog 55 #[.nilIface] w (tells (bare 0) w) := by
  go_enter Tryz.func55, Tryz.ntmps55
  go_wp2_with fail
  have hb0 : Below w.heap.size w (w.alloc (.cells (bareRow 0) 60)) := (Below.refl _ _).alloc (Nat.le_refl _) _
  refine (None_any _).mono ?_
  rintro e w2 ⟨rfl, hb2⟩
  have hb12 : Below (w.heap.size + 1) (w.alloc (.cells (bareRow 0) 60)) w2 := hb2.mono (by simp)
  have Hrow := hid' (row_kept hb12)
  have HB : Hid (Below w.heap.size w w2) := hid' (hb0.trans (hb12.mono (by omega)))
  clear hb0 hb2 hb12
  unfold bare
  go_wp2_with ((with_reducible refine at_list ?_); refine wpList_store_row rfl 60 (.tmp 2) (.tmp 8) rfl w.heap.size (bareRow 0) rfl rfl 60 (bareRow 0) Hrow.out fault_size rfl (bare_one _) ?_)
  exact end_fault Tryz.results55 rfl rfl Hrow.out HB.out

set_option maxRecDepth 100000 in
set_option maxHeartbeats 400000 in
theorem SameFault_bare (c d : Int) (w : World) : Calls Tryz.prog 54 #[bare c, bare d] w (tells (.bool (c == d)) w) := by
  unfold bare
  by_cases h : c = d
  · subst h
    go_enter Tryz.func54, Tryz.ntmps54
    go_wp2
    go_ret
    refine ⟨ret_bool' (by simp), ?_⟩
    go_grown
  · have hb : (c == d) = false := by rw [beq_eq_false_iff_ne]; exact h
    go_enter Tryz.func54, Tryz.ntmps54
    go_wp2
    go_ret
    refine ⟨ret_bool' (by simp [hb]), ?_⟩
    go_grown

end Go.Proofs.YtdiocmcfaneajaaGreatDoor
