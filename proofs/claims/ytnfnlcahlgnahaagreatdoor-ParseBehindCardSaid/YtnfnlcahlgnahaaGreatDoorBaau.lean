/- Parts of the proof, together. What smithysee.Same says of api's errors, bare and with a place around, and of none (no Is). Conditions: the errors of api lie in their variables, each a pointer of its own; the place lies in a block of its own. -/
import Derived.Test.YtnfnlcahlgnahaaGreatDoorBaac
namespace Go.Proofs.YtnfnlcahlgnahaaGreatDoor
open Go.RowKit

/-- What smithysee.Fault tells of an error. -/
def FaultOf (A : Nat → Addr) (v : Value) (c : Int) : Prop := (v = .nilIface ∧ c = 0) ∨ (∃ m, m < 17 ∧ v = E A m ∧ c = 101 + (m : Int))
theorem Fault_of {A : Nat → Addr} {v : Value} {c : Int} (hv : FaultOf A v c) (w : World) (h : Sent A w) : Calls Tryz.prog 17 #[v] w (tells (bare c) w) := by
  rcases hv with ⟨rfl, rfl⟩ | ⟨m, hm, rfl, rfl⟩
  · exact Fault_nil w
  · exact Fault_is A m w hm h

theorem row_drew {w w' : World} {c : Int} (hb : Below (w.alloc (.cells (bareRow c) 39)).drew.heap.size (w.alloc (.cells (bareRow c) 39)).drew w') : w'.heap[w.heap.size]? = some (.cells (bareRow c) 39 (0, 0)) :=
  (hb.block _ (by show w.heap.size < (w.alloc _).heap.size; simp)).trans (alloc_new' w _)
theorem row_cells {W : World} {g : Nat} {t : TypeId} {c : Int} (h : W.heap[g]? = some (.cells (bareRow c) t (0, 0))) : W.cell? ⟨g, 0, none⟩ = some (.int .i64 c) ∧ W.cell? ⟨g, 1, none⟩ = some (.bool false) ∧ W.cell? ⟨g, 2, none⟩ = some (.int .i64 0) ∧ W.cell? ⟨g, 3, none⟩ = some (.bool false) ∧ W.cell? ⟨g, 4, none⟩ = some (.string ⟨#[]⟩) := by
  unfold World.cell?
  rw [h]
  exact ⟨rfl, rfl, rfl, rfl, rfl⟩

set_option maxRecDepth 100000 in
set_option maxHeartbeats 800000 in
theorem Same_bare {A : Nat → Addr} {v : Value} {c : Int} (d : Int) (hv : FaultOf A v c) (w : World) (h : Sent A w) : Calls Tryz.prog 15 #[v, bare d] w (tells (.bool (c == d)) w) := by
  have HF := hid' (fun W (hW : Sent A W) => Fault_of hv W hW)
  have H := hid' h
  clear h
  unfold bare
  go_enter Tryz.func15, Tryz.ntmps15
  go_wp2_with fail
  have hb0 : Below w.heap.size w (w.alloc (.cells (bareRow d) 39)) := (Below.refl _ _).alloc (Nat.le_refl _) _
  have HS := hid' (H.out.below hb0)
  have HD := hid' (H.out.below hb0.drew)
  go_region_with (first | (go_at_call 17; refine (HF.out _ HD.out).mono ?_; rintro e w1 ⟨rfl, hb1⟩; obtain ⟨c0, c1, c2, c3, c4⟩ := row_cells (row_drew hb1)) | (go_at_call 27; refine (SameFault_bare _ _ _).mono ?_; rintro e w2 ⟨rfl, hb2⟩))
  all_goals go_wp2
  all_goals go_ret
  all_goals exact ⟨rfl, hb0.drew.trans (hb1.mono (by show w.heap.size ≤ (w.alloc _).heap.size; simp)) |>.trans (hb2.mono (Nat.le_trans (by show w.heap.size ≤ (w.alloc _).heap.size; simp) hb1.size))⟩

/-- An error with a place, in block b. -/
def PlAt (W : World) (b : Nat) (pos : Int) (v : Value) : Prop := W.heap[b]? = some (.cells #[.int .i64 pos, v] 84 (0, 0))
theorem PlAt.cells {W : World} {b : Nat} {pos : Int} {v : Value} (h : PlAt W b pos v) : W.cell? ⟨b, 0, none⟩ = some (.int .i64 pos) ∧ W.cell? ⟨b, 1, none⟩ = some v := by
  unfold World.cell?
  rw [h]
  exact ⟨rfl, rfl⟩
theorem PlAt.below {W W' : World} {b : Nat} {pos : Int} {v : Value} (h : PlAt W b pos v) (hb : Below W.heap.size W W') : PlAt W' b pos v :=
  (hb.block b (Array.getElem?_eq_some_iff.1 h).1).trans h
theorem PlAt.low {W : World} {b : Nat} {pos : Int} {v : Value} (h : PlAt W b pos v) : b < W.heap.size := (Array.getElem?_eq_some_iff.1 h).1
/-- The fault of such an error. -/
def plRow (c pos : Int) : Array Value := #[.int .i64 c, .bool true, .int .i64 pos, .bool false, .string ⟨#[]⟩]
def pl (c pos : Int) : Value := .agg #[.int .i64 c, .bool true, .int .i64 pos, .bool false, .string ⟨#[]⟩]
theorem yes_at (a : Addr) (w : World) : (Instr.typeAssert (.iface 67 (.pointer (some a))) 25 67 true).run Tryz.prog w = .ok (.tuple #[.pointer (some a), .bool true]) w := by kernel_rfl
theorem at_no_in (a : Addr) (w : World) : (Instr.typeAssert (.iface 67 (.pointer (some a))) 25 59 true).run Tryz.prog w = .ok (.tuple #[.pointer none, .bool false]) w := by kernel_rfl
theorem row_open {W : World} {g : Nat} {t : TypeId} {c : Int} (h : W.heap[g]? = some (.cells (bareRow c) t (0, 0))) (j : Nat) : W.frozen? ⟨g, j, none⟩ = false := by
  unfold World.frozen?
  rw [h]
  simp

theorem five_row (W : World) (g : Nat) (a b c d e : Value) {x : Int} {t : TypeId} (h : W.heap[g]? = some (.cells (bareRow x) t (0, 0))) :
    ((((W.setCell ⟨g, 0, none⟩ a).setCell ⟨g, 1, none⟩ b).setCell ⟨g, 2, none⟩ c).setCell ⟨g, 3, none⟩ d).setCell ⟨g, 4, none⟩ e = W.setRow g #[a, b, c, d, e] := by
  have hr := fun cs => setRow_heap W g (bareRow x) cs t (0, 0) h
  rw [setCell_eq_setRow W g 0 _ t _ a h, setCell_eq_setRow _ g 1 _ t _ b (hr _), setRow_setRow, setCell_eq_setRow _ g 2 _ t _ c (hr _), setRow_setRow, setCell_eq_setRow _ g 3 _ t _ d (hr _), setRow_setRow, setCell_eq_setRow _ g 4 _ t _ e (hr _), setRow_setRow]
  rfl
theorem end_row {fn : Func} {p : Tmp} (hres : fn.results = #[.cell p 39]) {a : Act} {w w2 : World} {old row : Array Value} (hsz : row.size = 5) (hp : a.tmps.getD p undef = .pointer (some ⟨w.heap.size, 0, none⟩)) (hd : a.defers = [])
    (hrow : w2.heap[w.heap.size]? = some (.cells old 39 (0, 0))) (hb : Below w.heap.size w w2) : bodyPost Tryz.prog fn (tells (.agg row) w) Exit.ret a (w2.setRow w.heap.size row) :=
  bodyPost_ret (results_cell_row hres a.tmps _ w.heap.size 39 row (0, 0) _ hp (setRow_heap w2 w.heap.size old row 39 (0, 0) hrow) Tryz.underlying39 rfl (by rw [hsz]; exact fault_size)) hd ⟨rfl, below_setRow hb (Nat.le_refl _) _⟩

set_option maxHeartbeats 400000 in
theorem Placed_any (c pos : Int) (hc : (c == 0) = false) (w : World) : Calls Tryz.prog 16 #[.int .i64 c, .int .i64 pos] w (tells (pl c pos) w) := by
  go_enter Tryz.func16, Tryz.ntmps16
  go_wp2
  go_returns
  refine ⟨rfl, ?_⟩
  go_grown

set_option maxRecDepth 100000 in
set_option maxHeartbeats 1000000 in
theorem placed_at (A : Nat → Addr) (m b : Nat) (pos : Int) (w : World) (hm : m < 17) (h : Sent A w) (hp : PlAt w b pos (E A m)) :
    Calls Tryz.prog 29 #[.iface 67 (.pointer (some ⟨b, 0, none⟩))] w (tells (pl (101 + (m : Int)) pos) w) := by
  have HS := hid' (fun W (hW : Sent A W) => sentinel_is A m W hm hW)
  have H := hid' h
  have HP := hid' hp
  have hbl := hp.low
  clear h hp
  have hx := yes_at ⟨b, 0, none⟩
  have hb0 : Below w.heap.size w (w.alloc (.cells (bareRow 0) 39)) := (Below.refl _ _).alloc (Nat.le_refl _) _
  obtain ⟨p0, p1⟩ := (HP.out.below hb0).cells
  have HB0 := hid' hb0
  clear hb0
  unfold E at HS p1
  unfold bareRow at p0 p1
  go_enter Tryz.func29, Tryz.ntmps29
  go_wp2_with fail
  go_region_with (first
    | (go_at_call 49; refine (HS.out _ (H.out.below HB0.out.drew)).mono ?_; rintro e w1 ⟨rfl, hb1⟩; obtain ⟨q0, q1⟩ := ((HP.out.below HB0.out.drew).below hb1).cells; have BX := hid' hb1; clear hb1)
    | (go_at_call 16; refine (Placed_any _ _ (by rw [beq_eq_false_iff_ne]; omega) _).mono ?_; rintro e w2 ⟨rfl, hb2⟩; have BY := hid' (BX.out.trans (hb2.mono BX.out.size)); obtain ⟨r0, r1, r2, r3, r4⟩ := row_cells (row_drew BY.out); have ro := row_open (row_drew BY.out); have ro0 := ro 0; have ro1 := ro 1; have ro2 := ro 2; have ro3 := ro 3; have ro4 := ro 4; clear ro hb2; unfold pl))
  all_goals go_wp2
  all_goals have hz : w.heap.size ≤ (w.alloc (.cells (bareRow 0) 39)).drew.heap.size := HB0.out.drew.size
  all_goals have h0 := HB0.out.drew.trans (BY.out.mono hz)
  all_goals rw [five_row w2 w.heap.size (.int .i64 (101 + (m : Int))) (.bool true) (.int .i64 pos) (.bool false) (.string ⟨#[]⟩) (row_drew BY.out)]
  all_goals exact end_row Tryz.results29 rfl rfl rfl (row_drew BY.out) h0

set_option maxRecDepth 100000 in
set_option maxHeartbeats 400000 in
theorem Fault_at (A : Nat → Addr) (m b : Nat) (pos : Int) (w : World) (hm : m < 17) (h : Sent A w) (hp : PlAt w b pos (E A m)) :
    Calls Tryz.prog 17 #[.iface 67 (.pointer (some ⟨b, 0, none⟩))] w (tells (pl (101 + (m : Int)) pos) w) := by
  have hb0 : Below w.heap.size w (w.alloc (.cells (bareRow 0) 39)) := (Below.refl _ _).alloc (Nat.le_refl _) _
  have HS := hid' (placed_at A m b pos _ hm (h.below hb0) (hp.below hb0))
  have hx := at_no_in ⟨b, 0, none⟩
  clear h hp
  unfold bareRow at HS
  go_enter Tryz.func17, Tryz.ntmps17
  go_wp2_with fail
  refine HS.out.mono ?_
  rintro e w2 ⟨rfl, hb2⟩
  have hb12 : Below (w.heap.size + 1) (w.alloc (.cells (bareRow 0) 39)) w2 := hb2.mono (by simp)
  have Hrow := hid' (row_kept hb12)
  have HB : Hid (Below w.heap.size w w2) := hid' (hb0.trans (hb12.mono (by omega)))
  clear hb0 hb2 hb12
  unfold pl
  go_wp2_with ((with_reducible refine at_list ?_); refine wpList_store_row rfl 39 (.tmp 2) (.tmp 17) rfl w.heap.size (plRow (101 + (m : Int)) pos) rfl rfl 39 (bareRow 0) Hrow.out fault_size rfl (by simp [plRow, Value.oneCell']) ?_)
  exact end_row Tryz.results17 rfl rfl rfl Hrow.out HB.out

set_option maxRecDepth 100000 in
set_option maxHeartbeats 400000 in
theorem SameFault_pl (c pos : Int) (w : World) : Calls Tryz.prog 27 #[pl c pos, pl c pos] w (tells (.bool true) w) := by
  unfold pl
  go_enter Tryz.func27, Tryz.ntmps27
  go_wp2
  go_ret
  refine ⟨ret_bool' (by simp), ?_⟩
  go_grown
theorem pl_drew {w w' : World} {c pos : Int} (hb : Below (w.alloc (.cells (plRow c pos) 39)).drew.heap.size (w.alloc (.cells (plRow c pos) 39)).drew w') : w'.heap[w.heap.size]? = some (.cells (plRow c pos) 39 (0, 0)) :=
  (hb.block _ (by show w.heap.size < (w.alloc _).heap.size; simp)).trans (alloc_new' w _)
theorem pl_cells {W : World} {g : Nat} {t : TypeId} {c pos : Int} (h : W.heap[g]? = some (.cells (plRow c pos) t (0, 0))) : W.cell? ⟨g, 0, none⟩ = some (.int .i64 c) ∧ W.cell? ⟨g, 1, none⟩ = some (.bool true) ∧ W.cell? ⟨g, 2, none⟩ = some (.int .i64 pos) ∧ W.cell? ⟨g, 3, none⟩ = some (.bool false) ∧ W.cell? ⟨g, 4, none⟩ = some (.string ⟨#[]⟩) := by
  unfold World.cell?
  rw [h]
  exact ⟨rfl, rfl, rfl, rfl, rfl⟩

set_option maxRecDepth 100000 in
set_option maxHeartbeats 800000 in
theorem Same_pl (A : Nat → Addr) (m b : Nat) (pos : Int) (w : World) (hm : m < 17) (h : Sent A w) (hp : PlAt w b pos (E A m)) :
    Calls Tryz.prog 15 #[.iface 67 (.pointer (some ⟨b, 0, none⟩)), pl (101 + (m : Int)) pos] w (tells (.bool true) w) := by
  have hb0 : Below w.heap.size w (w.alloc (.cells (plRow (101 + (m : Int)) pos) 39)) := (Below.refl _ _).alloc (Nat.le_refl _) _
  have HF := hid' (Fault_at A m b pos _ hm (h.below hb0.drew) (hp.below hb0.drew))
  clear h hp
  have HSF := hid' (SameFault_pl (101 + (m : Int)) pos)
  unfold pl at HSF HF ⊢
  unfold plRow at HF
  go_enter Tryz.func15, Tryz.ntmps15
  go_wp2_with fail
  go_region_with (first | (go_at_call 17; refine HF.out.mono ?_; rintro e w1 ⟨rfl, hb1⟩; obtain ⟨c0, c1, c2, c3, c4⟩ := pl_cells (pl_drew hb1)) | (go_at_call 27; refine (HSF.out _).mono ?_; rintro e w2 ⟨rfl, hb2⟩))
  all_goals go_wp2
  all_goals go_ret
  all_goals exact ⟨rfl, hb0.drew.trans (hb1.mono (by show w.heap.size ≤ (w.alloc _).heap.size; simp)) |>.trans (hb2.mono (Nat.le_trans (by show w.heap.size ≤ (w.alloc _).heap.size; simp) hb1.size))⟩

end Go.Proofs.YtnfnlcahlgnahaaGreatDoor
