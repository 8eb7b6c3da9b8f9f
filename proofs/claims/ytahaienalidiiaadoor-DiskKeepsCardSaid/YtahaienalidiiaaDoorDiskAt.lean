/- A disk in memory: its cells, its two maps; what begin, Arm, Down and Ops make of it. Conditions: the disk's blocks lie from block B on. -/
import Derived.Test.YtahaienalidiiaaDoorDiskKit
import Derived.Laws.Rows
namespace Go.Proofs.YtahaienalidiiaaDoor
open Go.RowKit Go.Maps

def cont (s : ByteArray) (b : Bool) : Value := .agg #[.string s, .bool b]
def cont0 : Value := cont ⟨#[]⟩ false
def hV (s : ByteArray) (b : Bool) (k0 : Int) (t0 : ByteArray) (k1 : Int) (t1 : ByteArray) (k2 : Int) (t2 : ByteArray) (k3 : Int) (t3 : ByteArray) (n : Int) : Value :=
  .agg #[.string s, .bool b, .int .i64 k0, .string t0, .int .i64 k1, .string t1, .int .i64 k2, .string t2, .int .i64 k3, .string t3, .int .i64 n]
def hist0 : Value := hV ⟨#[]⟩ false 0 ⟨#[]⟩ 0 ⟨#[]⟩ 0 ⟨#[]⟩ 0 ⟨#[]⟩ 0
theorem rd_cont (s : ByteArray) (b : Bool) : ∃ d, rdS (cont s b) = some (d, []) := ⟨_, rfl⟩
theorem rd_hist (s : ByteArray) (b : Bool) (k0 : Int) (t0 : ByteArray) (k1 : Int) (t1 : ByteArray) (k2 : Int) (t2 : ByteArray) (k3 : Int) (t3 : ByteArray) (n : Int) : ∃ d, rdS (hV s b k0 t0 k1 t1 k2 t2 k3 t3 n) = some (d, []) := ⟨_, rfl⟩
theorem zero_cont : ∀ W, (zeroValue 60).run Tryd.prog W = .ok cont0 W := (zero_of_info (n := 2) (by kernel_rfl)).1
theorem zero_hist : ∀ W, (zeroValue 71).run Tryd.prog W = .ok hist0 W := (zero_of_info (n := 11) (by kernel_rfl)).1
def diskCells (fb cb : Nat) (ops armed : Int) (down : Bool) : Array Value := #[.map (some fb), .map (some cb), .int .i64 ops, .int .i64 armed, .bool down]
/-- A disk: its cells, its files, its changes; all from block B on. -/
structure DiskAt (W : World) (B sb fb cb nf nc : Nat) (F C : ByteArray → Option Value) (ops armed : Int) (down : Bool) : Prop where
  row : W.heap[sb]? = some (.cells (diskCells fb cb ops armed down) 57 (0, 0))
  files : MapAt W fb nf cont0 F
  changed : MapAt W cb nc hist0 C
  apart : fb ≠ cb ∧ sb ≠ fb ∧ sb ≠ cb
  high : B ≤ sb ∧ B ≤ fb ∧ B ≤ cb
/-- But for the disk's three blocks all that was is as it was. -/
structure Tri (sb fb cb : Nat) (w w' : World) : Prop where
  os : w'.os = w.os
  tape : w'.tape = w.tape
  output : w'.output = w.output
  size : w.heap.size ≤ w'.heap.size
  block : ∀ k, k < w.heap.size → k ≠ sb → k ≠ fb → k ≠ cb → w'.heap[k]? = w.heap[k]?
theorem Tri.refl (sb fb cb : Nat) (w : World) : Tri sb fb cb w w := ⟨rfl, rfl, rfl, Nat.le_refl _, fun _ _ _ _ _ => rfl⟩
theorem Tri.trans {sb fb cb : Nat} {a b c : World} (h : Tri sb fb cb a b) (k : Tri sb fb cb b c) : Tri sb fb cb a c :=
  ⟨k.os.trans h.os, k.tape.trans h.tape, k.output.trans h.output, Nat.le_trans h.size k.size, fun i hi h1 h2 h3 => (k.block i (Nat.lt_of_lt_of_le hi h.size) h1 h2 h3).trans (h.block i hi h1 h2 h3)⟩
theorem Tri.of_below {sb fb cb : Nat} {w w' : World} (h : Below w.heap.size w w') : Tri sb fb cb w w' := ⟨h.os, h.tape, h.output, h.size, fun k hk _ _ _ => h.block k hk⟩
theorem Tri.alloc {sb fb cb : Nat} {a w : World} (h : Tri sb fb cb a w) (o : Obj) : Tri sb fb cb a (w.alloc o) := h.trans (Tri.of_below ((Below.refl _ _).alloc (Nat.le_refl _) _))
theorem Tri.drew {sb fb cb : Nat} {a w : World} (h : Tri sb fb cb a w) : Tri sb fb cb a w.drew := ⟨h.os, h.tape, h.output, h.size, h.block⟩
theorem Tri.setSb {sb fb cb : Nat} {a w : World} (h : Tri sb fb cb a w) (i : Nat) (u : Value) : Tri sb fb cb a (w.setCell ⟨sb, i, none⟩ u) :=
  h.trans ⟨rfl, rfl, rfl, by simp [World.setCell], fun k _ hk _ _ => heap_setCell_other _ _ _ _ hk⟩
theorem Tri.below {B sb fb cb : Nat} {w0 w w' : World} (h0 : Below B w0 w) (h : Tri sb fb cb w w') (h1 : B ≤ sb) (h2 : B ≤ fb) (h3 : B ≤ cb) (h4 : B ≤ w.heap.size) : Below B w0 w' :=
  h0.trans ⟨h.os, h.tape, h.output, h.size, fun k hk => h.block k (by omega) (by omega) (by omega) (by omega)⟩
section
variable {W W' : World} {B sb fb cb nf nc : Nat} {F C : ByteArray → Option Value} {ops armed : Int} {down : Bool}
theorem DiskAt.lt (h : DiskAt W B sb fb cb nf nc F C ops armed down) : sb < W.heap.size ∧ fb < W.heap.size ∧ cb < W.heap.size :=
  ⟨(Array.getElem?_eq_some_iff.1 h.row).1, h.files.lt, h.changed.lt⟩
theorem DiskAt.of_eq (h : DiskAt W B sb fb cb nf nc F C ops armed down) (h1 : W'.heap[sb]? = W.heap[sb]?) (h2 : W'.heap[fb]? = W.heap[fb]?) (h3 : W'.heap[cb]? = W.heap[cb]?) : DiskAt W' B sb fb cb nf nc F C ops armed down :=
  ⟨h1.trans h.row, h.files.of_eq h2, h.changed.of_eq h3, h.apart, h.high⟩
theorem DiskAt.below (h : DiskAt W B sb fb cb nf nc F C ops armed down) (hb : Below W.heap.size W W') : DiskAt W' B sb fb cb nf nc F C ops armed down :=
  h.of_eq (hb.block _ h.lt.1) (hb.block _ h.lt.2.1) (hb.block _ h.lt.2.2)
theorem DiskAt.cells (h : DiskAt W B sb fb cb nf nc F C ops armed down) : W.cell? ⟨sb, 0, none⟩ = some (.map (some fb)) ∧ W.cell? ⟨sb, 1, none⟩ = some (.map (some cb)) ∧ W.cell? ⟨sb, 2, none⟩ = some (.int .i64 ops) ∧ W.cell? ⟨sb, 3, none⟩ = some (.int .i64 armed) ∧ W.cell? ⟨sb, 4, none⟩ = some (.bool down) :=
  ⟨cell_of_row W sb 0 _ _ _ h.row, cell_of_row W sb 1 _ _ _ h.row, cell_of_row W sb 2 _ _ _ h.row, cell_of_row W sb 3 _ _ _ h.row, cell_of_row W sb 4 _ _ _ h.row⟩
theorem DiskAt.frozen (h : DiskAt W B sb fb cb nf nc F C ops armed down) : W.frozen? ⟨sb, 2, none⟩ = false ∧ W.frozen? ⟨sb, 3, none⟩ = false ∧ W.frozen? ⟨sb, 4, none⟩ = false :=
  ⟨frozen_of_row W sb 2 _ _ h.row, frozen_of_row W sb 3 _ _ h.row, frozen_of_row W sb 4 _ _ h.row⟩
theorem DiskAt.setOps (h : DiskAt W B sb fb cb nf nc F C ops armed down) (x : Int) : DiskAt (W.setCell ⟨sb, 2, none⟩ (.int .i64 x)) B sb fb cb nf nc F C x armed down :=
  ⟨heap_setCell_same W sb 2 _ _ _ h.row, h.files.of_eq (heap_setCell_other _ _ _ _ (Ne.symm h.apart.2.1)), h.changed.of_eq (heap_setCell_other _ _ _ _ (Ne.symm h.apart.2.2)), h.apart, h.high⟩
theorem DiskAt.setArmed (h : DiskAt W B sb fb cb nf nc F C ops armed down) (x : Int) : DiskAt (W.setCell ⟨sb, 3, none⟩ (.int .i64 x)) B sb fb cb nf nc F C ops x down :=
  ⟨heap_setCell_same W sb 3 _ _ _ h.row, h.files.of_eq (heap_setCell_other _ _ _ _ (Ne.symm h.apart.2.1)), h.changed.of_eq (heap_setCell_other _ _ _ _ (Ne.symm h.apart.2.2)), h.apart, h.high⟩
theorem DiskAt.setDown (h : DiskAt W B sb fb cb nf nc F C ops armed down) (x : Bool) : DiskAt (W.setCell ⟨sb, 4, none⟩ (.bool x)) B sb fb cb nf nc F C ops armed x :=
  ⟨heap_setCell_same W sb 4 _ _ _ h.row, h.files.of_eq (heap_setCell_other _ _ _ _ (Ne.symm h.apart.2.1)), h.changed.of_eq (heap_setCell_other _ _ _ _ (Ne.symm h.apart.2.2)), h.apart, h.high⟩

theorem down_any (h : DiskAt W B sb fb cb nf nc F C ops armed down) : Calls Tryd.prog 17 #[.pointer (some ⟨sb, 0, none⟩)] W fun e w' => e = .returned (.bool down) ∧ w' = W := by
  obtain ⟨c0, c1, c2, c3, c4⟩ := h.cells
  clear h
  go_enter Tryd.func17, Tryd.ntmps17
  go_wp2
  go_ret
  exact ⟨rfl, rfl⟩
theorem ops_any (h : DiskAt W B sb fb cb nf nc F C ops armed down) : Calls Tryd.prog 18 #[.pointer (some ⟨sb, 0, none⟩)] W fun e w' => e = .returned (.int .i64 ops) ∧ w' = W := by
  obtain ⟨c0, c1, c2, c3, c4⟩ := h.cells
  clear h
  go_enter Tryd.func18, Tryd.ntmps18
  go_wp2
  go_ret
  exact ⟨rfl, rfl⟩
theorem arm_any (h : DiskAt W B sb fb cb nf nc F C ops armed down) (x : Int) : Calls Tryd.prog 13 #[.pointer (some ⟨sb, 0, none⟩), .int .i64 x] W fun e w' => e = .returned (.tuple #[]) ∧ DiskAt w' B sb fb cb nf nc F C ops x down ∧ Tri sb fb cb W w' := by
  obtain ⟨c0, c1, c2, c3, c4⟩ := h.cells
  obtain ⟨f2, f3, f4⟩ := h.frozen
  have H := hid' (h.setArmed x)
  have HB : Hid (Tri sb fb cb W (W.setCell ⟨sb, 3, none⟩ (.int .i64 x))) := hid' ((Tri.refl sb fb cb W).setSb 3 _)
  clear h
  go_enter Tryd.func13, Tryd.ntmps13
  go_wp2
  go_end0
  exact ⟨rfl, H.out, HB.out⟩
/-- What stands armed behind a call. -/
def armed' (x : Int) : Int := if 0 < x then x - 1 else x
theorem begin_down (h : DiskAt W B sb fb cb nf nc F C ops armed true) : Calls Tryd.prog 26 #[.pointer (some ⟨sb, 0, none⟩)] W fun e w' => e = .returned (.bool false) ∧ w' = W := by
  obtain ⟨c0, c1, c2, c3, c4⟩ := h.cells
  clear h
  go_enter Tryd.func26, Tryd.ntmps26
  go_wp2
  go_ret
  exact ⟨rfl, rfl⟩
set_option maxHeartbeats 800000 in
theorem begin_up (h : DiskAt W B sb fb cb nf nc F C ops armed false) (ho : 0 ≤ ops) (ho2 : ops < 1000000) (ha1 : -9223372036854775808 ≤ armed) (ha2 : armed < 9223372036854775808) :
    Calls Tryd.prog 26 #[.pointer (some ⟨sb, 0, none⟩)] W fun e w' => e = .returned (.bool (decide (armed ≠ 1))) ∧ DiskAt w' B sb fb cb nf nc F C (ops + 1) (armed' armed) (decide (armed = 1)) ∧ Tri sb fb cb W w' := by
  obtain ⟨c0, c1, c2, c3, c4⟩ := h.cells
  obtain ⟨f2, f3, f4⟩ := h.frozen
  have h1 := h.setOps (ops + 1)
  have hb1 : Tri sb fb cb W (W.setCell ⟨sb, 2, none⟩ (.int .i64 (ops + 1))) := (Tri.refl sb fb cb W).setSb 2 _
  have H1 := hid' h1
  have HB1 := hid' hb1
  by_cases hp : 0 < armed
  · have h2 := h1.setArmed (armed - 1)
    have hb2 := hb1.setSb 3 (.int .i64 (armed - 1))
    have h3 := h2.setDown (decide (armed = 1))
    have hb3 := hb2.setSb 4 (.bool (decide (armed = 1)))
    have e : armed' armed = armed - 1 := if_pos hp
    rw [e]
    have H3 := hid' h3
    have HB3 := hid' hb3
    clear h h1 h2 h3 hb1 hb2 hb3 e
    by_cases h1 : armed = 1
    · subst h1
      go_enter Tryd.func26, Tryd.ntmps26
      go_wp2
      go_ret
      exact ⟨rfl, H3.out, HB3.out⟩
    · rw [decide_eq_false h1] at H3 HB3 ⊢
      have hne : (armed - 1 == 0) = false := by rw [beq_eq_false_iff_ne]; omega
      go_enter Tryd.func26, Tryd.ntmps26
      go_wp2
      go_ret
      exact ⟨by simp [h1], H3.out, HB3.out⟩
  · have e : armed' armed = armed := if_neg hp
    have hn : armed ≠ 1 := by omega
    rw [e, decide_eq_true hn, decide_eq_false hn]
    clear h h1 hb1 e
    go_enter Tryd.func26, Tryd.ntmps26
    go_wp2
    go_ret
    exact ⟨rfl, H1.out, HB1.out⟩
end
end Go.Proofs.YtahaienalidiiaaDoor
