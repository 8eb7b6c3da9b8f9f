/- Limbs of the document's whole numbers in memory: those that are read, rows of the call's own, made and stored into. No conditions but those that each states. -/
import Derived.Test.YtapdkibiegeijaaDoorProg
import Derived.Test.YtapdkibiegeijaaDoorRvF
import Derived.WalkKit
import Derived.RowKitTokens
import Derived.BigQuiet
import Derived.BigRegion
import Derived.Deep.QuietTactic
import Derived.Laws.Rows
import Derived.Laws.Tables
import Derived.Laws.CopyRow
import Derived.Below
import Derived.Great.BuildSlice
import Derived.Deep.MidRow
import Derived.OwnWalk
namespace Go.Proofs.YtapdkibiegeijaaDoor
open Go.RowKit
namespace Rv

theorem hidden {p : Prop} (h : p) : Hid p := h
def nval (x : Nat) : Value := .int .i64 (x : Int)
def ncells (l : List Nat) : Array Value := (l.map nval).toArray
/-- From a cell on the parts stand one behind the other. -/
def AtN (w : World) (bk off : Nat) (l : List Nat) : Prop := ∀ j x, l[j]? = some x → w.cell? ⟨bk, off + j, none⟩ = some (nval x)
/-- Parts that are read: an address only where there are any. -/
def SrcN (w : World) (ao : Option Addr) (l : List Nat) : Prop := 0 < l.length → ∃ bk off, ao = some ⟨bk, off, none⟩ ∧ bk < w.heap.size ∧ AtN w bk off l
/-- A row that is known whole. -/
def RowN (w : World) (g : Nat) (l : List Nat) : Prop := w.heap[g]? = some (.cells (ncells l) 3 (0, 0))

theorem AtN.get {w : World} {bk off : Nat} {l : List Nat} (h : AtN w bk off l) (j : Nat) (hj : j < l.length) : w.cell? ⟨bk, off + j, none⟩ = some (.int .i64 ((l.getD j 0 : Nat) : Int)) := by
  refine h j _ ?_
  rw [List.getD_eq_getElem?_getD, List.getElem?_eq_getElem hj]
  rfl
theorem AtN.below {w w' : World} {bk off B : Nat} {l : List Nat} (h : AtN w bk off l) (hb : Below B w w') (hB : bk < B) : AtN w' bk off l := fun j x hx => (hb.cell (p := ⟨bk, off + j, none⟩) hB).trans (h j x hx)
theorem AtN.drop {w : World} {bk off : Nat} {l : List Nat} (h : AtN w bk off l) (k : Nat) : AtN w bk (off + k) (l.drop k) := fun j x hx => by
  rw [List.getElem?_drop] at hx
  rw [Nat.add_assoc]
  exact h _ x hx
theorem AtN.take {w : World} {bk off : Nat} {l : List Nat} (h : AtN w bk off l) (k : Nat) : AtN w bk off (l.take k) := fun j x hx => by
  rw [List.getElem?_take] at hx
  split at hx
  · exact h _ x hx
  · cases hx
theorem SrcN.below {w w' : World} {ao : Option Addr} {l : List Nat} (h : SrcN w ao l) (hb : Below w.heap.size w w') : SrcN w' ao l := fun hp => by
  obtain ⟨bk, off, e, h1, h2⟩ := h hp
  exact ⟨bk, off, e, Nat.lt_of_lt_of_le h1 hb.size, h2.below hb h1⟩
theorem SrcN.belowAt {w w' : World} {B : Nat} {ao : Option Addr} {l : List Nat} (h : SrcN w ao l) (hb : Below B w w') (hB : w.heap.size ≤ B) : SrcN w' ao l := h.below (hb.mono hB)
theorem SrcN.take {w : World} {ao : Option Addr} {l : List Nat} (h : SrcN w ao l) (k : Nat) : SrcN w ao (l.take k) := fun hp => by
  rw [List.length_take] at hp
  obtain ⟨bk, off, e, h1, h2⟩ := h (by omega)
  exact ⟨bk, off, e, h1, h2.take k⟩
theorem SrcN.get {w : World} {ao : Option Addr} {l : List Nat} (h : SrcN w ao l) (j : Nat) (hj : j < l.length) : ∃ bk off, ao = some ⟨bk, off, none⟩ ∧ w.cell? ⟨bk, off + j, none⟩ = some (.int .i64 ((l.getD j 0 : Nat) : Int)) := by
  obtain ⟨bk, off, e, _, h2⟩ := h (by omega)
  exact ⟨bk, off, e, h2.get j hj⟩
theorem srcN_nil (w : World) (ao : Option Addr) : SrcN w ao [] := fun h => by cases h

theorem ncells_size (l : List Nat) : (ncells l).size = l.length := by simp [ncells]
theorem ncells_get (l : List Nat) (j : Nat) (h : j < l.length) : (ncells l)[j]? = some (.int .i64 ((l.getD j 0 : Nat) : Int)) := by
  simp [ncells, List.getElem?_eq_getElem h, nval]
theorem ncells_set (l : List Nat) (j x : Nat) : (ncells l).setIfInBounds j (.int .i64 (x : Int)) = ncells (l.set j x) := by
  simp [ncells, nval]
theorem RowN.cell {w : World} {g : Nat} {l : List Nat} (h : RowN w g l) (j : Nat) (hj : j < l.length) : w.cell? ⟨g, j, none⟩ = some (.int .i64 ((l.getD j 0 : Nat) : Int)) := (cell_of_row w g j _ _ _ h).trans (ncells_get l j hj)
theorem RowN.frozen {w : World} {g : Nat} {l : List Nat} (h : RowN w g l) (j : Nat) : w.frozen? ⟨g, j, none⟩ = false := frozen_of_row w g j _ _ h
theorem RowN.lt {w : World} {g : Nat} {l : List Nat} (h : RowN w g l) : g < w.heap.size := (Array.getElem?_eq_some_iff.1 h).1
theorem RowN.set {w : World} {g : Nat} {l : List Nat} (h : RowN w g l) (j x : Nat) : RowN (w.setCell ⟨g, j, none⟩ (.int .i64 (x : Int))) g (l.set j x) := (heap_setCell_same w g j _ _ _ h).trans (by rw [ncells_set])
theorem RowN.at {w : World} {g : Nat} {l : List Nat} (h : RowN w g l) : AtN w g 0 l := fun j x hx => by
  obtain ⟨hj, rfl⟩ := List.getElem?_eq_some_iff.1 hx
  rw [Nat.zero_add, h.cell j hj, List.getD_eq_getElem?_getD, List.getElem?_eq_getElem hj]
  rfl
theorem RowN.atFrom {w : World} {g : Nat} {l : List Nat} (h : RowN w g l) (k : Nat) : AtN w g k (l.drop k) := by
  have := h.at.drop k
  rwa [Nat.zero_add] at this
theorem RowN.drew {w : World} {g : Nat} {l : List Nat} (h : RowN w g l) : RowN w.drew g l := h
theorem RowN.below {w w' : World} {g B : Nat} {l : List Nat} (h : RowN w g l) (hb : Below B w w') (hB : g < B) : RowN w' g l := (hb.block g hB).trans h
theorem RowN.src {w : World} {g : Nat} {l : List Nat} (h : RowN w g l) : SrcN w (some ⟨g, 0, none⟩) l := fun _ => ⟨g, 0, rfl, h.lt, h.at⟩
theorem rowN_alloc (w : World) (l : List Nat) : RowN (w.alloc (.cells (ncells l) 3)) w.heap.size l := heap_alloc_new _ _

theorem info_i64 : (Tryd.prog.info? 3).map (fun i => (i.zero, i.size, i.bytes)) = some (some (.int .i64 0), 1, 8) := by kernel_rfl
theorem i64_parts : ∃ i, Tryd.prog.info? 3 = some i ∧ i.zero = some (.int .i64 0) ∧ i.size = 1 ∧ i.bytes = 8 := by
  have h := info_i64
  cases e : Tryd.prog.info? 3 with
  | none => rw [e] at h; cases h
  | some i =>
    rw [e] at h
    simp only [Option.map_some, Option.some.injEq, Prod.mk.injEq] at h
    exact ⟨i, rfl, h.1, h.2.1, h.2.2⟩
/-- make([]int, n). -/
theorem make_i64 (kl kc : IntKind) (n : Nat) (hn : n < 100000000) (L C : Int) (hL : L = n) (hC : C = n) (w : World) :
    (Instr.makeSlice 26 (.int kl L) (.int kc C)).run Tryd.prog w = .ok (.slice (some ⟨w.heap.size, 0, none⟩) n n) (w.alloc (.cells (ncells (List.replicate n 0)) 3)) := by
  obtain ⟨i, hi, hz, hz1, hz2⟩ := i64_parts
  subst hL hC
  have h := run_make (P := Tryd.prog) w 26 3 i (.int .i64 0) Tryd.underlying26 hi hz kl kc n n (by omega) (by omega) (by rw [hz2]; omega) (by omega)
  rw [h]
  simp only [Int.toNat_natCast, hz1, Nat.mul_one]
  have e : madeCells (Value.int IntKind.i64 0).cells n = ncells (List.replicate n 0) := by
    apply Array.ext
    · simp [madeCells, ncells]
    · intro i h1 h2
      simp [madeCells, ncells, Value.cells, nval, Nat.mod_one]
  rw [e]

/-- All but one block is as it was. -/
structure Turn (g : Nat) (w w' : World) : Prop where
  os : w'.os = w.os
  tape : w'.tape = w.tape
  output : w'.output = w.output
  size : w.heap.size ≤ w'.heap.size
  block : ∀ k, k < w.heap.size → k ≠ g → w'.heap[k]? = w.heap[k]?
theorem Turn.refl (g : Nat) (w : World) : Turn g w w := ⟨rfl, rfl, rfl, Nat.le_refl _, fun _ _ _ => rfl⟩
theorem Turn.trans {g : Nat} {a b c : World} (h : Turn g a b) (k : Turn g b c) : Turn g a c :=
  ⟨k.os.trans h.os, k.tape.trans h.tape, k.output.trans h.output, Nat.le_trans h.size k.size, fun i hi hg => (k.block i (Nat.lt_of_lt_of_le hi h.size) hg).trans (h.block i hi hg)⟩
theorem Turn.of_below {g : Nat} {w w' : World} (h : Below w.heap.size w w') : Turn g w w' := ⟨h.os, h.tape, h.output, h.size, fun k hk _ => h.block k hk⟩
theorem Turn.below {g B : Nat} {w0 w w' : World} (h0 : Below B w0 w) (h : Turn g w w') (h1 : B ≤ g) (h2 : B ≤ w.heap.size) : Below B w0 w' :=
  h0.trans ⟨h.os, h.tape, h.output, h.size, fun k hk => h.block k (by omega) (by omega)⟩
theorem Turn.drew {g : Nat} {a w : World} (h : Turn g a w) : Turn g a w.drew := ⟨h.os, h.tape, h.output, h.size, h.block⟩
theorem Turn.setCell {g : Nat} {a w : World} (h : Turn g a w) (i : Nat) (u : Value) : Turn g a (w.setCell ⟨g, i, none⟩ u) :=
  h.trans ⟨rfl, rfl, rfl, by simp [World.setCell], fun k _ hk => heap_setCell_other _ _ _ _ hk⟩
theorem Turn.cell {g : Nat} {w w' : World} (h : Turn g w w') (p : Addr) (h1 : p.block < w.heap.size) (h2 : p.block ≠ g) : w'.cell? p = w.cell? p := by
  unfold World.cell?
  rw [h.block _ h1 h2]
theorem AtN.turn {w w' : World} {bk off g : Nat} {l : List Nat} (h : AtN w bk off l) (ht : Turn g w w') (h1 : bk < w.heap.size) (h2 : bk ≠ g) : AtN w' bk off l := fun j x hx => (ht.cell ⟨bk, off + j, none⟩ h1 h2).trans (h j x hx)
end Rv
end Go.Proofs.YtapdkibiegeijaaDoor
