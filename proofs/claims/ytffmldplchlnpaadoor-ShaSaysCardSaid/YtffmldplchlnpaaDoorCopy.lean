/- A copy of bytes into a digest under way; what the walks say of a digest under way and the text that it stands for. Conditions: as each states. -/
import Derived.Test.YtffmldplchlnpaaDoorMix
import Derived.OwnWalk
import Derived.Deep.MidRow
import Derived.Laws.CopyOwn
namespace Go.Proofs.YtffmldplchlnpaaDoor
open Go.RowKit

/-- A list of bytes that is read from: an address of its own only where it has any. -/
def Src (w : World) (ao : Option Addr) (bs : List UInt8) : Prop := 0 < bs.length → ∃ bk off, ao = some ⟨bk, off, none⟩ ∧ bk < w.heap.size ∧ At w bk off bs
theorem run_copy_zero (w : World) (dT sT ty elem : TypeId) (hu : Tryd.prog.underlying dT = some (.slice elem)) (hs : (Tryd.prog.info? elem).map (·.size) = some 1) (dp sp : Option Addr) (dLen dCap sLen sCap : Nat) (hn : Nat.min sLen dLen = 0) :
    (Builtin.copy_ #[dT, sT] ty #[.slice dp dLen dCap, .slice sp sLen sCap]).run Tryd.prog w = .ok (goInt 0) w := run_copy_none (P := Tryd.prog) w dT sT ty elem dp sp dLen dCap sLen sCap hu hs hn

theorem stCells_list (hs : List W32) (rest : List UInt8) (n : Nat) : (stCells hs rest n).toList = hs.map (fun x => Value.int .u32 (wv x)) ++ (rest.map bval ++ [Value.int .u64 (n : Int)]) := rfl
theorem stCells_splice (hs : List W32) (rest xs : List UInt8) (n o : Nat) (hh : hs.length = 8) (hr : o + xs.length ≤ rest.length) :
    ((stCells hs rest n).toList.take (8 + o) ++ (xs.map bval ++ (stCells hs rest n).toList.drop (8 + o + (xs.map bval).length))).toArray = stCells hs (splice rest o xs) n := by
  rw [stCells_list, stCells, splice]
  congr 1
  rw [List.take_append, List.drop_append, List.take_of_length_le (by simp; omega), List.drop_of_length_le (by simp; omega)]
  simp only [List.length_map, hh, List.nil_append]
  rw [show 8 + o - 8 = o by omega, show 8 + o + xs.length - 8 = o + xs.length by omega, List.take_append, List.drop_append]
  simp only [List.length_map]
  rw [show o - rest.length = 0 by omega, show o + xs.length - rest.length = 0 by omega]
  simp [List.map_take, List.map_drop]
theorem bval_one (xs : List UInt8) : ∀ v ∈ xs.map bval, v.oneCell' = true := by
  intro v hv
  obtain ⟨x, _, rfl⟩ := List.mem_map.1 hv
  rfl

theorem copy_rest {ops : Array Oper} {rest' : List Oper} {o : Oper} {a : Act} {w : World} {Q : Exit → Act → World → Prop} (hgd : o.guard = none) (d s : Operand)
    (ho : o.op = .call { callee := .builtin .copy, args := #[d, s], argTypes := #[22, 22] }) (sb : Nat) (hs : List W32) (rest : List UInt8) (n at' dc : Nat)
    (hd : a.eval d = .slice (some ⟨sb, 8 + at', none⟩) (64 - at') dc) (sp : Option Addr) (sLen sCap : Nat) (hx : a.eval s = .slice sp sLen sCap) (xs : List UInt8) (hl : xs.length = sLen)
    (hS : StateAt w sb hs rest n) (hX : Src w sp xs) (ha : at' < 64) (k : Nat) (hk : k = min sLen (64 - at'))
    (h : ∀ w', StateAt w' sb hs (splice rest at' (xs.take k)) n → Turned sb w w' → wpList Tryd.prog ops Q rest' (a.put o.dst (goInt k)) w') : wpList Tryd.prog ops Q (o :: rest') a w := by
  have hsz : (Tryd.prog.info? 5).map (·.size) = some 1 := by kernel_rfl
  have hr := hS.2.2
  have hlk : (xs.take k).length = k := by rw [List.length_take]; omega
  have hlk' : ((xs.take k).map bval).length = k := by rw [List.length_map, hlk]
  by_cases h0 : k = 0
  · refine wpList_copy_nothing hgd d s _ _ ho 5 Tryd.underlying22 hsz _ sp _ dc sLen sCap hd hx (by show min sLen (64 - at') = 0; omega) ?_
    have := h w (by rw [h0]; simpa [splice] using hS) (Turned.refl _ _)
    rw [h0] at this
    exact this
  · obtain ⟨bk, off, rfl, hb, hA⟩ := hX (by omega)
    refine wpList_copy_own hgd d s _ _ ho 5 Tryd.underlying22 hsz sb (8 + at') _ dc ⟨bk, off, none⟩ sLen sCap hd hx (stCells hs rest n) _ hS.1 ((xs.take k).map bval) (by rw [hlk']; exact hk) (fun j v hv => ?_) (by rw [hlk', stCells_size _ _ _ hS.2.1 hr]; omega) (bval_one _) ?_
    · rw [List.getElem?_map] at hv
      obtain ⟨z, hz, rfl⟩ := Option.map_eq_some_iff.1 hv
      rw [Addr.add_mid]
      refine hA j z ?_
      rw [List.getElem?_take] at hz
      split at hz
      · exact hz
      · cases hz
    · rw [stCells_splice hs rest (xs.take k) n at' hS.2.1 (by rw [hlk]; omega), hlk']
      refine h _ ⟨setRow_heap w sb _ _ _ _ hS.1, hS.2.1, ?_⟩ ((Turned.refl sb w).setRow _)
      rw [length_splice _ _ _ (by rw [hlk]; omega)]
      exact hr

/-- The same as an equation on the copy's run. -/
theorem copy_run (w : World) (ty : TypeId) (sb : Nat) (hs : List W32) (rest : List UInt8) (n at' dc : Nat) (sp : Option Addr) (sLen sCap : Nat) (xs : List UInt8) (hl : xs.length = sLen)
    (hS : StateAt w sb hs rest n) (hX : Src w sp xs) (ha : at' < 64) (k : Nat) (hk : k = min sLen (64 - at')) :
    ∃ w', (Builtin.copy_ #[22, 22] ty #[.slice (some ⟨sb, 8 + at', none⟩) (64 - at') dc, .slice sp sLen sCap]).run Tryd.prog w = .ok (goInt k) w' ∧ StateAt w' sb hs (splice rest at' (xs.take k)) n ∧ Turned sb w w' := by
  have hsz : (Tryd.prog.info? 5).map (·.size) = some 1 := by kernel_rfl
  have hr := hS.2.2
  have hlk : (xs.take k).length = k := by rw [List.length_take]; omega
  have hlk' : ((xs.take k).map bval).length = k := by rw [List.length_map, hlk]
  by_cases h0 : k = 0
  · refine ⟨w, ?_, by rw [h0]; simpa [splice] using hS, Turned.refl _ _⟩
    rw [h0]
    exact run_copy_none (P := Tryd.prog) w _ _ _ 5 _ sp _ dc sLen sCap Tryd.underlying22 hsz (by show min sLen (64 - at') = 0; omega)
  · obtain ⟨bk, off, rfl, hb, hA⟩ := hX (by omega)
    have hrun := run_copy_row (P := Tryd.prog) w 22 22 ty 5 sb (8 + at') (64 - at') dc ⟨bk, off, none⟩ sLen sCap (stCells hs rest n) _ ((xs.take k).map bval) Tryd.underlying22 hsz hS.1 (by rw [hlk']; exact hk) (fun j v hv => by
      rw [List.getElem?_map] at hv
      obtain ⟨z, hz, rfl⟩ := Option.map_eq_some_iff.1 hv
      rw [Addr.add_mid]
      refine hA j z ?_
      rw [List.getElem?_take] at hz
      split at hz
      · exact hz
      · cases hz) (by rw [hlk', stCells_size _ _ _ hS.2.1 hr]; omega) (bval_one _)
    rw [List.append_assoc, stCells_splice hs rest (xs.take k) n at' hS.2.1 (by rw [hlk]; omega), hlk'] at hrun
    refine ⟨_, hrun, ⟨setRow_heap w sb _ _ _ _ hS.1, hS.2.1, ?_⟩, (Turned.refl sb w).setRow _⟩
    rw [length_splice _ _ _ (by rw [hlk]; omega)]
    exact hr

/-- A digest under way of a text. -/
def StateOf (w : World) (sb : Nat) (m : List UInt8) : Prop := ∃ rest, StateAt w sb (hashN m (m.length / 64)) rest m.length ∧ rest.take (m.length % 64) = m.drop (64 * (m.length / 64))
theorem blk_append (m x : List UInt8) (k : Nat) (h : 64 * (k + 1) ≤ m.length) : blk (m ++ x) k = blk m k := by
  unfold blk
  rw [List.drop_append_of_le_length (by omega), List.take_append_of_le_length (by rw [List.length_drop]; omega)]
theorem hashN_append (m x : List UInt8) (k : Nat) (h : 64 * k ≤ m.length) : hashN (m ++ x) k = hashN m k := by
  induction k with
  | zero => rfl
  | succ k ih => rw [hashN, hashN, ih (by omega), blk_append m x k h]
theorem blk_len (m : List UInt8) (k : Nat) (h : 64 * (k + 1) ≤ m.length) : (blk m k).length = 64 := by
  rw [blk, List.length_take, List.length_drop]
  omega
theorem At.drop {w : World} {bk off : Nat} {bs : List UInt8} (h : At w bk off bs) (k : Nat) : At w bk (off + k) (bs.drop k) := fun j x hx => by
  rw [List.getElem?_drop] at hx
  rw [Nat.add_assoc]
  exact h _ x hx
theorem At.take {w : World} {bk off : Nat} {bs : List UInt8} (h : At w bk off bs) (k : Nat) : At w bk off (bs.take k) := fun j x hx => by
  rw [List.getElem?_take] at hx
  split at hx
  · exact h _ x hx
  · cases hx
theorem At.turned {w w' : World} {bk off sb : Nat} {bs : List UInt8} (h : At w bk off bs) (ht : Turned sb w w') (h1 : bk < w.heap.size) (h2 : bk ≠ sb) : At w' bk off bs := fun j x hx => (ht.cell ⟨bk, off + j, none⟩ h1 h2).trans (h j x hx)
theorem StateAt.rest {w : World} {sb : Nat} {hs : List W32} {rest : List UInt8} {n : Nat} (h : StateAt w sb hs rest n) : At w sb 8 rest := fun j x hx => by
  obtain ⟨hj, rfl⟩ := List.getElem?_eq_some_iff.1 hx
  rw [cell_of_row w sb (8 + j) _ _ _ h.1, stCells_rest _ _ _ _ h.2.1 hj]
  simp [List.getElem?_eq_getElem hj]
theorem StateAt.setLen {w : World} {sb : Nat} {hs : List W32} {rest : List UInt8} {n : Nat} (h : StateAt w sb hs rest n) (n' : Nat) : StateAt (w.setCell ⟨sb, 72, none⟩ (.int .u64 (n' : Int))) sb hs rest n' := by
  refine ⟨(heap_setCell_same w sb 72 _ _ _ h.1).trans ?_, h.2⟩
  rw [stCells, stCells, List.setIfInBounds_toArray]
  congr 3
  rw [List.set_append_right _ _ (by simp [h.2.1]), List.set_append_right _ _ (by simp [h.2.1, h.2.2])]
  simp [h.2.1, h.2.2]
end Go.Proofs.YtffmldplchlnpaaDoor
