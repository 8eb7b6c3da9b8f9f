/- The loops of the reference's Sum, taken out of the translation. No conditions. -/
import Derived.Test.YtffmldplchlnpaaDoorRefWords
import Derived.StillTailTactics
namespace Go.Proofs.YtffmldplchlnpaaDoor
open Go.RowKit

/-- The exit of one number alone, and what holds there. -/
def exQ (n : Nat) (F : Act → World → Prop) : Exit → Act → World → Prop := fun e a w => match e with
  | .exit k => k = n ∧ F a w
  | _ => False
def loopsOf : Code → List Code
  | .loop c => .loop c :: loopsOf c
  | .seq a b => loopsOf a ++ loopsOf b
  | .block _ c => loopsOf c
  | .scope c => loopsOf c
  | .cond _ a b => loopsOf a ++ loopsOf b
  | _ => []
noncomputable def theLoop (k : Nat) : Code := (loopsOf (Tryd.f12.body.getD .skip)).getD k .skip
theorem al4_0 (w : World) (o1 o2 o3 o4 : Obj) : ((((w.alloc o1).alloc o2).alloc o3).alloc o4).heap[w.heap.size]? = some o1 := by
  rw [Below.heap_alloc _ _ _ (by simp; omega), Below.heap_alloc _ _ _ (by simp; omega), Below.heap_alloc _ _ _ (by simp)]
  exact heap_alloc_new _ _
theorem al4_1 (w : World) (o1 o2 o3 o4 : Obj) : ((((w.alloc o1).alloc o2).alloc o3).alloc o4).heap[w.heap.size + 1]? = some o2 := by
  rw [Below.heap_alloc _ _ _ (by simp), Below.heap_alloc _ _ _ (by simp)]
  rw [show w.heap.size + 1 = (w.alloc o1).heap.size by simp]
  exact heap_alloc_new _ _
theorem al4_2 (w : World) (o1 o2 o3 o4 : Obj) : ((((w.alloc o1).alloc o2).alloc o3).alloc o4).heap[w.heap.size + 1 + 1]? = some o3 := by
  rw [Below.heap_alloc _ _ _ (by simp)]
  rw [show w.heap.size + 1 + 1 = ((w.alloc o1).alloc o2).heap.size by simp]
  exact heap_alloc_new _ _
theorem al4_below (w : World) (o1 o2 o3 o4 : Obj) : Below w.heap.size w ((((w.alloc o1).alloc o2).alloc o3).alloc o4) :=
  ((((Below.refl _ _).alloc (Nat.le_refl _) _).alloc (by simp) _).alloc (by simp; omega) _).alloc (by simp; omega) _
theorem ownB_made3 (w : World) (o1 o2 o3 : Obj) (c : Nat) (hc : c < 2147483648) : OwnB ((((w.alloc o1).alloc o2).alloc o3).alloc (.cells (zrow c) 5)) (w.heap.size + 1 + 1 + 1) (.slice (some ⟨w.heap.size + 1 + 1 + 1, 0, none⟩) 0 c) [] := by
  have h := ownB_zeros (((w.alloc o1).alloc o2).alloc o3) (w.heap.size + 1 + 1 + 1) 0 c (Nat.zero_le _) hc (by simp)
  simpa using h
theorem noughts_end (n t : Nat) (ht : t ≤ noughts n) (h : (n + 1 + t) % 64 = 56) : t = noughts n := by
  unfold noughts at *
  split at ht <;> rename_i h1 <;> simp only [h1, if_true, if_false] <;> omega
theorem noughts_mid (n t : Nat) (ht : t ≤ noughts n) (h : (n + 1 + t) % 64 ≠ 56) : t < noughts n := by
  rcases Nat.lt_or_ge t (noughts n) with h1 | h1
  · exact h1
  · exfalso
    apply h
    have : t = noughts n := by omega
    subst this
    unfold noughts
    split <;> omega
theorem blk_get (M : List UInt8) (t i : Nat) (hi : i < 64) : (blk M t).getD i 0 = M.getD (64 * t + i) 0 := by
  simp [blk, List.getD_eq_getElem?_getD, hi]
theorem turn_at (x : W32) (r : Nat) (k : Int) (hk : k = (r : Int)) (h1 : 1 ≤ r) (h2 : r ≤ 31) (w : World) :
    Calls Tryd.prog 23 #[.int .u32 (wv x), .int .u64 k] w fun e w' => e = .returned (.int .u32 (wv (rotr x r))) ∧ w' = w := by
  subst hk
  exact turn_any x r h1 h2 w
theorem nextW_ref (ws : List W32) (t : Nat) : ws.getD (t - 16) 0 + sig0 (ws.getD (t - 15) 0) + ws.getD (t - 7) 0 + sig1 (ws.getD (t - 2) 0) = nextW ws t := by
  rw [nextW]
  generalize ws.getD (t - 16) 0 = a
  generalize sig0 (ws.getD (t - 15) 0) = b
  generalize ws.getD (t - 7) 0 = c
  generalize sig1 (ws.getD (t - 2) 0) = d
  rw [BitVec.add_comm (d + c + b) a, BitVec.add_assoc a b c, BitVec.add_assoc a (b + c) d, BitVec.add_comm b c, BitVec.add_comm (c + b) d, BitVec.add_assoc d c b]
/-- Eight words in cells. -/
structure VAt (W : World) (g : Nat) (V : V8) : Prop where
  c0 : W.cell? ⟨g, 0, none⟩ = some (.int .u32 (wv V.a))
  c1 : W.cell? ⟨g, 1, none⟩ = some (.int .u32 (wv V.b))
  c2 : W.cell? ⟨g, 2, none⟩ = some (.int .u32 (wv V.c))
  c3 : W.cell? ⟨g, 3, none⟩ = some (.int .u32 (wv V.d))
  c4 : W.cell? ⟨g, 4, none⟩ = some (.int .u32 (wv V.e))
  c5 : W.cell? ⟨g, 5, none⟩ = some (.int .u32 (wv V.f))
  c6 : W.cell? ⟨g, 6, none⟩ = some (.int .u32 (wv V.g))
  c7 : W.cell? ⟨g, 7, none⟩ = some (.int .u32 (wv V.h))
  lt : g < W.heap.size
theorem VAt.below {W W' : World} {g : Nat} {V : V8} (h : VAt W g V) (hb : Below W.heap.size W W') : VAt W' g V :=
  ⟨(hb.cell (p := ⟨g, 0, none⟩) h.lt).trans h.c0, (hb.cell (p := ⟨g, 1, none⟩) h.lt).trans h.c1, (hb.cell (p := ⟨g, 2, none⟩) h.lt).trans h.c2, (hb.cell (p := ⟨g, 3, none⟩) h.lt).trans h.c3, (hb.cell (p := ⟨g, 4, none⟩) h.lt).trans h.c4, (hb.cell (p := ⟨g, 5, none⟩) h.lt).trans h.c5, (hb.cell (p := ⟨g, 6, none⟩) h.lt).trans h.c6, (hb.cell (p := ⟨g, 7, none⟩) h.lt).trans h.c7, Nat.lt_of_lt_of_le h.lt hb.size⟩
theorem VAt.get {W : World} {g : Nat} {V : V8} (h : VAt W g V) (p : Nat) (hp : p < 8) : W.cell? ⟨g, p, none⟩ = some (.int .u32 (wv (V.list.getD p 0))) := by
  match p, hp with
  | 0, _ => exact h.c0
  | 1, _ => exact h.c1
  | 2, _ => exact h.c2
  | 3, _ => exact h.c3
  | 4, _ => exact h.c4
  | 5, _ => exact h.c5
  | 6, _ => exact h.c6
  | 7, _ => exact h.c7
theorem VAt_made (w : World) (t : TypeId) (a b c d e f g h : W32) : VAt (w.alloc (.cells #[.int .u32 (wv a), .int .u32 (wv b), .int .u32 (wv c), .int .u32 (wv d), .int .u32 (wv e), .int .u32 (wv f), .int .u32 (wv g), .int .u32 (wv h)] t)) w.heap.size ⟨a, b, c, d, e, f, g, h⟩ := by
  have hr := heap_alloc_new w (.cells #[.int .u32 (wv a), .int .u32 (wv b), .int .u32 (wv c), .int .u32 (wv d), .int .u32 (wv e), .int .u32 (wv f), .int .u32 (wv g), .int .u32 (wv h)] t)
  exact ⟨cell_of_row _ _ 0 _ _ _ hr, cell_of_row _ _ 1 _ _ _ hr, cell_of_row _ _ 2 _ _ _ hr, cell_of_row _ _ 3 _ _ _ hr, cell_of_row _ _ 4 _ _ _ hr, cell_of_row _ _ 5 _ _ _ hr, cell_of_row _ _ 6 _ _ _ hr, cell_of_row _ _ 7 _ _ _ hr, by show w.heap.size < (w.alloc _).heap.size; simp⟩
theorem byte_of (n sh : Nat) : ((n : Int) * 8) / 2 ^ sh % 256 = ((byteN (n * 8) sh).toNat : Int) := by
  have h := bval_byteN (n * 8) sh
  unfold bval at h
  have h2 := (Value.int.inj h).2
  rw [h2]
  simp
end Go.Proofs.YtffmldplchlnpaaDoor
