/- Rows of flags of the call's own: what a store of true makes of one, what a new one holds. Conditions: none. Plain mathematics: what a row of things with stars can reach of another row, one thing after the other. Conditions: none. -/
import Derived.Test.YteokigpeaggemaaDoorRow
import Derived.Test.YteokigpeaggemaaDoorTexts
namespace Go.Proofs.YteokigpeaggemaaDoor
namespace Row

/-- May the first i things fit the first k places? -/
def reach (st : Nat → Bool) (ft : Nat → Nat → Bool) : Nat → Nat → Bool
  | 0, k => k == 0
  | i + 1, k => if st i then (List.range (k + 1)).any (reach st ft i) else decide (0 < k) && (reach st ft i (k - 1) && ft i (k - 1))
variable {n m : Nat} {st : Nat → Bool} {ft : Nat → Nat → Bool}

theorem reach_succ (i k : Nat) : reach st ft (i + 1) k = if st i then (List.range (k + 1)).any (reach st ft i) else decide (0 < k) && (reach st ft i (k - 1) && ft i (k - 1)) := rfl
theorem reach_step (i : Nat) (hi : i < n) : (∃ k, k ≤ m ∧ reach st ft i k = true ∧ Fit n m st ft i k) ↔ (∃ k, k ≤ m ∧ reach st ft (i + 1) k = true ∧ Fit n m st ft (i + 1) k) := by
  constructor
  · rintro ⟨k, hk, hr, hf⟩
    rcases hf.parts with h | ⟨_, hs, k', h1, h2, h3⟩ | ⟨_, hj, hs, hft, h3⟩
    · omega
    · refine ⟨k', h2, ?_, h3⟩
      rw [reach_succ, if_pos hs, List.any_eq_true]
      exact ⟨k, by simp; omega, hr⟩
    · refine ⟨k + 1, by omega, ?_, h3⟩
      rw [reach_succ, if_neg (by simp [hs])]
      simp [hr, hft]
  · rintro ⟨k, hk, hr, hf⟩
    rw [reach_succ] at hr
    by_cases hs : st i = true
    · rw [if_pos hs, List.any_eq_true] at hr
      obtain ⟨k', h1, h2⟩ := hr
      have h1' : k' ≤ k := by simp at h1; omega
      exact ⟨k', by omega, h2, .star i k' k hi hs h1' hk hf⟩
    · rw [if_neg hs] at hr
      cases k with
      | zero => simp at hr
      | succ j =>
        simp only [Bool.and_eq_true, Nat.add_sub_cancel] at hr
        replace hr := hr.2
        exact ⟨j, by omega, hr.1, .one i j hi (by omega) (by simpa using hs) hr.2 hf⟩
theorem reach_all : ∀ i, i ≤ n → (Fit n m st ft 0 0 ↔ ∃ k, k ≤ m ∧ reach st ft i k = true ∧ Fit n m st ft i k)
  | 0, _ => ⟨fun h => ⟨0, Nat.zero_le _, rfl, h⟩, fun ⟨k, _, hr, hf⟩ => by
      obtain rfl : k = 0 := by simpa [reach] using hr
      exact hf⟩
  | i + 1, hi => (reach_all i (by omega)).trans (reach_step i (by omega))
theorem rowB_reach (n m : Nat) (st : Nat → Bool) (ft : Nat → Nat → Bool) : rowB n m st ft = reach st ft n m := by
  rw [Bool.eq_iff_iff, rowB_iff, reach_all n (Nat.le_refl _)]
  constructor
  · rintro ⟨k, _, hr, hf⟩
    rcases hf.parts with h | h | h
    · rw [← h.2]; exact hr
    · omega
    · omega
  · intro h
    exact ⟨m, Nat.le_refl _, h, .done⟩

/-- What thing i adds, from the first k places that were reached. -/
def adds (st : Nat → Bool) (ft : Nat → Nat → Bool) (i k j : Nat) : Bool := (List.range k).any fun x => reach st ft i x && (if st i then decide (x ≤ j) else decide (j = x + 1) && ft i x)
theorem adds_zero (i j : Nat) : adds st ft i 0 j = false := rfl
theorem adds_succ (i k j : Nat) : adds st ft i (k + 1) j = (adds st ft i k j || (reach st ft i k && (if st i then decide (k ≤ j) else decide (j = k + 1) && ft i k))) := by
  unfold adds
  rw [List.range_succ, List.any_append]
  simp
theorem adds_no {i k j : Nat} (h : reach st ft i k = false) : adds st ft i (k + 1) j = adds st ft i k j := by rw [adds_succ, h]; simp
theorem adds_star {i k j : Nat} (h : reach st ft i k = true) (hs : st i = true) : adds st ft i (k + 1) j = (adds st ft i k j || decide (k ≤ j)) := by rw [adds_succ, h, if_pos hs]; simp
theorem adds_one {i k j : Nat} (h : reach st ft i k = true) (hs : st i = false) : adds st ft i (k + 1) j = (adds st ft i k j || (decide (j = k + 1) && ft i k)) := by rw [adds_succ, h, if_neg (by simp [hs])]; simp
theorem adds_all {i j : Nat} (hj : j ≤ m) : adds st ft i (m + 1) j = reach st ft (i + 1) j := by
  rw [reach_succ]
  unfold adds
  by_cases hs : st i = true
  · rw [if_pos hs, Bool.eq_iff_iff, List.any_eq_true, List.any_eq_true]
    constructor
    · rintro ⟨x, h1, h2⟩
      rw [if_pos hs] at h2
      simp only [Bool.and_eq_true, decide_eq_true_eq] at h2
      exact ⟨x, by simp; omega, h2.1⟩
    · rintro ⟨x, h1, h2⟩
      have : x ≤ j := by simp at h1; omega
      refine ⟨x, by simp; omega, ?_⟩
      rw [if_pos hs, h2]
      simp [this]
  · rw [if_neg hs, Bool.eq_iff_iff, List.any_eq_true]
    constructor
    · rintro ⟨x, h1, h2⟩
      rw [if_neg hs] at h2
      simp only [Bool.and_eq_true, decide_eq_true_eq] at h2
      obtain ⟨h3, rfl, h4⟩ := h2
      simp [h3, h4]
    · intro h
      cases j with
      | zero => simp at h
      | succ x =>
        simp only [Bool.and_eq_true, Nat.add_sub_cancel] at h
        replace h := h.2
        refine ⟨x, by simp; omega, ?_⟩
        rw [if_neg hs, h.1, h.2]
        simp

end Row
end Go.Proofs.YteokigpeaggemaaDoor
namespace Go.Proofs.YteokigpeaggemaaDoor
open Go.RowKit

/-- A row of n flags of the call's own, in block g, from block B on. -/
def Flags (W : World) (B g n : Nat) (f : Nat → Bool) : Prop := W.ownsRow B 4 1 (.slice (some ⟨g, 0, none⟩) n n) n ((List.range n).map fun j => Value.bool (f j))
theorem Flags.low {W : World} {B g n : Nat} {f : Nat → Bool} (h : Flags W B g n f) : B ≤ g ∧ g < W.heap.size := World.ownsRow.lt h g rfl
theorem Flags.cell {W : World} {B g n : Nat} {f : Nat → Bool} (h : Flags W B g n f) (j : Nat) (hj : j < n) : W.cell? ⟨g, j, none⟩ = some (.bool (f j)) := by
  rw [World.ownsRow.cellAt h j (by omega)]
  simp [hj]
theorem Flags.open_ {W : World} {B g n : Nat} {f : Nat → Bool} (h : Flags W B g n f) (j : Nat) : W.frozen? ⟨g, j, none⟩ = false := World.ownsRow.frozenAt h j
theorem Flags.below {W W' : World} {B g n : Nat} {f : Nat → Bool} (h : Flags W B g n f) (hb : Below W.heap.size W W') : Flags W' B g n f := owns_below h hb
theorem Flags.ext {W : World} {B g n : Nat} {f f' : Nat → Bool} (h : Flags W B g n f) (he : ∀ j, j < n → f j = f' j) : Flags W B g n f' := by
  have e : (List.range n).map (fun j => Value.bool (f j)) = (List.range n).map fun j => Value.bool (f' j) := by
    apply List.map_congr_left
    intro j hj
    rw [he j (by simpa using hj)]
  unfold Flags at *
  rwa [← e]
theorem Flags.set {W : World} {B g n : Nat} {f : Nat → Bool} (h : Flags W B g n f) (j : Nat) : Flags (W.setCell ⟨g, j, none⟩ (.bool true)) B g n (fun x => f x || decide (x = j)) := by
  have h1 := (World.ownsRow.stored h j (.bool true)).1
  have e : ((List.range n).map fun x => Value.bool (f x)).set j (.bool true) = (List.range n).map fun x => Value.bool (f x || decide (x = j)) := by
    apply List.ext_getElem (by simp)
    intro x hx hx'
    rw [List.getElem_set]
    by_cases e : j = x
    · subst e; simp
    · rw [if_neg e]
      simp [show ¬ x = j from fun e' => e e'.symm]
  unfold Flags
  rwa [← e]
theorem Flags.other {W : World} {B g g' n : Nat} {f : Nat → Bool} (h : Flags W B g n f) (hne : g ≠ g') (j : Nat) (u : Value) : Flags (W.setCell ⟨g', j, none⟩ u) B g n f := by
  refine ⟨h.1, h.2.imp id ?_⟩
  rintro ⟨k, cap, cur, h1, h2, h3, h4⟩
  refine ⟨k, cap, cur, h1, h2, ?_, h4⟩
  rw [Below.heap_setCell _ _ _ _ (by
    simp only [Value.slice.injEq, Option.some.injEq, Addr.mk.injEq] at h1
    show k ≠ g'
    omega)]
  exact h3
theorem info_bool : (Tryd.prog.info? 4).map (fun i => (i.zero, i.size, i.bytes)) = some (some (.bool false), 1, 1) := by kernel_rfl
theorem Flags.new {W : World} {B g n : Nat} (h : W.ownsRow B 4 1 (.slice (some ⟨g, 0, none⟩) n n) n (madeCells (Value.bool false).cells (n * 1)).toList) : Flags W B g n (fun _ => false) := by
  have e : (madeCells (Value.bool false).cells (n * 1)).toList = (List.range n).map fun _ => Value.bool false := by
    show (madeCells #[Value.bool false] (n * 1)).toList = _
    rw [toList_madeCells_one, Nat.mul_one]
    apply List.ext_getElem (by simp)
    intro x hx hx'
    simp
  unfold Flags
  rwa [← e]

end Go.Proofs.YteokigpeaggemaaDoor
