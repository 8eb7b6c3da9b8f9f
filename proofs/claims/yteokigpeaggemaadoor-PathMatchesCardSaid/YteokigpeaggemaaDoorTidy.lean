/- What slices.Clone, slices.Sort and slices.Compact leave of a slice of texts, nil and empty ones among them. Conditions: fewer than 2^31 texts. -/
import Derived.Test.YteokigpeaggemaaDoorShelfB
import Derived.Test.YteokigpeaggemaaDoorGlobAny
import Derived.Lib.OwnBridge
import Derived.Lib.AppendIntMem
namespace Go.Proofs
open Go.RowKit Go.Sort

/-- A slice of texts of the call's own, from block B on. -/
def Fresh (W : World) (B : Nat) (ao : Option Addr) (c : Nat) (ls : List (List UInt8)) : Prop :=
  ls = [] ∨ ∃ g, ao = some ⟨g, 0, none⟩ ∧ B ≤ g ∧ g < W.heap.size ∧ ls.length ≤ c ∧ Holds encStr W g 0 ls.toArray
theorem Fresh.below {W W' : World} {B : Nat} {ao : Option Addr} {c : Nat} {ls : List (List UInt8)} (h : Fresh W B ao c ls) (hb : Below W.heap.size W W') : Fresh W' B ao c ls := by
  rcases h with h | ⟨g, h1, h2, h3, h4, h5⟩
  · exact .inl h
  · exact .inr ⟨g, h1, h2, Nat.lt_of_lt_of_le h3 hb.size, h4, fun j hj => ⟨(hb.cell (p := ⟨g, 0 + j, none⟩) h3).trans (h5 j hj).1, (hb.frozen (p := ⟨g, 0 + j, none⟩) h3).trans (h5 j hj).2⟩⟩
theorem Fresh.cell {W : World} {B : Nat} {ao : Option Addr} {c : Nat} {ls : List (List UInt8)} (h : Fresh W B ao c ls) (hne : 0 < ls.length) : ∃ g, ao = some ⟨g, 0, none⟩ ∧ B ≤ g ∧ g < W.heap.size ∧ ls.length ≤ c ∧ ∀ j (hj : j < ls.length), W.cell? ⟨g, j, none⟩ = some (.string ⟨ls[j].toArray⟩) := by
  rcases h with h | ⟨g, h1, h2, h3, h4, h5⟩
  · subst h; simp at hne
  · refine ⟨g, h1, h2, h3, h4, fun j hj => ?_⟩
    have := (h5 j (by simpa using hj)).1
    rw [Nat.zero_add] at this
    rw [this]
    simp [encStr, getElem!_pos, hj]

theorem Clone_slice (ao : Option Addr) (c : Nat) (xs : List ByteArray) (w : World) (hn : xs.length < 2147483648) (hL : YteokigpeaggemaaDoor.SliceOf w ao c xs) :
    Calls Tryd.prog 50 #[.slice ao xs.length c] w fun e w' => ∃ ao' c', e = .returned (.slice ao' xs.length c') ∧ Fresh w' w.heap.size ao' c' (xs.map (·.data.toList)) ∧ Below w.heap.size w w' := by
  rcases hL with rfl | ⟨bk, o, rfl, h2, h3, h4⟩
  · cases ao with
    | none =>
      refine (Tryd.slices_Clone_string_nil 0 c w).mono ?_
      rintro e w' ⟨rfl, rfl⟩
      exact ⟨none, 0, rfl, .inl rfl, Below.refl _ _⟩
    | some a =>
      refine (Tryd.slices_Clone_string_zero a c w).mono ?_
      rintro e w' ⟨v, rfl, h1, h2, h3⟩
      obtain ⟨g, cap, rfl, _⟩ := Lib.holds_of_ownsRow (enc := encStr) (zs := []) h1 h2
      exact ⟨_, cap, rfl, .inl rfl, h3⟩
  · refine (Tryd.slices_Clone_string bk o xs.length c xs w (Nat.le_refl _) (by omega) (fun j hj => by rw [h4 j _ (List.getElem?_eq_getElem hj), List.getD_eq_getElem?_getD, List.getElem?_eq_getElem hj]; rfl)).mono ?_
    rintro e w' ⟨v, rfl, h1, h2', h3'⟩
    rw [List.take_length, ← Lib.map_encStr] at h1
    obtain ⟨g, cap, rfl, e2, e3, e4, e5, e6, e7⟩ := Lib.holds_of_ownsRow h1 h2'
    exact ⟨_, cap, rfl, .inr ⟨g, rfl, e2, e3, by rw [e6]; exact e4, e7⟩, h3'⟩

def sorted8 (ls : List (List UInt8)) : List (List UInt8) := ls.mergeSort fun x y => decide (x ≤ y)
theorem Sort_slice (B : Nat) (ao : Option Addr) (n c : Nat) (ls : List (List UInt8)) (w : World) (hl0 : ls.length = n) (hn : n < 2147483648) (hB : B ≤ w.heap.size) (hF : Fresh w B ao c ls) :
    Calls Tryd.prog 51 #[.slice ao n c] w fun e w' => e = .returned (.tuple #[]) ∧ Fresh w' B ao c (sorted8 ls) ∧ Below B w w' ∧ w.heap.size ≤ w'.heap.size := by
  subst hl0
  rcases hF with rfl | ⟨g, rfl, h2, h3, h4, h5⟩
  · refine (Tryd.slices_Sort_string_none ao c w).mono ?_
    rintro e w' ⟨rfl, rfl⟩
    exact ⟨rfl, .inl (by simp [sorted8]), Below.refl _ _, Nat.le_refl _⟩
  · refine (Tryd.slices_Sort_string g 0 c ls w h5 h3 (by omega)).mono ?_
    rintro e w' ⟨rfl, n, os, rfl⟩
    have hl : (sorted8 ls).length = ls.length := by simp [sorted8, List.length_mergeSort]
    have b1 : Below B w (putRow encStr (Sort.ahead w n) g 0 (sorted8 ls).toArray) := Lib.below_putRow (Below.refl _ _) h2
    have hz : (putRow encStr (Sort.ahead w n) g 0 (sorted8 ls).toArray).heap.size = w.heap.size := by rw [size_putRow]; rfl
    have b2 := Lib.below_grow B (putRow encStr (Sort.ahead w n) g 0 (sorted8 ls).toArray) (by rw [hz]; exact hB) 0 os
    unfold sorted8 at hz b1 b2 hl ⊢
    refine ⟨rfl, .inr ⟨g, rfl, h2, ?_, by rw [hl]; exact h4, ?_⟩, b1.trans b2, ?_⟩
    · rw [size_grow, hz]; omega
    · exact holds_grow _ _ _ _ _ _ (by rw [hz]; exact h3) (holds_putRow encStr (Sort.ahead w n) g 0 ls.toArray _ (holds_ahead _ _ _ _ _ _ h5) (by simp [hl]))
    · rw [size_grow, hz]; omega
theorem compact_le (ls : List (List UInt8)) : (Lib.compact ls).length ≤ ls.length := Lib.compact_length_le ls
theorem Compact_slice (B : Nat) (ao : Option Addr) (n c : Nat) (ls cs : List (List UInt8)) (w : World) (hcs : Lib.compact ls = cs) (hl0 : ls.length = n) (hn : n < 2147483648) (hF : Fresh w B ao c ls) :
    Calls Tryd.prog 52 #[.slice ao n c] w fun e w' => e = .returned (.slice ao cs.length c) ∧ Fresh w' B ao c cs ∧ Below B w w' ∧ w.heap.size ≤ w'.heap.size := by
  subst hcs
  subst hl0
  rcases hF with rfl | ⟨g, rfl, h2, h3, h4, h5⟩
  · refine (Tryd.slices_Compact_string_empty ao c w).mono ?_
    rintro e w' ⟨rfl, rfl⟩
    exact ⟨rfl, .inl rfl, Below.refl _ _, Nat.le_refl _⟩
  · refine (Tryd.slices_Compact_string g 0 c ls w h5 (by omega) h4).mono ?_
    rintro e w' ⟨rfl, q, rfl⟩
    have hl : (Lib.compact ls ++ List.replicate (ls.length - (Lib.compact ls).length) []).length = ls.length := by
      have := compact_le ls
      simp; omega
    have hz : (putRow encStr (Sort.ahead w q) g 0 (Lib.compact ls ++ List.replicate (ls.length - (Lib.compact ls).length) []).toArray).heap.size = w.heap.size := by rw [size_putRow]; rfl
    have hh := holds_putRow encStr (Sort.ahead w q) g 0 ls.toArray (Lib.compact ls ++ List.replicate (ls.length - (Lib.compact ls).length) []).toArray (holds_ahead _ _ _ _ _ _ h5) (by simpa using hl)
    refine ⟨rfl, .inr ⟨g, rfl, h2, by rw [hz]; exact h3, Nat.le_trans (compact_le ls) h4, fun j hj => ?_⟩, Lib.below_putRow (Below.refl _ _) h2, by rw [hz]; exact Nat.le_refl _⟩
    have hj' : j < (Lib.compact ls).length := by simpa using hj
    obtain ⟨a1, a2⟩ := hh j (by have := compact_le ls; simp; omega)
    refine ⟨a1.trans ?_, a2⟩
    have hj2 : j < (Lib.compact ls ++ List.replicate (ls.length - (Lib.compact ls).length) ([] : List UInt8)).length := by simp; omega
    congr 2
    rw [getElem!_pos _ _ (by simpa using hj2), getElem!_pos _ _ (by simpa using hj)]
    simp [List.getElem_append_left hj']

end Go.Proofs
