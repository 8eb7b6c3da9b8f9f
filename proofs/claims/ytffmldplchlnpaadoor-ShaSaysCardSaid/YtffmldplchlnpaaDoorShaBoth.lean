/- Parse and the reference's Digest answer alike; what a list of bytes is as a text. Conditions: the errors of api lie in their variables. -/
import Derived.Test.YtffmldplchlnpaaDoorErrIs
import Derived.Test.YtffmldplchlnpaaDoorRefMany
import Derived.Test.YtffmldplchlnpaaDoorRefSum
import Derived.Test.YtffmldplchlnpaaDoorSame
namespace Go.Proofs.YtffmldplchlnpaaDoor
open Go.RowKit

theorem first_bad (P : Nat → Prop) (hd : ∀ i, P i ∨ ¬ P i) : ∀ n, (∀ i, i < n → P i) ∨ ∃ k, k < n ∧ ¬ P k ∧ ∀ i, i < k → P i := by
  intro n
  induction n with
  | zero => exact .inl fun i hi => absurd hi (by omega)
  | succ n ih =>
    rcases ih with h | ⟨k, hk, h1, h2⟩
    · rcases hd n with hn | hn
      · exact .inl fun i hi => by
          by_cases e : i = n
          · rw [e]; exact hn
          · exact h i (by omega)
      · exact .inr ⟨n, by omega, hn, h⟩
    · exact .inr ⟨k, by omega, h1, h2⟩
theorem nib_nat (x : UInt8) (h : nibI x ≠ -1) : ∃ m : Nat, m ≤ 15 ∧ nibI x = (m : Int) := by
  rcases nib_range x with h1 | ⟨h1, h2⟩
  · exact absurd h1 h
  · exact ⟨(nibI x).toNat, by omega, by omega⟩
theorem parse_both (A : Nat → Addr) (s : ByteArray) : ∃ (bs : List UInt8) (is : Bool) (v : Value), bs.length = 32 ∧ FaultOf A v (if is = true then 0 else 113) ∧
    (∀ W, Sent A W → Calls Tryd.prog 7 #[.string s] W fun e w' => e = .returned (.tuple #[.agg (bcells bs), v]) ∧ Below W.heap.size W w') ∧
    (∀ W, Calls Tryd.prog 8 #[.string s] W fun e w' => e = .returned (.tuple #[.agg (bcells bs), .bool is]) ∧ Below W.heap.size W w') := by
  by_cases hs : s.size = 64
  · rcases first_bad (fun i => nibI (s.data.toList.getD i 0) ≠ -1) (fun i => Decidable.em _) 64 with hall | ⟨k, hk, hbad, hgood⟩
    · have hn := fun i hi => nib_nat _ (hall i hi)
      have hl : (bcells (accP s.data.toList 64)).size = 32 := by rw [bcells_size, accP_len]
      exact ⟨accP s.data.toList 64, true, .nilIface, accP_len _ _, .inl ⟨rfl, rfl⟩, fun W _ => parse_ok s hs hn W, fun W => rdigest_core s _ true hl (bcells_one _ _ rfl) W fun W => unhex_ok s hs hn W⟩
    · have hn := fun i hi => nib_nat _ (hgood i hi)
      have hb : nibI (s.data.toList.getD k 0) = -1 := Decidable.not_not.1 hbad
      exact ⟨List.replicate 32 0, false, E A 12, by simp, .inr ⟨12, by omega, rfl, rfl⟩, fun W hW => parse_at s hs k hk hn hb _ W hW.g12, fun W => rdigest_core s _ false zero32_size zero32_one W fun W => unhex_at s hs k hk hn hb W⟩
  · exact ⟨List.replicate 32 0, false, E A 12, by simp, .inr ⟨12, by omega, rfl, rfl⟩, fun W hW => parse_len s hs _ W hW.g12, fun W => rdigest_core s _ false zero32_size zero32_one W fun W => unhex_len s hs W⟩

theorem conv_src {w : World} {ao : Option Addr} {b : List UInt8} (cap : Nat) (h : Src w ao b) : (convert 22 9 (.slice ao b.length cap)).run Tryd.prog w = .ok (.string ⟨b.toArray⟩) w := by
  by_cases hp : 0 < b.length
  · obtain ⟨bk, off, rfl, _, hA⟩ := h hp
    have := run_convert_bytes_arg (P := Tryd.prog) w 22 5 Tryd.underlying22 Tryd.underlying5 bk off b.length cap (b.map fun x => (x.toNat : Int)) (by simp) (fun i hi => by
      rw [hA i b[i] (List.getElem?_eq_getElem hi)]
      simp [List.getD_eq_getElem?_getD, List.getElem?_eq_getElem hi, bval]) 9 Tryd.underlying9
    rw [this]
    congr 2
    apply ByteArray.ext
    apply Array.toList_inj.1
    rw [strOfNums_data, List.map_map]
    refine (List.map_congr_left fun x _ => ?_).trans (List.map_id _)
    simp
  · have hb : b = [] := List.length_eq_zero_iff.1 (by omega)
    subst hb
    cases ao with
    | none => exact run_convert_bytes_nil w 22 5 Tryd.underlying22 Tryd.underlying5 0 cap 9 Tryd.underlying9
    | some a =>
      rw [List.length_nil, run_convert_bytes_string w 22 9 5 _ 0 cap Tryd.underlying22 Tryd.underlying5 Tryd.underlying9, run_bytesToString w _ 0 cap [] (by simp [loadCells, loadCellsFrom])]
      rfl
end Go.Proofs.YtffmldplchlnpaaDoor
