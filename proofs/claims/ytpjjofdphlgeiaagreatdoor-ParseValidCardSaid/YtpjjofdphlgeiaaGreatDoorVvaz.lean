/- Parts of the proof, together. What ast.Names and ast.Kids answer. Conditions: the nodes lie below the world's end; at most 2^20. -/
import Derived.Test.YtpjjofdphlgeiaaGreatDoorVvax
import Derived.Test.YtpjjofdphlgeiaaGreatDoorVvay
import Derived.Test.YtpjjofdphlgeiaaGreatDoorVvas
namespace Go.Proofs.YtpjjofdphlgeiaaGreatDoor
open Go.RowKit
open Lx Ax

namespace Ax
def namesF (l : List Nd) : List ByteArray := (l.filter fun x => x.op == 6).map (·.s)
theorem namesF_snoc (l : List Nd) (x : Nd) : namesF (l ++ [x]) = namesF l ++ if x.op == 6 then [x.s] else [] := by
  unfold namesF
  rw [List.filter_append, List.map_append]
  congr 1
  by_cases h : x.op == 6
  · rw [if_pos h]; simp [h]
  · rw [if_neg h]; simp [h]
theorem namesF_le (l : List Nd) : (namesF l).length ≤ l.length := by
  unfold namesF
  rw [List.length_map]
  exact List.length_filter_le _ _
end Ax
theorem fresh_of {W : World} {B : Nat} {v : Value} {xs : List ByteArray} (h : Tx.Owned W B v xs) : ∃ ao cap, v = .slice ao xs.length cap ∧ Tx.Fresh W B ao cap (xs.map (·.data.toList)) := by
  rcases h.2 with ⟨rfl, h0⟩ | ⟨g, cap, cur, rfl, hB, hg, hc, _, hs, ht⟩
  · obtain rfl : xs = [] := List.eq_nil_of_length_eq_zero h0
    exact ⟨none, 0, rfl, .inl rfl⟩
  · refine ⟨_, cap, rfl, .inr ⟨g, rfl, hB, (Array.getElem?_eq_some_iff.1 hg).1, by simpa using hc, fun j hj => ⟨?_, frozen_of_row W g _ _ _ hg⟩⟩⟩
    have hj' : j < xs.length := by simpa using hj
    rw [Nat.zero_add, cell_of_row W g j _ _ _ hg]
    have h1 : (cur.toList.take (xs.length * 1))[j]? = some (Value.string xs[j]) := by rw [ht, List.getElem?_map, List.getElem?_eq_getElem hj']; rfl
    rw [List.getElem?_take, if_pos (by omega)] at h1
    rw [getElem!_pos _ j hj]
    simpa [encStr] using h1
theorem once_any (B : Nat) (ao : Option Addr) (cap : Nat) (xs : List ByteArray) (n : Nat) (w : World) (hn : n = xs.length) (hl : xs.length < 1000000) (hB : B ≤ w.heap.size) (hF : Tx.Fresh w B ao cap (xs.map (·.data.toList))) :
    Calls Tryz.prog 65 #[.slice ao n cap] w fun e w' => ∃ R : List ByteArray, e = .returned (.slice ao R.length cap) ∧ Tx.SliceOf w' ao cap R ∧ Tx.Rising R ∧ (∀ x, x ∈ R ↔ x ∈ xs) ∧ Below B w w' := by
  subst hn
  have HS := hid' (Tx.Sort_slice B ao xs.length cap _ w (by simp) (by omega) hB hF)
  go_enter Tryz.func65, Tryz.ntmps65
  go_wp2_with fail
  refine (HS.out).mono ?_
  rintro e w1 ⟨rfl, hF1, b1, _⟩
  obtain ⟨cs, hcs⟩ : ∃ cs, Lib.compact (Tx.sorted8 (xs.map (·.data.toList))) = cs := ⟨_, rfl⟩
  have HC := hid' (Tx.Compact_slice B ao xs.length cap _ cs w1 hcs (by simp [Tx.sorted8, List.length_mergeSort]) (by omega) hF1)
  have HCS := hid' hcs
  have HB1 := hid' b1
  clear hF1 b1 hcs hF
  go_wp2_with fail
  refine (HC.out).mono ?_
  rintro e w2 ⟨rfl, hF2, b2, _⟩
  have HF2 := hid' hF2
  have HB2 := hid' (HB1.out.trans b2)
  clear hF2 b2
  go_wp2
  go_ret
  have hsp : (Tx.sorted8 (xs.map (·.data.toList))).Pairwise (fun a b => a ≤ b) := by
    have h := List.pairwise_mergeSort (le := fun x y : List UInt8 => decide (x ≤ y)) (fun a b c h1 h2 => by
      simp only [decide_eq_true_eq] at *; exact List.le_trans h1 h2) (fun a b => by simp only [Bool.or_eq_true, decide_eq_true_eq]; exact List.le_total a b) (xs.map (·.data.toList))
    exact h.imp fun h => by simpa using h
  have hup := Tx.compact_up hsp
  rw [HCS.out] at hup
  refine ⟨cs.map txt, by rw [List.length_map]; rfl, ?_, ?_, fun x => ?_, HB2.out⟩
  · rcases HF2.out with h | ⟨g, h1, h2, h3, h4, h5⟩
    · left; rw [h]; rfl
    · refine .inr ⟨g, 0, h1, by simpa using h4, h3, fun j z hz => ?_⟩
      rw [List.getElem?_map] at hz
      obtain ⟨y, hy, rfl⟩ := Option.map_eq_some_iff.1 hz
      have hj := (List.getElem?_eq_some_iff.1 hy).1
      have h6 := (h5 j (by simpa using hj)).1
      rw [h6, getElem!_pos _ _ (by simpa using hj)]
      have h7 := (List.getElem?_eq_some_iff.1 hy).2
      simp [encStr, h7, txt]
  · unfold Tx.Rising
    rw [List.pairwise_map]
    exact hup.imp fun h => h
  · have hperm : ∀ q, q ∈ Tx.sorted8 (xs.map (·.data.toList)) ↔ q ∈ xs.map (·.data.toList) := fun q => (List.mergeSort_perm _ _).mem_iff
    rw [List.mem_map]
    constructor
    · rintro ⟨q, hq, rfl⟩
      rw [← HCS.out] at hq
      have := (hperm q).1 (Tx.mem_compact hq)
      obtain ⟨y, hy, e⟩ := List.mem_map.1 this
      rw [← e]; exact hy
    · intro hx
      refine ⟨x.data.toList, ?_, rfl⟩
      rw [← HCS.out]
      exact Tx.in_compact ((hperm _).2 (List.mem_map.2 ⟨x, hx, rfl⟩))
end Go.Proofs.YtpjjofdphlgeiaaGreatDoor
