/- Lists of texts in memory; what smithyref.SameTexts answers of the same texts. Conditions: fewer than 2^31 texts. -/
import Derived.Test.YtjobpcbnolgmnaaDoorErr
import Derived.Deep.QuietTactic
import Derived.BigQuiet
namespace Go.Proofs.YtjobpcbnolgmnaaDoor
open Go.RowKit

/-- These texts lie from address ao on. -/
def Txs (W : World) (ao : Option Addr) (xs : List ByteArray) : Prop := xs = [] ∨ ∃ b o, ao = some ⟨b, o, none⟩ ∧ b < W.heap.size ∧ ∀ (j : Nat) x, xs[j]? = some x → W.cell? ⟨b, o + j, none⟩ = some (.string x)
theorem Txs.below {W W' : World} {ao : Option Addr} {xs : List ByteArray} (h : Txs W ao xs) (hb : Below W.heap.size W W') : Txs W' ao xs := by
  rcases h with h | ⟨b, o, e, hl, hc⟩
  · exact .inl h
  · exact .inr ⟨b, o, e, Nat.lt_of_lt_of_le hl hb.size, fun j x hx => (hb.cell hl).trans (hc j x hx)⟩
theorem txs_of {W : World} {base n : Nat} {v : Value} {xs : List ByteArray} (h : W.ownsRow base 9 1 v n (xs.map Value.string)) : ∃ ao cap, v = .slice ao xs.length cap ∧ Txs W ao xs := by
  have hn : xs.length = n := by have := h.1; simpa using this
  subst hn
  rcases h.2 with ⟨rfl, h0⟩ | ⟨g, cap, cur, rfl, hB, hg, hc, _, hs, ht⟩
  · exact ⟨none, 0, by rw [h0], .inl (List.eq_nil_of_length_eq_zero h0)⟩
  · refine ⟨_, cap, rfl, .inr ⟨g, 0, rfl, (Array.getElem?_eq_some_iff.1 hg).1, fun j x hx => ?_⟩⟩
    rw [cell_of_row W g (0 + j) _ _ _ hg, Nat.zero_add]
    have h1 : (xs.map Value.string)[j]? = some (.string x) := by rw [List.getElem?_map, hx]; rfl
    rw [← ht, List.getElem?_take] at h1
    split at h1
    · simpa using h1
    · cases h1
set_option maxRecDepth 100000 in
set_option maxHeartbeats 400000 in
theorem same_any (a1 a2 : Option Addr) (c1 c2 : Nat) (xs : List ByteArray) (w : World) (hn1 : xs.length < 2147483648) (h1 : Txs w a1 xs) (h2 : Txs w a2 xs) :
    Calls Tryd.prog 20 #[.slice a1 xs.length c1, .slice a2 xs.length c2] w fun e w' => e = .returned (.bool true) ∧ Below w.heap.size w w' := by
  have H1 := hid' h1
  have H2 := hid' h2
  clear h1 h2
  go_enter Tryd.func20, Tryd.ntmps20
  go_wp2
  go_loopw [5] (fun i wr => ∃ k : Nat, k ≤ xs.length ∧ i = .int .i64 k ∧ Hid (Below w.heap.size w wr)) (fun i _ => xs.length - (intOf i).toNat)
  case atStart => exact ⟨0, Nat.zero_le _, rfl, hid' (Below.refl _ _)⟩
  case round =>
    obtain ⟨k, hk, rfl, hb⟩ := hrel
    by_cases hlt : k < xs.length
    · rcases H1.out.below hb.out with h0 | ⟨b1, o1, rfl, g3, g4⟩
      · rw [h0] at hlt; exact absurd hlt (by simp)
      · rcases H2.out.below hb.out with h0 | ⟨b2, o2, rfl, e3, e4⟩
        · rw [h0] at hlt; exact absurd hlt (by simp)
        · have hc1 := g4 k _ (List.getElem?_eq_getElem hlt)
          have hc2 := e4 k _ (List.getElem?_eq_getElem hlt)
          clear g4 e4
          generalize xs[k] = x at hc1 hc2
          go_wp2_with fail
          go_quiet (fail)
          go_wp2
          go_roundw
          case rel => exact ⟨k + 1, by omega, by go_num, hid' ⟨hb.out.os, hb.out.tape, hb.out.output, hb.out.size, hb.out.block⟩⟩
          case measure => simp [intOf]; omega
    · obtain rfl : k = xs.length := by omega
      go_wp2
      go_ret
      exact ⟨rfl, hb.out⟩
end Go.Proofs.YtjobpcbnolgmnaaDoor
