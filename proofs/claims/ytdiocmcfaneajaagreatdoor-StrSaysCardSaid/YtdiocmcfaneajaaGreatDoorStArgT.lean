/- A list of texts that comes in, in the walks' words. Conditions: the argument reads as its type asks, its places lie in the memory. -/
import Derived.Test.YtdiocmcfaneajaaGreatDoorStKit
import Derived.ChangeSlices
namespace Go.Proofs.YtdiocmcfaneajaaGreatDoor
open Go.ChangeShapes Go.WideShapes Go.ChangeAt Go.RowKit

theorem slice_texts {H : Type} {enc : TypeId × Value → H} {W : World} {ao : Option Addr} {len cap : Nat} {d : DataW H} {p : List MemPlace} (h2 : DataW.Trod enc Tryz.prog W 0 (fun _ => true) true 22 (.slice ao len cap) d p) (hlt : ∀ x ∈ p, x.block < W.heap.size) :
    ∃ xs : List ByteArray, len = xs.length ∧ St.Txs W ao xs := by
  obtain ⟨fuel, hf⟩ := h2
  rcases open_strings Tryz.underlying22 Tryz.underlying9 St.cells_str' hf with ⟨hcs, _⟩ | ⟨a, len', cap', ss, hcs, _, hl, hm, hz, hx, hcell, _⟩
  · simp [Value.cells] at hcs
    exact ⟨[], hcs.2.1, .inl rfl⟩
  · simp [Value.cells] at hcs
    obtain ⟨rfl, rfl, rfl⟩ := hcs
    simp only [Prod.mk.injEq] at hx
    obtain ⟨_, rfl⟩ := hx
    simp only [if_true] at hz
    by_cases hl0 : len = 0
    · exact ⟨[], hl0, .inl rfl⟩
    · obtain ⟨b, off, spot⟩ := a
      have hspot : spot = none := by simpa [Addr.add] using World.cell?_spot (hcell 0 (by omega))
      subst hspot
      refine ⟨ss.take len, by rw [List.length_take]; omega, .inr ⟨b, off, rfl, hlt (.cell b off) (MemPlace.mem_row.2 ⟨0, by omega, by simp⟩), fun j z hj => ?_⟩⟩
      rw [List.getElem?_take] at hj
      split at hj
      · have hjs : j < ss.length := (List.getElem?_eq_some_iff.1 hj).1
        have := hcell j hjs
        rw [add_plain] at this
        rw [this, List.getD_eq_getElem?_getD, hj]; rfl
      · cases hj

end Go.Proofs.YtdiocmcfaneajaaGreatDoor
