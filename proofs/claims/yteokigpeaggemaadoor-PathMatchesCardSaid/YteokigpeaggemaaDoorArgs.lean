/- What a list of texts that comes in is, in the walks' words. Conditions: the argument reads as its type asks, its places lie in the memory. -/
import Derived.Test.YteokigpeaggemaaDoorSaysLaw
import Derived.Test.YteokigpeaggemaaDoorKit
import Derived.Test.YteokigpeaggemaaDoorSent
import Derived.SliceStrings
import Derived.Carry
namespace Go.Proofs.YteokigpeaggemaaDoor
open Go.ChangeShapes Go.WideShapes Go.ChangeAt Go.RowKit

theorem trodAll_mk5 {H : Type} {enc : TypeId × Value → H} {P : Program} {w : World} {base : Nat} {spare : Nat → Bool} {held : Bool} {t0 t1 t2 t3 t4 : TypeId} {v0 v1 v2 v3 v4 : Value} {d0 d1 d2 d3 d4 : DataW H} {p0 p1 p2 p3 p4 : List MemPlace}
    (h0 : DataW.Trod enc P w base spare held t0 v0 d0 p0) (h1 : DataW.Trod enc P w base spare held t1 v1 d1 p1) (h2 : DataW.Trod enc P w base spare held t2 v2 d2 p2) (h3 : DataW.Trod enc P w base spare held t3 v3 d3 p3) (h4 : DataW.Trod enc P w base spare held t4 v4 d4 p4) :
    DataW.TrodAll enc P w base spare held [t0, t1, t2, t3, t4] [v0, v1, v2, v3, v4] [d0, d1, d2, d3, d4] (p0 ++ (p1 ++ (p2 ++ (p3 ++ p4)))) := ⟨p0, p1 ++ (p2 ++ (p3 ++ p4)), h0, trodAll_mk4 h1 h2 h3 h4, rfl⟩
theorem slice_texts {H : Type} {enc : TypeId × Value → H} {W : World} {ao : Option Addr} {len cap : Nat} {d : DataW H} {p : List MemPlace} (h2 : DataW.Trod enc Tryd.prog W 0 (fun _ => true) true 22 (.slice ao len cap) d p) (hlt : ∀ x ∈ p, x.block < W.heap.size) :
    ∃ xs : List ByteArray, len = xs.length ∧ SliceOf W ao cap xs := by
  obtain ⟨fuel, hf⟩ := h2
  rcases open_strings Tryd.underlying22 Tryd.underlying9 cells_str hf with ⟨hcs, _⟩ | ⟨a, len', cap', ss, hcs, _, hl, hm, hz, hx, hcell, _⟩
  · simp [Value.cells] at hcs
    exact ⟨[], hcs.2.1, .inl rfl⟩
  · simp [Value.cells] at hcs
    obtain ⟨rfl, rfl, rfl⟩ := hcs
    simp only [Prod.mk.injEq] at hx
    obtain ⟨_, rfl⟩ := hx
    simp only [if_true] at hz
    by_cases hl0 : len = 0
    · exact ⟨[], hl0, .inl rfl⟩
    · obtain ⟨b, off, spot⟩ := a
      have hspot : spot = none := by simpa [Addr.add] using World.cell?_spot (hcell 0 (by omega))
      subst hspot
      refine ⟨ss.take len, by rw [List.length_take]; omega, .inr ⟨b, off, rfl, by rw [List.length_take]; omega, hlt (.cell b off) (MemPlace.mem_row.2 ⟨0, by omega, by simp⟩), fun j z hj => ?_⟩⟩
      rw [List.getElem?_take] at hj
      split at hj
      · have hjs : j < ss.length := (List.getElem?_eq_some_iff.1 hj).1
        have := hcell j hjs
        rw [add_plain] at this
        rw [this, List.getD_eq_getElem?_getD, hj]; rfl
      · cases hj

end Go.Proofs.YteokigpeaggemaaDoor
