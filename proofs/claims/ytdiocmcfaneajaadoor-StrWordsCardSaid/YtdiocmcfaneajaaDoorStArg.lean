/- Lists of texts and of whole numbers that come in, in the walks' words. Conditions: the arguments read as their types ask, their places lie in the memory. -/
import Derived.Test.YtdiocmcfaneajaaDoorStKit
import Derived.Test.YtdiocmcfaneajaaDoorStWl
import Derived.ChangeSlices
namespace Go.Proofs.YtdiocmcfaneajaaDoor
open Go.ChangeShapes Go.WideShapes Go.ChangeAt Go.RowKit

theorem cells_int : Tryd.prog.cellsOf 3 = 1 := by kernel_rfl
theorem ints_at {H : Type} {enc : TypeId × Value → H} {W : World} {t e : TypeId} {k : IntKind} {ao : Option Addr} {len cap : Nat} {d : DataW H} {p : List MemPlace} (ht : Tryd.prog.underlying t = some (.slice e)) (he : Tryd.prog.underlying e = some (.int k)) (hc : Tryd.prog.cellsOf e = 1)
    (h2 : DataW.Trod enc Tryd.prog W 0 (fun _ => true) true t (.slice ao len cap) d p) (hlt : ∀ x ∈ p, x.block < W.heap.size) :
    ∃ zs : List Int, len = zs.length ∧ zs.length ≤ cap ∧ (zs = [] ∨ ∃ bk o, ao = some ⟨bk, o, none⟩ ∧ bk < W.heap.size ∧ ∀ (j : Nat) z, zs[j]? = some z → W.cell? ⟨bk, o + j, none⟩ = some (.int k z) ∧ (Lit.int k z).wf = true) := by
  obtain ⟨fuel, hf⟩ := h2
  rcases open_ints ht he hc hf with ⟨hcs, _⟩ | ⟨a, len', cap', ss, hcs, _, hl, hm, hz, hx, hcell, hwf⟩
  · simp [Value.cells] at hcs
    exact ⟨[], hcs.2.1, by simp, .inl rfl⟩
  · simp [Value.cells] at hcs
    obtain ⟨rfl, rfl, rfl⟩ := hcs
    simp only [Prod.mk.injEq] at hx
    obtain ⟨_, rfl⟩ := hx
    simp only [if_true] at hz
    by_cases hl0 : len = 0
    · exact ⟨[], hl0, by simp, .inl rfl⟩
    · obtain ⟨b, off, spot⟩ := a
      have hspot : spot = none := by simpa [Addr.add] using World.cell?_spot (hcell 0 (by omega))
      subst hspot
      refine ⟨ss.take len, by rw [List.length_take]; omega, by rw [List.length_take]; omega, .inr ⟨b, off, rfl, hlt (.cell b off) (MemPlace.mem_row.2 ⟨0, by omega, by simp⟩), fun j z hj => ?_⟩⟩
      rw [List.getElem?_take] at hj
      split at hj
      · have hjs : j < ss.length := (List.getElem?_eq_some_iff.1 hj).1
        have := hcell j hjs
        rw [add_plain] at this
        refine ⟨?_, hwf z (List.mem_of_getElem? hj)⟩
        rw [this, List.getD_eq_getElem?_getD, hj]; rfl
      · cases hj
theorem slice_texts {H : Type} {enc : TypeId × Value → H} {W : World} {ao : Option Addr} {len cap : Nat} {d : DataW H} {p : List MemPlace} (h2 : DataW.Trod enc Tryd.prog W 0 (fun _ => true) true 23 (.slice ao len cap) d p) (hlt : ∀ x ∈ p, x.block < W.heap.size) :
    ∃ xs : List ByteArray, len = xs.length ∧ St.Txs W ao xs := by
  obtain ⟨fuel, hf⟩ := h2
  rcases open_strings Tryd.underlying23 Tryd.underlying9 St.cells_str' hf with ⟨hcs, _⟩ | ⟨a, len', cap', ss, hcs, _, hl, hm, hz, hx, hcell, _⟩
  · simp [Value.cells] at hcs
    exact ⟨[], hcs.2.1, .inl rfl⟩
  · simp [Value.cells] at hcs
    obtain ⟨rfl, rfl, rfl⟩ := hcs
    simp only [Prod.mk.injEq] at hx
    obtain ⟨_, rfl⟩ := hx
    simp only [if_true] at hz
    by_cases hl0 : len = 0
    · exact ⟨[], hl0, .inl rfl⟩
    · obtain ⟨b, off, spot⟩ := a
      have hspot : spot = none := by simpa [Addr.add] using World.cell?_spot (hcell 0 (by omega))
      subst hspot
      refine ⟨ss.take len, by rw [List.length_take]; omega, .inr ⟨b, off, rfl, hlt (.cell b off) (MemPlace.mem_row.2 ⟨0, by omega, by simp⟩), fun j z hj => ?_⟩⟩
      rw [List.getElem?_take] at hj
      split at hj
      · have hjs : j < ss.length := (List.getElem?_eq_some_iff.1 hj).1
        have := hcell j hjs
        rw [add_plain] at this
        rw [this, List.getD_eq_getElem?_getD, hj]; rfl
      · cases hj

theorem slice_ints {H : Type} {enc : TypeId × Value → H} {W : World} {ao : Option Addr} {len cap : Nat} {d : DataW H} {p : List MemPlace} (h2 : DataW.Trod enc Tryd.prog W 0 (fun _ => true) true 39 (.slice ao len cap) d p) (hlt : ∀ x ∈ p, x.block < W.heap.size) :
    ∃ zs : List Int, len = zs.length ∧ St.Ints W ao zs := by
  obtain ⟨zs, h1, _, h3⟩ := ints_at Tryd.underlying39 Tryd.underlying3 cells_int h2 hlt
  refine ⟨zs, h1, ?_⟩
  rcases h3 with h | ⟨bk, o, e, hb, hc⟩
  · exact .inl h
  · exact .inr ⟨bk, o, e, hb, fun j z hz => (hc j z hz).1⟩
end Go.Proofs.YtdiocmcfaneajaaDoor
