/- Bytes that come in, in the walks' words. Conditions: the arguments read as their types ask. -/
import Derived.Test.YtffmldplchlnpaaDoorShaKit
import Derived.ChangeSlices
namespace Go.Proofs.YtffmldplchlnpaaDoor
open Go.ChangeShapes Go.WideShapes Go.ChangeAt Go.RowKit

theorem cells_u8 : Tryd.prog.cellsOf 5 = 1 := by kernel_rfl
theorem ints_at {H : Type} {enc : TypeId × Value → H} {W : World} {t e : TypeId} {k : IntKind} {ao : Option Addr} {len cap : Nat} {d : DataW H} {p : List MemPlace} (ht : Tryd.prog.underlying t = some (.slice e)) (he : Tryd.prog.underlying e = some (.int k)) (hc : Tryd.prog.cellsOf e = 1)
    (h2 : DataW.Trod enc Tryd.prog W 0 (fun _ => true) true t (.slice ao len cap) d p) (hlt : ∀ x ∈ p, x.block < W.heap.size) :
    ∃ zs : List Int, len = zs.length ∧ zs.length ≤ cap ∧ (zs = [] ∨ ∃ bk o, ao = some ⟨bk, o, none⟩ ∧ bk < W.heap.size ∧ ∀ (j : Nat) z, zs[j]? = some z → W.cell? ⟨bk, o + j, none⟩ = some (.int k z) ∧ (Lit.int k z).wf = true) := by
  obtain ⟨fuel, hf⟩ := h2
  rcases open_ints ht he hc hf with ⟨hcs, _⟩ | ⟨a, len', cap', ss, hcs, _, hl, hm, hz, hx, hcell, hwf⟩
  · simp [Value.cells] at hcs
    exact ⟨[], hcs.2.1, by simp, .inl rfl⟩
  · simp [Value.cells] at hcs
    obtain ⟨rfl, rfl, rfl⟩ := hcs
    simp only [Prod.mk.injEq] at hx
    obtain ⟨_, rfl⟩ := hx
    simp only [if_true] at hz
    by_cases hl0 : len = 0
    · exact ⟨[], hl0, by simp, .inl rfl⟩
    · obtain ⟨b, off, spot⟩ := a
      have hspot : spot = none := by simpa [Addr.add] using World.cell?_spot (hcell 0 (by omega))
      subst hspot
      refine ⟨ss.take len, by rw [List.length_take]; omega, by rw [List.length_take]; omega, .inr ⟨b, off, rfl, hlt (.cell b off) (MemPlace.mem_row.2 ⟨0, by omega, by simp⟩), fun j z hj => ?_⟩⟩
      rw [List.getElem?_take] at hj
      split at hj
      · have hjs : j < ss.length := (List.getElem?_eq_some_iff.1 hj).1
        have := hcell j hjs
        rw [add_plain] at this
        refine ⟨?_, hwf z (List.mem_of_getElem? hj)⟩
        rw [this, List.getD_eq_getElem?_getD, hj]; rfl
      · cases hj
theorem slice_bytes {H : Type} {enc : TypeId × Value → H} {W : World} {ao : Option Addr} {len cap : Nat} {d : DataW H} {p : List MemPlace} (h2 : DataW.Trod enc Tryd.prog W 0 (fun _ => true) true 22 (.slice ao len cap) d p) (hlt : ∀ x ∈ p, x.block < W.heap.size) :
    ∃ bs : List UInt8, len = bs.length ∧ (bs.length ≤ cap ∧ Src W ao bs) := by
  obtain ⟨zs, h1, h0, h3⟩ := ints_at Tryd.underlying22 Tryd.underlying5 cells_u8 h2 hlt
  refine ⟨zs.map fun z => UInt8.ofNat z.toNat, by simpa using h1, by simpa using h0, fun hp => ?_⟩
  rcases h3 with h | ⟨bk, o, e, hb, hc⟩
  · rw [h] at hp; cases hp
  · refine ⟨bk, o, e, hb, fun j x hx => ?_⟩
    rw [List.getElem?_map] at hx
    obtain ⟨z, hz, rfl⟩ := Option.map_eq_some_iff.1 hx
    have hw := bounds_u8 (hc j z hz).2
    rw [(hc j z hz).1, bval]
    congr 2
    show z = ((z.toNat % 256 : Nat) : Int)
    omega
end Go.Proofs.YtffmldplchlnpaaDoor
