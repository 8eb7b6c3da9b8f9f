/- What a row's list of variables and its arguments are in the walks' words: the package's tables, a list of texts, bytes, whole numbers. Conditions: the row's list holds the tables; the arguments read as their types ask. -/
import Derived.Test.YtffmldplchlnpaaDoorCards
import Derived.Test.YtffmldplchlnpaaDoorTie
import Derived.Test.YtffmldplchlnpaaDoorMany
import Derived.ProofKit
import Derived.OpenShut
import Derived.Lay
import Derived.Lib.LaidU8
import Derived.Deep.DeepHandedRow
import Derived.SevenTiedAt
import Derived.SliceStrings
import Derived.Carry
namespace Go.Proofs.YtffmldplchlnpaaDoor
open Go.ChangeShapes Go.WideShapes Go.ChangeAt Go.RowKit

theorem own : ownKnob Tryd.prog.godebug = none := by kernel_rfl
theorem cells_str : Tryd.prog.cellsOf 9 = 1 := by kernel_rfl
theorem cells_u32 : Tryd.prog.cellsOf 53 = 1 := by kernel_rfl

/-- One word of a table that is laid. -/
theorem word_of_laid {W : World} {n : String} {g : Nat} {t : TypeId} {ws : List W32} {k : Nat} (h : Lib.VarReads Tryd.prog W n (.agg (ws.map fun x => .lit (.int .u32 (wv x))))) (hg : Tryd.prog.globalNamed n = some g) (ht : (Tryd.prog.globals[g]?).map (·.type) = some t)
    (hu : Tryd.prog.underlying t = some (.array k 53)) (i : Nat) (hi : i < k) (hw : ws.length = k) : W.cell? ⟨g, i, none⟩ = some (.int .u32 (wv (ws.getD i 0))) := by
  obtain ⟨g', t', cs, fuel, p, h1, h2, h3, h4⟩ := h
  obtain rfl := Option.some.inj (hg.symm.trans h1)
  obtain rfl := Option.some.inj (ht.symm.trans h2)
  obtain ⟨f2, d, q, hd, hr⟩ := Lib.array_elem hu h4 i hi
  rw [cells_u32, Nat.mul_one] at hr
  obtain ⟨z, hz, hx, _⟩ := DataW.trod_int Tryd.underlying53 hr
  have hlt : i < ws.length := by omega
  rw [List.getElem?_map, List.getElem?_eq_getElem hlt] at hd
  cases hx
  have e : wv ws[i] = z := by simpa using hd
  have hc := World.var?_cell h1 h3 i
  have hci : cs.toList[i]? = some (.int .u32 z) := by
    have h0 := congrArg (fun l => l[0]?) hz
    simpa [List.getElem?_take, List.getElem?_drop] using h0
  have hci' : cs[i]? = some (.int .u32 z) := by simpa using hci
  rw [List.getD_eq_getElem?_getD, List.getElem?_eq_getElem hlt, Option.getD_some, e]
  exact hc.trans hci'
theorem tabs_of {W : World} {l : List (String × DataW Unit)} (h : laidMet Tryd.prog l W) (hm1 : ("smithy/sha.firstHash", Rows.laid_smithy_sha_firstHash) ∈ l) (hm2 : ("smithy/sha.roundKeys", Rows.laid_smithy_sha_roundKeys) ∈ l) : Tabs W := by
  have r1 := Lib.laidMet.reads h hm1
  have r2 := Lib.laidMet.reads h hm2
  rw [show (Rows.laid_smithy_sha_firstHash : DataW Unit) = .agg (h0.map fun x => .lit (.int .u32 (wv x))) from by kernel_rfl] at r1
  rw [show (Rows.laid_smithy_sha_roundKeys : DataW Unit) = .agg (kTab.map fun x => .lit (.int .u32 (wv x))) from by kernel_rfl] at r2
  exact ⟨fun i hi => word_of_laid r2 (by kernel_rfl) (by kernel_rfl) Tryd.underlying68 i hi (by kernel_rfl), fun i hi => word_of_laid r1 (by kernel_rfl) (by kernel_rfl) Tryd.underlying61 i hi (by kernel_rfl)⟩
theorem slice_texts {H : Type} {enc : TypeId × Value → H} {W : World} {ao : Option Addr} {len cap : Nat} {d : DataW H} {p : List MemPlace} (h2 : DataW.Trod enc Tryd.prog W 0 (fun _ => true) true 23 (.slice ao len cap) d p) (hlt : ∀ x ∈ p, x.block < W.heap.size) :
    ∃ xs : List ByteArray, len = xs.length ∧ TextsAt W ao xs := by
  obtain ⟨fuel, hf⟩ := h2
  rcases open_strings Tryd.underlying23 Tryd.underlying9 cells_str hf with ⟨hcs, _⟩ | ⟨a, len', cap', ss, hcs, _, hl, hm, hz, hx, hcell, _⟩
  · simp [Value.cells] at hcs
    exact ⟨[], hcs.2.1, .inl rfl⟩
  · simp [Value.cells] at hcs
    obtain ⟨rfl, rfl, rfl⟩ := hcs
    simp only [Prod.mk.injEq] at hx
    obtain ⟨_, rfl⟩ := hx
    simp only [if_true] at hz
    by_cases hl0 : len = 0
    · exact ⟨[], hl0, .inl rfl⟩
    · obtain ⟨b, off, spot⟩ := a
      have hspot : spot = none := by simpa [Addr.add] using World.cell?_spot (hcell 0 (by omega))
      subst hspot
      refine ⟨ss.take len, by rw [List.length_take]; omega, .inr ⟨b, off, rfl, hlt (.cell b off) (MemPlace.mem_row.2 ⟨0, by omega, by simp⟩), fun j z hj => ?_⟩⟩
      rw [List.getElem?_take] at hj
      split at hj
      · have hjs : j < ss.length := (List.getElem?_eq_some_iff.1 hj).1
        have := hcell j hjs
        rw [add_plain] at this
        rw [this, List.getD_eq_getElem?_getD, hj]; rfl
      · cases hj
end Go.Proofs.YtffmldplchlnpaaDoor
