/- What a row's list of variables gives the walks of numbers: api.ErrShape lies in its variable. Conditions: the row's list holds it, read through. -/
import Derived.Test.YtbjpohlpahmkkaaDoorNumK
namespace Go.Proofs.YtbjpohlpahmkkaaDoor
open Go.ChangeShapes Go.WideShapes Go.ChangeAt Go.RowKit
namespace Nm

theorem star_name : "*" ++ "errors.errorString" = "*errors.errorString" := by decide
theorem err_type (u : TypeId) (h : Tryd.prog.typeName? 3 u = some "*errors.errorString") : u = 129 :=
  typeName_ptr_named (nm := "errors.errorString") (by rw [star_name]; kernel_rfl) (by kernel_rfl) (by decide) u (by rw [star_name]; exact h)
theorem cells_err : Tryd.prog.cellsOf 144 = 1 := by kernel_rfl
theorem cells_str' : Tryd.prog.cellsOf 9 = 1 := by kernel_rfl
/-- One error lies where g says: a pointer to its text. -/
def ErrAt (W : World) (g : Nat) (text : List UInt8) (a : Addr) : Prop :=
  W.cell? ⟨g, 0, none⟩ = some (.iface 129 (.pointer (some a))) ∧ (∃ s : ByteArray, W.cell? a = some (.string s) ∧ s.data.toList = text) ∧ ∃ c t, W.heap[a.block]? = some (.cells c t (0, 0))
theorem laid_drop {P : Program} {W : World} : ∀ (k : Nat) {l : List (String × DataW Unit)}, laidMet P l W → laidMet P (l.drop k) W
  | 0, _, h => h
  | _ + 1, [], h => h
  | k + 1, _ :: _, h => laid_drop k (laidMet.tail h)
set_option maxRecDepth 100000 in
theorem err_head {W : World} {g : Nat} {n : String} {text : List UInt8} {r : List (String × DataW Unit)} (h : laidMet Tryd.prog ((n, .iface "*errors.errorString" (.ptr (.agg [.lit (.string text)]))) :: r) W)
    (hg : Tryd.prog.globalNamed n = some g) (ht : (Tryd.prog.globals[g]?).map (·.type) = some 32) : ∃ a, ErrAt W g text a := by
  obtain ⟨ps, ⟨g0, t0, cs0, f0, p0, q0, hg0, ht0, hv0, hd0, _, e0⟩, _, hrows⟩ := h
  obtain rfl := Option.some.inj (hg.symm.trans hg0)
  obtain rfl := Option.some.inj (ht.symm.trans ht0)
  subst e0
  obtain ⟨l0⟩ := cs0
  have ok0 : ∀ u v, l0 = [.iface u v] → Value.okWide Tryd.prog W .any 0 u v := fun u v e => by
    subst e
    exact (hrows g 0 (by simp [MemPlace.row])).2 u v (by simpa using World.var?_cell hg0 hv0 0)
  obtain ⟨a0, s0, rfl, hc0, hs0, _, rfl⟩ := errorString_of_trod Tryd.underlying32 err_type Tryd.underlying129 Tryd.underlying144 rfl rfl Tryd.underlying9 cells_err cells_str' hd0 ok0
  have hc := World.var?_cell hg0 hv0 0
  exact ⟨a0, by simpa using hc, ⟨s0, hc0, hs0⟩, (hrows a0.block a0.off (by simp [MemPlace.row])).1⟩
theorem err_idx {W : World} {g : Nat} {l : List (String × DataW Unit)} {n : String} {text : List UInt8} (h : laidMet Tryd.prog l W) (k : Nat) (hk : l[k]? = some (n, .iface "*errors.errorString" (.ptr (.agg [.lit (.string text)]))))
    (hg : Tryd.prog.globalNamed n = some g) (ht : (Tryd.prog.globals[g]?).map (·.type) = some 32) : ∃ a, ErrAt W g text a := by
  have hd := laid_drop k h
  obtain ⟨hlt, e⟩ := List.getElem?_eq_some_iff.1 hk
  rw [List.drop_eq_getElem_cons hlt, e] at hd
  exact err_head hd hg ht

/-- ErrShape's text. -/
def shapeText : List UInt8 := [110, 111, 116, 32, 116, 104, 101, 32, 115, 104, 97, 112, 101, 32, 116, 104, 97, 116, 32, 105, 116, 32, 104, 97, 115, 32, 116, 111, 32, 104, 97, 118, 101]
end Nm
end Go.Proofs.YtbjpohlpahmkkaaDoor
