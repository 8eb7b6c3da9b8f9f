/- What a row's list of variables gives the walks: api's errors lie in their variables, each a pointer of its own. Conditions: the row's list holds them, read through. -/
import Derived.Test.YtdiocmcfaneajaaGreatDoorCards
import Derived.Test.YtdiocmcfaneajaaGreatDoorTie
import Derived.Test.YtdiocmcfaneajaaGreatDoorErrTwo
import Derived.ProofKit
import Derived.OpenShut
import Derived.Lay
import Derived.Lib.LaidU8
import Derived.Deep.DeepHandedRow
import Derived.SevenTiedAt
import Derived.Stop.LaidErr
namespace Go.Proofs.YtdiocmcfaneajaaGreatDoor
open Go.ChangeShapes Go.WideShapes Go.ChangeAt Go.RowKit

theorem star_name : "*" ++ "errors.errorString" = "*errors.errorString" := by decide
theorem err_type (u : TypeId) (h : Tryz.prog.typeName? 3 u = some "*errors.errorString") : u = 153 :=
  typeName_ptr_named (nm := "errors.errorString") (by rw [star_name]; kernel_rfl) (by kernel_rfl) (by decide) u (by rw [star_name]; exact h)
theorem cells_err : Tryz.prog.cellsOf 155 = 1 := by kernel_rfl
theorem cells_str' : Tryz.prog.cellsOf 9 = 1 := by kernel_rfl
/-- One error lies where g says: a pointer to its text. -/
def ErrAt (W : World) (g : Nat) (text : List UInt8) (a : Addr) : Prop :=
  W.cell? ⟨g, 0, none⟩ = some (.iface 153 (.pointer (some a))) ∧ (∃ s : ByteArray, W.cell? a = some (.string s) ∧ s.data.toList = text) ∧ ∃ c t, W.heap[a.block]? = some (.cells c t (0, 0))
theorem laid_drop {P : Program} {W : World} : ∀ (k : Nat) {l : List (String × DataW Unit)}, laidMet P l W → laidMet P (l.drop k) W
  | 0, _, h => h
  | _ + 1, [], h => h
  | k + 1, _ :: _, h => laid_drop k (laidMet.tail h)
set_option maxRecDepth 100000 in
theorem err_head {W : World} {g : Nat} {n : String} {text : List UInt8} {r : List (String × DataW Unit)} (h : laidMet Tryz.prog ((n, .iface "*errors.errorString" (.ptr (.agg [.lit (.string text)]))) :: r) W)
    (hg : Tryz.prog.globalNamed n = some g) (ht : (Tryz.prog.globals[g]?).map (·.type) = some 26) : ∃ a, ErrAt W g text a := by
  obtain ⟨ps, ⟨g0, t0, cs0, f0, p0, q0, hg0, ht0, hv0, hd0, _, e0⟩, _, hrows⟩ := h
  obtain rfl := Option.some.inj (hg.symm.trans hg0)
  obtain rfl := Option.some.inj (ht.symm.trans ht0)
  subst e0
  obtain ⟨l0⟩ := cs0
  have ok0 : ∀ u v, l0 = [.iface u v] → Value.okWide Tryz.prog W .any 0 u v := fun u v e => by
    subst e
    exact (hrows g 0 (by simp [MemPlace.row])).2 u v (by simpa using World.var?_cell hg0 hv0 0)
  obtain ⟨a0, s0, rfl, hc0, hs0, _, rfl⟩ := errorString_of_trod Tryz.underlying26 err_type Tryz.underlying153 Tryz.underlying155 rfl rfl Tryz.underlying9 cells_err cells_str' hd0 ok0
  have hc := World.var?_cell hg0 hv0 0
  exact ⟨a0, by simpa using hc, ⟨s0, hc0, hs0⟩, (hrows a0.block a0.off (by simp [MemPlace.row])).1⟩
theorem err_idx {W : World} {g : Nat} {l : List (String × DataW Unit)} {n : String} {text : List UInt8} (h : laidMet Tryz.prog l W) (k : Nat) (hk : l[k]? = some (n, .iface "*errors.errorString" (.ptr (.agg [.lit (.string text)]))))
    (hg : Tryz.prog.globalNamed n = some g) (ht : (Tryz.prog.globals[g]?).map (·.type) = some 26) : ∃ a, ErrAt W g text a := by
  have hd := laid_drop k h
  obtain ⟨hlt, e⟩ := List.getElem?_eq_some_iff.1 hk
  rw [List.drop_eq_getElem_cons hlt, e] at hd
  exact err_head hd hg ht

def errTexts : List (List UInt8) := [[108, 101, 120],
  [112, 97, 114, 115, 101],
  [114, 101, 115, 111, 108, 118, 101],
  [100, 121, 110, 97, 109, 105, 99],
  [99, 121, 99, 108, 101],
  [118, 105, 115, 105, 98, 105, 108, 105, 116, 121],
  [97, 110, 97, 108, 121, 115, 105, 115],
  [108, 105, 109, 105, 116],
  [109, 105, 115, 115, 105, 110, 103],
  [116, 111, 111, 32, 109, 97, 110, 121],
  [110, 111, 32, 115, 117, 99, 104, 32, 107, 105, 110, 100],
  [110, 111, 32, 112, 97, 116, 104],
  [110, 111, 116, 32, 116, 104, 101, 32, 115, 104, 97, 112, 101, 32, 116, 104, 97, 116, 32, 105, 116, 32, 104, 97, 115, 32, 116, 111, 32, 104, 97, 118, 101],
  [105, 116, 32, 101, 110, 100, 115, 32, 116, 111, 111, 32, 101, 97, 114, 108, 121],
  [97, 32, 110, 117, 109, 98, 101, 114, 32, 111, 117, 116, 32, 111, 102, 32, 105, 116, 115, 32, 114, 97, 110, 103, 101],
  [116, 104, 101, 32, 112, 111, 119, 101, 114, 32, 104, 97, 115, 32, 103, 111, 110, 101],
  [105, 116, 32, 104, 97, 115, 32, 102, 97, 105, 108, 101, 100]]
def errText (i : Nat) : List UInt8 := errTexts[i]?.getD []
theorem texts_apart : ∀ i j : Fin 17, errText i = errText j → i = j := by decide +kernel
set_option maxRecDepth 100000 in
theorem sent_of {W : World} {A : Nat → Addr}
    (h0 : ErrAt W 4 (errText 0) (A 0))
    (h1 : ErrAt W 5 (errText 1) (A 1))
    (h2 : ErrAt W 6 (errText 2) (A 2))
    (h3 : ErrAt W 0 (errText 3) (A 3))
    (h4 : ErrAt W 7 (errText 4) (A 4))
    (h5 : ErrAt W 8 (errText 5) (A 5))
    (h6 : ErrAt W 9 (errText 6) (A 6))
    (h7 : ErrAt W 1 (errText 7) (A 7))
    (h8 : ErrAt W 10 (errText 8) (A 8))
    (h9 : ErrAt W 11 (errText 9) (A 9))
    (h10 : ErrAt W 12 (errText 10) (A 10))
    (h11 : ErrAt W 13 (errText 11) (A 11))
    (h12 : ErrAt W 14 (errText 12) (A 12))
    (h13 : ErrAt W 15 (errText 13) (A 13))
    (h14 : ErrAt W 16 (errText 14) (A 14))
    (h15 : ErrAt W 17 (errText 15) (A 15))
    (h16 : ErrAt W 18 (errText 16) (A 16)) : Sent A W := by
  have all : ∀ i, i < 17 → (∃ s : ByteArray, W.cell? (A i) = some (.string s) ∧ s.data.toList = errText i) ∧ ∃ c t, W.heap[(A i).block]? = some (.cells c t (0, 0)) := by
    intro i h
    have h' : i = 0 ∨ i = 1 ∨ i = 2 ∨ i = 3 ∨ i = 4 ∨ i = 5 ∨ i = 6 ∨ i = 7 ∨ i = 8 ∨ i = 9 ∨ i = 10 ∨ i = 11 ∨ i = 12 ∨ i = 13 ∨ i = 14 ∨ i = 15 ∨ i = 16 := by omega
    rcases h' with rfl | rfl | rfl | rfl | rfl | rfl | rfl | rfl | rfl | rfl | rfl | rfl | rfl | rfl | rfl | rfl | rfl
    · exact h0.2
    · exact h1.2
    · exact h2.2
    · exact h3.2
    · exact h4.2
    · exact h5.2
    · exact h6.2
    · exact h7.2
    · exact h8.2
    · exact h9.2
    · exact h10.2
    · exact h11.2
    · exact h12.2
    · exact h13.2
    · exact h14.2
    · exact h15.2
    · exact h16.2
  refine ⟨fun i j hi hj e => ?_, fun i hi => (all i hi).2, h0.1, h1.1, h2.1, h3.1, h4.1, h5.1, h6.1, h7.1, h8.1, h9.1, h10.1, h11.1, h12.1, h13.1, h14.1, h15.1, h16.1⟩
  obtain ⟨s, hs, ts⟩ := (all i hi).1
  obtain ⟨s', hs', ts'⟩ := (all j hj).1
  rw [e, hs'] at hs
  cases hs
  exact congrArg Fin.val (texts_apart ⟨i, hi⟩ ⟨j, hj⟩ (ts.symm.trans ts'))

end Go.Proofs.YtdiocmcfaneajaaGreatDoor
