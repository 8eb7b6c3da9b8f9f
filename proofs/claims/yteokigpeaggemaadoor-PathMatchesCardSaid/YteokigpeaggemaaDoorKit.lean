/- What a row's list of variables gives the walks: the error of the package's own and the number of Go's library that they ask for. Conditions: the row's list holds the error; the world has the program's shape. -/
import Derived.Test.YteokigpeaggemaaDoorCards
import Derived.Test.YteokigpeaggemaaDoorTie
import Derived.Test.YteokigpeaggemaaDoorMatchAll
import Derived.ProofKit
import Derived.OpenShut
import Derived.Lay
import Derived.Lib.LaidU8
import Derived.Deep.DeepHandedRow
import Derived.SevenTiedAt
namespace Go.Proofs.YteokigpeaggemaaDoor
open Go.ChangeShapes Go.WideShapes Go.ChangeAt Go.RowKit

theorem own : ownKnob Tryd.prog.godebug = none := by kernel_rfl

theorem err_of_laid {W : World} {l : List (String × DataW Unit)} (h : laidMet Tryd.prog l W) {n nm : String} {d : DataW Unit} (hm : (n, .iface nm d) ∈ l) (hg : Tryd.prog.globalNamed n = some 0) (ht : (Tryd.prog.globals[0]?).map (·.type) = some 25) :
    ∃ u v, W.cell? ⟨0, 0, none⟩ = some (.iface u v) := by
  obtain ⟨g, t, cs, fuel, p, h1, h2, h3, h4⟩ := Lib.laidMet.reads h hm
  obtain rfl := Option.some.inj (hg.symm.trans h1)
  obtain rfl := Option.some.inj (ht.symm.trans h2)
  obtain ⟨f1, u, v, e, hn, _⟩ := iface_of_trod Tryd.underlying25 h4
  refine ⟨u, v, ?_⟩
  have := World.var?_cell h1 h3 0
  obtain ⟨l0⟩ := cs
  subst e
  simpa using this

theorem ready_of {W : World} {l : List (String × DataW Unit)} (h : laidMet Tryd.prog l W) {n nm : String} {d : DataW Unit} (hm : (n, .iface nm d) ∈ l) (hg : Tryd.prog.globalNamed n = some 0) (ht : (Tryd.prog.globals[0]?).map (·.type) = some 25) (hsh : W.ShapedOpen Tryd.prog) :
    ∃ u v, Ready (.iface u v) W := by
  obtain ⟨u, v, he⟩ := err_of_laid h hm hg ht
  obtain ⟨m, hlen⟩ : ∃ m : Int, W.cell? ⟨1, 0, none⟩ = some (.int .i64 m) := Tryd.laysM143.s1_3 W hsh
  exact ⟨u, v, ⟨World.block_lt_of_cell? W _ hlen, World.block_lt_of_cell? W _ he⟩, ⟨m, hlen⟩, he⟩

end Go.Proofs.YteokigpeaggemaaDoor
