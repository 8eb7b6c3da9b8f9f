/- What smithysee.Same says of what lex.Scan answers. Conditions: the errors of api lie in their variables, each a pointer of its own. -/
import Derived.Test.YtjobpcbnolgmnaaDoorErrPl
import Derived.Test.YtjobpcbnolgmnaaDoorLexQuotesLaw
namespace Go.Proofs.YtjobpcbnolgmnaaDoor
open Go.RowKit
open Lx

/-- The words and the errors of api lie in their variables. -/
structure Full (A : Nat → Addr) (W : World) : Prop where
  vars : Vars A W
  sent : Sent A W
theorem Full.below {A : Nat → Addr} {W W' : World} (h : Full A W) (hb : Below W.heap.size W W') : Full A W' := ⟨h.vars.below hb, h.sent.below hb⟩
theorem same_fault {A : Nat → Addr} {W : World} {B : Nat} {v : Value} {pos : Nat} (hv : FaultV A W B v pos) (h : Sent A W) : Calls Tryd.prog 14 #[v, pl 101 (pos : Int)] W (tells (.bool true) W) := by
  obtain ⟨g, rfl, _, hg⟩ := hv
  exact Same_pl A 0 g pos W (by omega) h hg
theorem same_none {A : Nat → Addr} {W : World} (h : Sent A W) : Calls Tryd.prog 14 #[.nilIface, bare 0] W (tells (.bool true) W) := by
  have := Same_bare 0 (.inl ⟨rfl, rfl⟩) W h
  rwa [show ((0 : Int) == 0) = true from rfl] at this
end Go.Proofs.YtjobpcbnolgmnaaDoor
