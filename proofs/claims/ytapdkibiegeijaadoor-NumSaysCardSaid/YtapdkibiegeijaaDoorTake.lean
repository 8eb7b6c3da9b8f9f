/- A drawn region by hand: a load of a row, a value, taken first. No conditions. -/
import Derived.Test.YtapdkibiegeijaaDoorProg
import Derived.WalkKit
import Derived.RowKitTokens
import Derived.Laws.Rows
import Derived.Deep.RegionHeld3
namespace Go.Proofs.YtapdkibiegeijaaDoor
open Go.RowKit

theorem range_of' {W : World} {g : Nat} {cg : Array Value} {t : TypeId} (hg : W.heap[g]? = some (.cells cg t (0, 0))) : W.rangeAt g 0 cg.toList := fun j v hv => by
  rw [cell_of_row W g (0 + j) cg t (0, 0) hg, Nat.zero_add]
  simpa using hv
/-- A load of a row, taken first, its slot said. -/
theorem take_load' {ops : Array Oper} {md : Region.Mode} {Q : Exit → Act → World → Prop} {S : World → Prop} {i : Nat} {oi : Oper} {fuel : Nat} {listed : Array Bool} {a : Act} {w : World} (hi : ops[i]? = some oi)
    (hs : Region.noSelect ops = true) (hf : Region.free md ops listed i = true) (hr : (Region.ready md ops listed).contains i = true) (d : Option Tmp) (hd : oi.dst = d) (hw : Region.wanted oi (yielded ops a.tmps) = true)
    (ty : TypeId) (x : Operand) (ho : oi.op = .load ty x) (g : Nat) (hx : a.eval x = .pointer (some ⟨g, 0, none⟩)) (cg : Array Value) (dd : TypeDesc) (hQ : ∀ c a w, Q (.panic c) (a.put d (.agg cg)) w → Q (.panic c) a w) (hS : ∀ w, S w → w.rangeAt g 0 cg.toList)
    (hu : Tryd.prog.underlying ty = some dd) (hdd : dd.isRow = true) (hn : (Tryd.prog.info? ty).map (·.size) = some cg.toList.length) (hSw : S w)
    (h : wpAnyH Tryd.prog md ops Q S fuel (listed.setIfInBounds i true) (a.put d (.agg cg)) w) : wpAnyH Tryd.prog md ops Q S (fuel + 1) listed a w := by
  subst hd
  have hy : YieldsIf Tryd.prog ops S oi (.agg cg) a := by
    have := yieldsIf_load_mid (P := Tryd.prog) hw ty x ho g 0 hx cg.toList dd hS hu hdd hn
    rwa [Array.toArray_toList] at this
  exact wpAnyH_take hi hs hf hr hQ hy hSw h
/-- What yields its value in every world that meets S, taken first, its slot said. -/
theorem take_val' {ops : Array Oper} {md : Region.Mode} {Q : Exit → Act → World → Prop} {S : World → Prop} {i : Nat} {oi : Oper} {v : Value} {fuel : Nat} {listed : Array Bool} {a : Act} {w : World} (hi : ops[i]? = some oi)
    (hs : Region.noSelect ops = true) (hf : Region.free md ops listed i = true) (hr : (Region.ready md ops listed).contains i = true) (d : Option Tmp) (hd : oi.dst = d) (hQ : ∀ c a w, Q (.panic c) (a.put d v) w → Q (.panic c) a w)
    (hy : YieldsIf Tryd.prog ops S oi v a) (hSw : S w) (h : wpAnyH Tryd.prog md ops Q S fuel (listed.setIfInBounds i true) (a.put d v) w) : wpAnyH Tryd.prog md ops Q S (fuel + 1) listed a w := by
  subst hd
  exact wpAnyH_take hi hs hf hr hQ hy hSw h
end Go.Proofs.YtapdkibiegeijaaDoor
