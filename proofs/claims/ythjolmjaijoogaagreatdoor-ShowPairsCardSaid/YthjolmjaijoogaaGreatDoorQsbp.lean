/- Parts of the proof, together. The law's first answer. Conditions: the words and the errors of api lie in their variables. -/
import Derived.BigQuiet
import Derived.Test.YthjolmjaijoogaaGreatDoorQsbo
import Derived.Test.YthjolmjaijoogaaGreatDoorQsad
import Derived.Test.YthjolmjaijoogaaGreatDoorQsaj
namespace Go.Proofs.YthjolmjaijoogaaGreatDoor
open Go.RowKit
open Lx Ax Px

/-- The words and the errors of api lie in their variables. -/
structure PCx (A : Nat → Addr) (W : World) : Prop where
  vars : Vars A W
  sent : Sent A W
theorem PCx.below {A : Nat → Addr} {W W' : World} (h : PCx A W) (hb : Below W.heap.size W W') : PCx A W' := ⟨h.vars.below hb, h.sent.below hb⟩
theorem PCx.ev {A : Nat → Addr} {W : World} (h : PCx A W) : EV A W.heap.size W := ⟨h.sent.g1, h.sent.g7, World.block_lt_of_cell? W _ h.sent.g1, World.block_lt_of_cell? W _ h.sent.g7⟩
def O6 : List Int := [6, 4, 4, 21, 36, 47]
def P6 : List Int := [0, 4, 8, 6, 2, 2]
theorem first_nodes : ∃ l, Px.treeF 60 .file [120, 32, 61, 32, 49, 32, 43, 32, 50] = some (.ok l) ∧ l.map (fun x => (x.op, x.pos)) = [(6, 0), (4, 4), (4, 8), (21, 6), (36, 2), (47, 2)] := by
  have h := rk_first
  split at h
  · rename_i l hl
    exact ⟨l, hl, by simpa using h⟩
  · cases h
/-- The nodes of a list that came out, by their cells. -/
theorem nodes_cells {W : World} {B : Nat} {vl : Value} {l : List Nd} {vs : List Value} (h : Tr W B vl l vs) (hp : 0 < l.length) : ∃ g cap, vl = .slice (some ⟨g, 0, none⟩) l.length cap ∧ g < W.heap.size ∧ ∀ (j : Nat) x, l[j]? = some x → W.cell? ⟨g, j * 5, none⟩ = some (.int .i64 x.op) ∧ W.cell? ⟨g, j * 5 + 2, none⟩ = some (.int .i64 x.pos) := by
  obtain ⟨g, cap, e, _, _, hg, _⟩ := own_some h.own hp
  subst e
  refine ⟨g, cap, rfl, hg, fun j x hx => ?_⟩
  obtain ⟨v, _, N, _⟩ := h.cells j x hx
  exact ⟨N.op, N.pos⟩
end Go.Proofs.YthjolmjaijoogaaGreatDoor
