/- Parts of the proof, together. What ast.Deep answers. Conditions: the nodes lie below the world's end; at most 2^20. -/
import Derived.StillTailTactics
import Derived.Test.YtpjjofdphlgeiaaGreatDoorVvas
namespace Go.Proofs.YtpjjofdphlgeiaaGreatDoor
open Go.RowKit
open Lx Ax

namespace Ax
theorem treeF_length : ∀ {l : List Nd} {k k' : List Bool}, treeF l k = some k' → k'.length = k.length + l.length
  | [], k, k', h => by simp [treeF] at h; rw [h]; rfl
  | x :: r, k, k', h => by
    rw [treeF] at h
    cases h2 : takeF x.kids k with
    | none => rw [h2] at h; cases h
    | some k1 =>
      rw [h2] at h
      have := treeF_length h
      have h3 := takeF_length h2
      simp at this ⊢
      omega
theorem kids_range {l : List Nd} {K : List Bool} (h : treeF l [] = some K) (k : Nat) (hk : k < l.length) : ∀ z ∈ l[k].kids, 0 ≤ z ∧ z < k := by
  have h1 : l = l.take k ++ l.drop k := (List.take_append_drop k l).symm
  rw [h1, treeF_append] at h
  cases h2 : treeF (l.take k) [] with
  | none => rw [h2] at h; cases h
  | some k1 =>
    rw [h2, Option.bind_some, List.drop_eq_getElem_cons hk, treeF] at h
    have hl := treeF_length h2
    rw [List.length_take] at hl
    cases h3 : takeF l[k].kids k1 with
    | none => rw [h3] at h; cases h
    | some k2 =>
      intro z hz
      have := takeF_range h3 z hz
      simp at hl
      omega
def deepM (d : List Int) (m : Int) (zs : List Int) : Int := zs.foldl (fun m z => max m (d.getD z.toNat 0)) m
theorem deepsF_cons (x : Nd) (r : List Nd) (d : List Int) : deepsF (x :: r) d = deepsF r (d ++ [deepM d 0 x.kids + 1]) := rfl
theorem isTreeF_some {l : List Nd} (h : isTreeF l = true) : ∃ K, treeF l [] = some K ∧ wholeF K = true := by
  unfold isTreeF at h
  cases h2 : treeF l [] with
  | none => rw [h2] at h; cases h
  | some K => rw [h2] at h; exact ⟨K, rfl, h⟩
theorem isTreeF_pos {l : List Nd} (h : isTreeF l = true) : 0 < l.length := by
  obtain ⟨K, h1, h2⟩ := isTreeF_some h
  have := treeF_length h1
  cases K with
  | nil => simp [wholeF] at h2
  | cons a b => simp at this; omega
theorem row_put (d r : List Int) (m y : Int) (k : Nat) (h : d.length = k) : (d ++ m :: r).set k y = d ++ y :: r := by
  subst h
  rw [List.set_append, if_neg (by omega), Nat.sub_self, List.set_cons_zero]
theorem row_here (d r : List Int) (m : Int) (k : Nat) (h : d.length = k) : (d ++ m :: r)[k]? = some m := by
  subst h
  rw [List.getElem?_append_right (by omega), Nat.sub_self]; rfl
theorem row_ahead (d r : List Int) (z : Nat) (h : z < d.length) : (d ++ r)[z]? = some (d.getD z 0) := by
  rw [List.getElem?_append_left h, List.getD_eq_getElem?_getD, List.getElem?_eq_getElem h]; rfl
end Ax
end Go.Proofs.YtpjjofdphlgeiaaGreatDoor
