/- Parts of the proof, together. Lists of nodes, and what package ast makes of them, as functions, in the order in which the program goes; forms for names, numbers, signs, expressions, assignments and blocks alone. No conditions. -/
import Derived.Test.YtpjjofdphlgeiaaGreatDoorVvaa
import Derived.Test.YtpjjofdphlgeiaaGreatDoorVvae
namespace Go.Proofs.YtpjjofdphlgeiaaGreatDoor
open Go.RowKit
namespace Ax
open Lx

structure Nd where
  op : Int
  n : Int
  pos : Int
  s : ByteArray
  kids : List Int
/-- Kids are taken: each lies ahead, and was nobody's. -/
def takeF : List Int → List Bool → Option (List Bool)
  | [], k => some k
  | z :: r, k => if 0 ≤ z ∧ k[z.toNat]? = some false then takeF r (k.set z.toNat true) else none
theorem takeF_length : ∀ {r : List Int} {k k' : List Bool}, takeF r k = some k' → k'.length = k.length
  | [], k, k', h => by simp [takeF] at h; rw [h]
  | z :: r, k, k', h => by
    unfold takeF at h
    split at h
    · rw [takeF_length h, List.length_set]
    · cases h
theorem takeF_range : ∀ {r : List Int} {k k' : List Bool}, takeF r k = some k' → ∀ z ∈ r, 0 ≤ z ∧ z < k.length
  | [], _, _, _, z, hz => by simp at hz
  | y :: r, k, k', h, z, hz => by
    unfold takeF at h
    split at h
    · rename_i hy
      rcases List.mem_cons.1 hz with rfl | hz
      · have := (List.getElem?_eq_some_iff.1 hy.2).1
        omega
      · have := takeF_range h z hz
        rwa [List.length_set] at this
    · cases h
/-- There is a last one, and all others are taken. -/
def wholeF (k : List Bool) : Bool := !k.isEmpty && k.dropLast.all id
def treeF : List Nd → List Bool → Option (List Bool)
  | [], k => some k
  | x :: r, k => match takeF x.kids k with
    | none => none
    | some k' => treeF r (k' ++ [false])
theorem treeF_append : ∀ (a b : List Nd) (k : List Bool), treeF (a ++ b) k = (treeF a k).bind (treeF b)
  | [], b, k => rfl
  | x :: a, b, k => by
    rw [List.cons_append, treeF, treeF]
    cases takeF x.kids k with
    | none => rfl
    | some k' => exact treeF_append a b (k' ++ [false])
def isTreeF (l : List Nd) : Bool := match treeF l [] with
  | none => false
  | some k => wholeF k
/-- One of the Ops that these walks speak of: Int, Name, Neg to NotIn, Expr, Assign, Block. -/
def OpOK (z : Int) : Prop := z = 6 ∨ z = 4 ∨ (16 ≤ z ∧ z ≤ 33) ∨ z = 35 ∨ z = 36 ∨ z = 47
instance (z : Int) : Decidable (OpOK z) := by unfold OpOK; infer_instance
theorem OpOK.each {z : Int} (h : OpOK z) : z = 6 ∨ z = 4 ∨ z = 47 ∨ z = 35 ∨ z = 36 ∨ z = 16 ∨ z = 17 ∨ z = 20 ∨ z = 18 ∨ z = 19 ∨ z = 21 ∨ z = 22 ∨ z = 23 ∨ z = 24 ∨ z = 25 ∨ z = 26 ∨ z = 27 ∨ z = 28 ∨ z = 29 ∨ z = 30 ∨ z = 31 ∨ z = 32 ∨ z = 33 := by unfold OpOK at h; omega
/-- The sorts that a node of such an Op is of. -/
def sortN (z : Int) : Int := if z = 6 then 25 else if z = 4 ∨ (16 ≤ z ∧ z ≤ 33) then 1 else if z = 35 ∨ z = 36 then 32 else 256
/-- A number's digits. -/
def numB (l : List UInt8) : Bool := l.all dg && (l == [48] || (!l.isEmpty && l.headD 0 != 48 && decide (l.length ≤ 600)))
def saysF (x : Nd) : Bool := if x.op = 6 then nameB x.s.data.toList else if x.op = 4 then numB x.s.data.toList else x.s.data.toList.isEmpty
/-- Is a node of these sorts of that sort? -/
def okS (a b : Int) : Bool := !(bits BinOp.and IntKind.u16 a b == 0)
def areF (so : List Int) : List Int → List Int → Bool
  | [], [] => true
  | z :: r, s :: t => okS (so.getD z.toNat 0) s && areF so r t
  | _, _ => false
def allF (so : List Int) (s : Int) : List Int → Bool
  | [] => true
  | z :: r => okS (so.getD z.toNat 0) s && allF so s r
/-- The sorts of the kids, where they are so many. -/
def kidS (z : Int) : List Int := if z = 6 ∨ z = 4 then [] else if z = 16 ∨ z = 17 ∨ z = 35 then [1] else if z = 20 then [1, 1, 1] else if z = 36 then [8, 1] else [1, 1]
def hasF (so : List Int) (x : Nd) : Bool := if x.op = 47 then !x.kids.isEmpty && allF so 32 x.kids else areF so x.kids (kidS x.op)
/-- What the former holds: which nodes are taken, which sorts they are of. -/
structure VS where
  tk : List Bool
  so : List Int
def formF (x : Nd) (st : VS) : Option VS := match takeF x.kids st.tk with
  | none => none
  | some tk => if x.n = 0 ∧ saysF x = true ∧ hasF st.so x = true then some ⟨tk ++ [false], st.so ++ [sortN x.op]⟩ else none
/-- The first node that has not its form, or what is held in the end. -/
def formsF : List Nd → Nat → VS → Nat ⊕ VS
  | [], _, st => .inr st
  | x :: r, i, st => match formF x st with
    | none => .inl i
    | some st' => formsF r (i + 1) st'
theorem formsF_append : ∀ (a b : List Nd) (i : Nat) (st : VS), formsF (a ++ b) i st = Sum.elim Sum.inl (formsF b (i + a.length)) (formsF a i st)
  | [], b, i, st => rfl
  | x :: a, b, i, st => by
    rw [List.cons_append, formsF, formsF]
    cases formF x st with
    | none => rfl
    | some st' =>
      have h := formsF_append a b (i + 1) st'
      rw [List.length_cons, show i + (a.length + 1) = i + 1 + a.length by omega]
      exact h
def validF (l : List Nd) : Option Nat := match formsF l 0 ⟨[], []⟩ with
  | .inl i => some i
  | .inr st => if wholeF st.tk = true ∧ (l.getLast?.map (·.op)) = some 47 then none else some (l.length - 1)
/-- How deep the nodes are, one after the other. -/
def deepsF : List Nd → List Int → List Int
  | [], d => d
  | x :: r, d => deepsF r (d ++ [x.kids.foldl (fun m z => max m (d.getD z.toNat 0)) 0 + 1])
def deepF (l : List Nd) : Int := if isTreeF l then (deepsF l []).getLast?.getD 0 else 0
end Ax
end Go.Proofs.YtpjjofdphlgeiaaGreatDoor
