/- Parts of the proof, together. What package ast makes of nodes of whatever Op, as functions, in the order in which the program goes. No conditions. -/
import Derived.Test.YtpjjofdphlgeiaaGreatDoorVvan
namespace Go.Proofs.YtpjjofdphlgeiaaGreatDoor
open Go.RowKit
namespace Ay
open Lx Ax

/-- One of the Ops. -/
def OpK (z : Int) : Prop := 1 ≤ z ∧ z ≤ 47
instance (z : Int) : Decidable (OpK z) := by unfold OpK; infer_instance
theorem OpK.each {z : Int} (h : OpK z) : (z = 1 ∨ z = 2 ∨ z = 3 ∨ z = 4 ∨ z = 5 ∨ z = 6 ∨ z = 7 ∨ z = 8 ∨ z = 9 ∨ z = 10 ∨ z = 11 ∨ z = 12 ∨ z = 13 ∨ z = 14 ∨ z = 15 ∨ z = 16) ∨ (z = 17 ∨ z = 18 ∨ z = 19 ∨ z = 20 ∨ z = 21 ∨ z = 22 ∨ z = 23 ∨ z = 24 ∨ z = 25 ∨ z = 26 ∨ z = 27 ∨ z = 28 ∨ z = 29 ∨ z = 30 ∨ z = 31 ∨ z = 32) ∨ (z = 33 ∨ z = 34 ∨ z = 35 ∨ z = 36 ∨ z = 37 ∨ z = 38 ∨ z = 39 ∨ z = 40 ∨ z = 41 ∨ z = 42 ∨ z = 43 ∨ z = 44 ∨ z = 45 ∨ z = 46 ∨ z = 47) := by
  obtain ⟨h1, h2⟩ := h
  by_cases h3 : z ≤ 16
  · exact .inl (by omega)
  by_cases h4 : z ≤ 32
  · exact .inr (.inl (by omega))
  · exact .inr (.inr (by omega))
def saysG (x : Nd) : Bool := if x.op = 5 ∨ x.op = 42 then true else if x.op = 4 then numB x.s.data.toList else if x.op = 6 ∨ x.op = 11 ∨ x.op = 12 ∨ x.op = 45 ∨ x.op = 46 then nameB x.s.data.toList else x.s.data.toList.isEmpty
/-- How many kids of a Call stand ahead of its last arguments with names. -/
def byF (so zs : List Int) : Nat → Nat
  | 0 => 0
  | n + 1 => if okS (so.getD (zs.getD n 0).toNat 0) 4 then byF so zs n else n + 1
def callsF (so zs : List Int) : Bool := decide (0 < byF so zs zs.length) && allF so 1 (zs.take (byF so zs zs.length))
def exprG (so : List Int) (op : Int) (zs : List Int) : Bool :=
  if op ≤ 6 ∨ op = 15 then areF so zs []
  else if op = 7 ∨ op = 8 then allF so 1 zs
  else if op = 9 then decide (zs.length % 2 = 0) && allF so 1 zs
  else if op = 10 then callsF so zs
  else if op = 11 ∨ op = 12 ∨ op = 16 ∨ op = 17 then areF so zs [1]
  else if op = 14 then areF so zs [1, 3, 3]
  else if op = 20 then areF so zs [1, 1, 1]
  else if op = 34 then areF so zs [1, 8, 1] || areF so zs [1, 8, 1, 1]
  else if op ≤ 33 then areF so zs [1, 1] else false
def stmtG (so : List Int) (op : Int) (zs : List Int) : Bool :=
  if op ≤ 34 then false
  else if op = 38 ∨ op = 39 ∨ op = 40 then areF so zs []
  else if op = 35 then areF so zs [1]
  else if op = 41 ∨ op = 46 then areF so zs [] || areF so zs [1]
  else if op = 36 then areF so zs [8, 1]
  else if op = 37 then areF so zs [16, 1]
  else if op = 42 then !zs.isEmpty && allF so 128 zs
  else if op = 43 then areF so zs [1, 256] || areF so zs [1, 256, 256]
  else if op = 44 then areF so zs [8, 1, 256]
  else if op = 45 then !zs.isEmpty && (allF so 64 (zs.take (zs.length - 1)) && areF so (zs.drop (zs.length - 1)) [256])
  else !zs.isEmpty && allF so 32 zs
def hasG (so : List Int) (x : Nd) : Bool := exprG so x.op x.kids || stmtG so x.op x.kids
/-- The sorts of a node that has its form. -/
def sortG (l : List Nd) (so : List Int) (x : Nd) : Int :=
  if x.op = 6 ∨ x.op = 13 then 25
  else if x.op = 8 then (if x.kids ≠ [] ∧ allF so 8 x.kids = true then 9 else 1)
  else if x.op = 15 then 2
  else if x.op = 11 then 4
  else if x.op = 46 then (match x.kids with
    | [k] => if (l[k.toNat]?.map (·.op)) = some 5 then 192 else 64
    | _ => 64)
  else if x.op = 47 then 256
  else if 35 ≤ x.op then 32 else 1
def formG (l : List Nd) (x : Nd) (st : VS) : Option VS := match takeF x.kids st.tk with
  | none => none
  | some tk => if x.n = 0 ∧ saysG x = true ∧ hasG st.so x = true then some ⟨tk ++ [false], st.so ++ [sortG l st.so x]⟩ else none
def formsG (l : List Nd) : List Nd → Nat → VS → Nat ⊕ VS
  | [], _, st => .inr st
  | x :: r, i, st => match formG l x st with
    | none => .inl i
    | some st' => formsG l r (i + 1) st'
/-- What a node stands in: the whole, a def, a for. -/
structure Wn where
  whole : Bool
  d : Bool
  l : Bool
def allowsG (w : Wn) (op : Int) : Bool := if op = 39 ∨ op = 40 then w.l else if op = 41 then w.d else if op = 42 ∨ op = 45 then w.whole else true
def insideG (w : Wn) (op : Int) : Wn := if op = 44 then { w with l := true } else if op = 45 then { w with d := true } else w
/-- Params: unlike names, and none without a value behind one with. -/
def fitF : List Nd → Bool → List (List UInt8) → Bool
  | [], _, _ => true
  | x :: r, given, names => if given = true ∧ x.kids = [] then false else if x.s.data.toList ∈ names then false else fitF r (!x.kids.isEmpty) (x.s.data.toList :: names)
def paramsG (l : List Nd) (kids : List Int) : List Nd := (kids.take (kids.length - 1)).map fun k => l.getD k.toNat ⟨0, 0, 0, ⟨#[]⟩, []⟩
def setsW (ins : List Wn) (w : Wn) : List Int → List Wn
  | [] => ins
  | k :: r => setsW (ins.set k.toNat w) w r
def modG (l : List Nd) : Nat → List Wn → Bool
  | 0, _ => true
  | i + 1, ins => match l[i]? with
    | none => false
    | some x => if allowsG (ins.getD i ⟨false, false, false⟩) x.op = false then false
      else if x.op = 45 ∧ fitF (paramsG l x.kids) false [] = false then false
      else modG l i (setsW ins { insideG (ins.getD i ⟨false, false, false⟩) x.op with whole := decide (i + 1 = l.length) } x.kids)
def isModG (l : List Nd) : Bool := decide ((l.getLast?.map (·.op)) = some 47) && modG l l.length (List.replicate l.length ⟨false, false, false⟩)
def validG (l : List Nd) : Option Nat := match formsG l l 0 ⟨[], []⟩ with
  | .inl i => some i
  | .inr st => if wholeF st.tk = true ∧ isModG l = true then none else some (l.length - 1)
end Ay
end Go.Proofs.YtpjjofdphlgeiaaGreatDoor
