/- The chapter's scanner as functions of lists of bytes, in the order in which the program goes. No conditions. -/
import Derived.Test.YtdiocmcfaneajaaGreatDoorProg
namespace Go.Proofs.YtdiocmcfaneajaaGreatDoor
namespace Lx

structure Tok where
  kind : Nat
  text : List UInt8
  pos : Nat
  deriving DecidableEq
def sp (b : UInt8) : Bool := b == 32
def dg (b : UInt8) : Bool := 48 ≤ b && b ≤ 57
def lt (b : UInt8) : Bool := 65 ≤ b && b ≤ 90 || (97 ≤ b && b ≤ 122 || b == 95)
def nb (b : UInt8) : Bool := lt b || dg b
def tb (b : UInt8) : Bool := 32 ≤ b && b != 127
/-- How many bytes, from the first on, are of the sort. -/
def lenF (p : UInt8 → Bool) : List UInt8 → Nat
  | [] => 0
  | b :: l => if p b then lenF p l + 1 else 0
theorem lenF_le (p : UInt8 → Bool) : ∀ l, lenF p l ≤ l.length
  | [] => Nat.le_refl _
  | b :: l => by
    have := lenF_le p l
    unfold lenF
    split
    · simp only [List.length_cons]; omega
    · exact Nat.zero_le _
def words : List (List UInt8) := [[70, 97, 108, 115, 101], [78, 111, 110, 101], [84, 114, 117, 101], [97, 110, 100], [98, 114, 101, 97, 107], [99, 111, 110, 116, 105, 110, 117, 101], [100, 101, 102], [101, 108, 105, 102], [101, 108, 115, 101], [102, 111, 114], [105, 102], [105, 110], [108, 111, 97, 100], [110, 111, 116], [111, 114], [112, 97, 115, 115], [114, 101, 116, 117, 114, 110]]
def isWord (l : List UInt8) : Bool := words.any (· == l)
def nameB (l : List UInt8) : Bool := match l with
  | [] => false
  | b :: _ => !dg b && (lenF nb l == l.length && !isWord l)
/-- The line ends here. -/
def ends : List UInt8 → Bool
  | [] => true
  | b :: _ => b == 10
def gapF (l : List UInt8) : Nat :=
  match l.drop (lenF sp l) with
  | [] => lenF sp l
  | b :: r => if b == 10 then lenF sp l else if b == 35 then lenF sp l + lenF tb (b :: r) else lenF sp l
/-- How many bytes stand ahead of the quote that ends a string. -/
def closedF (q : UInt8) : Bool → List UInt8 → Option Nat
  | _, [] => none
  | held, b :: l => if b == 10 then none else if held then (closedF q false l).map (· + 1) else if b == 92 then (closedF q true l).map (· + 1) else if b == q then some 0 else (closedF q false l).map (· + 1)
def hexV (b : UInt8) : Option UInt8 := if 48 ≤ b && b ≤ 57 then some (b - 48) else if 97 ≤ b && b ≤ 102 then some (b - 97 + 10) else if 65 ≤ b && b ≤ 70 then some (b - 65 + 10) else none
/-- The byte that a piece says, and how many bytes it has. -/
def pieceF : List UInt8 → Option (UInt8 × Nat)
  | [] => none
  | b :: l => if b != 92 then (if tb b then some (b, 1) else none) else match l with
    | [] => none
    | c :: r => if c == 110 then some (10, 2) else if c == 116 then some (9, 2) else if c == 92 || c == 34 || c == 39 then some (c, 2) else if c == 120 then (match r with
      | x :: y :: _ => match hexV x, hexV y with
        | some a, some b => some (a <<< 4 ||| b, 4)
        | _, _ => none
      | _ => none) else none
/-- What pieces say; or where the first stands that is none. -/
def unqF : Nat → List UInt8 → List UInt8 × Option Nat
  | 0, _ => ([], none)
  | n + 1, l => match l with
    | [] => ([], none)
    | b :: r => match pieceF (b :: r) with
      | none => ([], some 0)
      | some (c, k) => match unqF n ((b :: r).drop k) with
        | (said, none) => (c :: said, none)
        | (_, some j) => ([], some (k + j))
def oneSigns : List UInt8 := [60, 62, 61, 43, 45, 42, 37, 40, 41, 91, 93, 123, 125, 44, 58, 46]
def signF : List UInt8 → Nat
  | [] => 0
  | [b] => if oneSigns.any (· == b) then 1 else 0
  | b :: c :: _ => if (b == 61 && c == 61) || (b == 33 && c == 61) || (b == 60 && c == 61) || (b == 62 && c == 61) || (b == 43 && c == 61) || (b == 47 && c == 47) then 2 else if oneSigns.any (· == b) then 1 else 0
/-- The brackets that are open, behind a sign; none: it may not stand here. -/
def brkF (b : UInt8) (op : List UInt8) : Option (List UInt8) :=
  if b == 40 then (if op.length < 60 then some (41 :: op) else none)
  else if b == 91 then (if op.length < 60 then some (93 :: op) else none)
  else if b == 123 then (if op.length < 60 then some (125 :: op) else none)
  else if b == 41 || b == 93 || b == 125 then (match op with
    | [] => none
    | t :: r => if t == b then some r else none)
  else some op
/-- A token, or where it fails (from its beginning). -/
inductive TR where
  | bad (off : Nat)
  | ok (kind : Nat) (text : List UInt8) (n : Nat) (op : List UInt8)
def tokF (op : List UInt8) : List UInt8 → TR
  | [] => .bad 0
  | b :: l =>
    if lt b then .ok (if isWord ((b :: l).take (lenF nb (b :: l))) then 4 else 1) ((b :: l).take (lenF nb (b :: l))) (lenF nb (b :: l)) op
    else if dg b then
      (if 600 < lenF dg (b :: l) || ((1 < lenF dg (b :: l) && b == 48) || 0 < lenF lt ((b :: l).drop (lenF dg (b :: l)))) then .bad 0 else .ok 2 ((b :: l).take (lenF dg (b :: l))) (lenF dg (b :: l)) op)
    else if b == 34 || b == 39 then
      (match closedF b false l with
      | none => .bad 0
      | some n => match unqF n (l.take n) with
        | (said, none) => .ok 3 said (n + 2) op
        | (_, some j) => .bad (j + 1))
    else if signF (b :: l) = 0 then .bad 0
    else match brkF b op with
      | none => .bad 0
      | some op' => .ok 4 ((b :: l).take (signF (b :: l))) (signF (b :: l)) op'
/-- On the way: the tokens, the blocks' spaces, the brackets' ends (the innermost first). -/
structure St where
  toks : List Tok
  blocks : List Nat
  op : List UInt8
def indF (n pos : Nat) (toks : List Tok) (bl : List Nat) : Option (List Tok × List Nat) :=
  if bl.headD 0 < n then (if 60 < bl.length then none else some (toks ++ [⟨6, [], pos⟩], n :: bl))
  else if (bl.dropWhile (n < ·)).headD 0 = n then some (toks ++ List.replicate (bl.takeWhile (n < ·)).length ⟨7, [], pos⟩, bl.dropWhile (n < ·)) else none
/-- What comes out: a fault's place, or tokens. -/
inductive RR where
  | bad (pos : Nat)
  | ok (toks : List Tok)
  deriving DecidableEq
/-- The rest of a line, and all that follows; p: where l begins. mid: within a line. -/
def goF : Nat → Bool → Nat → St → List UInt8 → RR
  | 0, _, p, _, _ => .bad p
  | n + 1, mid, p, st, l =>
    if mid then
      (if ends l then
        (match l with
        | [] => if st.op = [] then .ok ((st.toks ++ [⟨5, [], p⟩]) ++ List.replicate (st.blocks.takeWhile (0 < ·)).length ⟨7, [], p⟩ ++ [⟨8, [], p⟩]) else .bad p
        | _ :: r => goF n false (p + 1) (if st.op = [] then { st with toks := st.toks ++ [⟨5, [], p⟩] } else st) r)
      else match tokF st.op l with
        | .bad j => .bad (p + j)
        | .ok k t m op => goF n true (p + m + gapF (l.drop m)) { st with toks := st.toks ++ [⟨k, t, p⟩], op := op } ((l.drop m).drop (gapF (l.drop m))))
    else
      (if ends (l.drop (gapF l)) then
        (match l.drop (gapF l) with
        | [] => if st.op = [] then .ok (st.toks ++ List.replicate (st.blocks.takeWhile (0 < ·)).length ⟨7, [], p + gapF l⟩ ++ [⟨8, [], p + gapF l⟩]) else .bad (p + gapF l)
        | _ :: r => goF n false (p + gapF l + 1) st r)
      else if st.op = [] then
        (match indF (gapF l) (p + gapF l) st.toks st.blocks with
        | none => .bad (p + gapF l)
        | some (toks, bl) => goF n true (p + gapF l) { st with toks := toks, blocks := bl } (l.drop (gapF l)))
      else goF n true (p + gapF l) st (l.drop (gapF l)))
/-- The tokens of a text, or where it has none. -/
def scanF (l : List UInt8) : RR := goF (2 * l.length + 2) false 0 ⟨[], [0], []⟩ l
set_option maxRecDepth 100000 in
theorem scan_first : scanF [105, 102, 32, 120, 58, 10, 32, 32, 121] = .ok [⟨4, [105, 102], 0⟩, ⟨1, [120], 3⟩, ⟨4, [58], 4⟩, ⟨5, [], 5⟩, ⟨6, [], 8⟩, ⟨1, [121], 8⟩, ⟨5, [], 9⟩, ⟨7, [], 9⟩, ⟨8, [], 9⟩] := by decide +kernel
end Lx
end Go.Proofs.YtdiocmcfaneajaaGreatDoor
