/- Parts of the proof, together. The chapter's parser as a function of a list of tokens, in the order in which the program goes: expressions and assignments alone. No conditions. What the functions make of the law's texts of three words. No conditions. -/
import Derived.Test.YtpjjofdphlgeiaaGreatDoorVvan
import Derived.Test.YtpjjofdphlgeiaaGreatDoorVvaf
namespace Go.Proofs.YtpjjofdphlgeiaaGreatDoor
open Go.RowKit
namespace Px
open Lx Ax

/-- The parser's state. -/
structure PS where
  at_ : Nat
  nodes : List Nd
  deep : Nat
/-- What comes out: nothing that is told here; a fault at a place; a number, numbers, a flag. -/
inductive R where
  | stuck
  | bad (lim : Bool) (pos : Int)
  | ok (z : Int) (zs : List Int) (c : Bool) (s : PS)
def R.bind : R → (Int → List Int → Bool → PS → R) → R
  | .stuck, _ => .stuck
  | .bad l p, _ => .bad l p
  | .ok z zs c s, f => f z zs c s
/-- What a statement stands in: another one, a def, a for. -/
structure Pl where
  inner : Bool
  d : Bool
  l : Bool
/-- What is read: parts of the language, and the loops within them. -/
inductive Q where
  | test | bin (k : Nat) | binLoop (k : Nat) (z : Int) | not | ahead (k : Nat) | compare | unary | primary | primLoop (z : Int) | atom
  | row (k : Nat) | rowLoop (k : Nat) (zs : List Int) (c : Bool) | orNone | bare (k : Nat) | round (k : Nat)
  | def_ | params (zs : List Int) (names : List (List UInt8)) (given : Bool) | param (names : List (List UInt8)) (given : Bool)
  | call (z : Int) | args (zs : List Int) (names : List (List UInt8)) | argument (names : List (List UInt8))
  | dot (z : Int) | index (z : Int) | bound (k : Nat) | list | rounds | target | result | texts | textsLoop (pos : Int) (acc : List UInt8) | dict | pairs (zs : List Int) | pair (zs : List Int)
  | alone | file | fileLoop (zs : List Int) | statement (p : Pl) | line (p : Pl) | simple (p : Pl) | assignment
  | load | loadLoop (zs : List Int) | loaded
  | cond (pos : Int) (p : Pl) | elif (p : Pl) | loop (p : Pl) | block (p : Pl) | lines (p : Pl) | linesLoop (p : Pl) (zs : List Int)
section
variable (ts : List Tok)
def sIf : List UInt8 := [105, 102]
def sElse : List UInt8 := [101, 108, 115, 101]
def sNot : List UInt8 := [110, 111, 116]
def sIn : List UInt8 := [105, 110]
def sOr : List UInt8 := [111, 114]
def sAnd : List UInt8 := [97, 110, 100]
def sNone : List UInt8 := [78, 111, 110, 101]
def sTrue : List UInt8 := [84, 114, 117, 101]
def sFalse : List UInt8 := [70, 97, 108, 115, 101]
/-- The sign that a token is; empty, if it is none. -/
def sg (t : Tok) : List UInt8 := if t.kind = 4 then t.text else []
/-- The sign that is read next. -/
def signF (s : PS) (f : List UInt8 → R) : R := match ts[s.at_]? with
  | none => .stuck
  | some t => f (sg t)
def kindF (s : PS) (f : Nat → R) : R := match ts[s.at_]? with
  | none => .stuck
  | some t => f t.kind
def nextF (s : PS) (f : Tok → PS → R) : R := match ts[s.at_]? with
  | none => .stuck
  | some t => f t { s with at_ := s.at_ + 1 }
def allowF (b : Bool) (s : PS) (f : R) : R := match ts[s.at_]? with
  | none => .stuck
  | some t => if b then f else .bad false t.pos
def needF (l : List UInt8) (s : PS) (f : Int → PS → R) : R := match ts[s.at_]? with
  | none => .stuck
  | some t => if sg t = l then f t.pos { s with at_ := s.at_ + 1 } else .bad false t.pos
def takeKF (kind : Nat) (s : PS) (f : Tok → PS → R) : R := match ts[s.at_]? with
  | none => .stuck
  | some t => if t.kind = kind then f t { s with at_ := s.at_ + 1 } else .bad false t.pos
def enterF (l : List UInt8) (s : PS) (f : Int → PS → R) : R := needF ts l s fun pos s => if s.deep = 60 then .bad true pos else f pos { s with deep := s.deep + 1 }
def leaveF (s : PS) (f : PS → R) : R := if s.deep = 0 then .stuck else f { s with deep := s.deep - 1 }
def addF (op pos : Int) (tx : ByteArray) (kids : List Int) (s : PS) (f : Int → PS → R) : R :=
  if s.nodes.length < 900000 ∧ kids.length < 900000 then f s.nodes.length { s with nodes := s.nodes ++ [⟨op, 0, pos, tx, kids⟩] } else .stuck
def one (z : Int) (s : PS) : R := .ok z [] false s
def leafF (op : Int) (s : PS) : R := nextF ts s fun t s => addF op t.pos (txt t.text) [] s one
def wordF (op : Int) (s : PS) : R := nextF ts s fun t s => addF op t.pos ⟨#[]⟩ [] s one
def sumOp (l : List UInt8) : Int := if l = [43] then 21 else if l = [45] then 22 else 0
def mulOp (l : List UInt8) : Int := if l = [42] then 23 else if l = [47, 47] then 24 else if l = [37] then 25 else 0
def cmpOp (l : List UInt8) : Int := if l = [61, 61] then 26 else if l = [33, 61] then 27 else if l = [60] then 28 else if l = [60, 61] then 29 else if l = [62] then 30 else if l = [62, 61] then 31 else if l = sIn then 32 else if l = sNot then 33 else 0
def opF (k : Nat) (l : List UInt8) : Int := match k with
  | 0 => if l = sOr then 19 else 0
  | 1 => if l = sAnd then 18 else 0
  | 2 => sumOp l
  | _ => mulOp l
def partF (k : Nat) : Q := match k with
  | 0 => .bin 1
  | 1 => .not
  | 2 => .bin 3
  | _ => .unary
def begins (l : List UInt8) (kind : Nat) : Bool := kind == 1 || kind == 2 || kind == 3 || l == sNot || l == [45] || l == sNone || l == sTrue || l == sFalse || l == [40] || l == [91] || l == [123]
def beginsF (s : PS) (f : Bool → R) : R := match ts[s.at_]? with
  | none => .stuck
  | some t => f (begins (sg t) t.kind)
def joinF (zs : List Int) (c : Bool) (pos : Int) (s : PS) : R := if c then addF 8 pos ⟨#[]⟩ zs s one else match zs with
  | [] => .stuck
  | z :: _ => one z s
def posF (s : PS) (z : Int) (f : Int → R) : R := if z < 0 then .stuck else match s.nodes[z.toNat]? with
  | none => .stuck
  | some x => f x.pos
def fileEnd (zs : List Int) (s : PS) : R := match zs with
  | [] => addF 38 0 ⟨#[]⟩ [] s fun z s => posF s z fun p => addF 47 p ⟨#[]⟩ [z] s one
  | z :: r => posF s z fun p => addF 47 p ⟨#[]⟩ (z :: r) s one
def tBegins (t : Tok) : Bool := t.kind == 1 || sg t == [40]
def shutF (l : List UInt8) (s : PS) (f : PS → R) : R := needF ts l s fun _ s => leaveF s f
def sElif : List UInt8 := [101, 108, 105, 102]
def sFor : List UInt8 := [102, 111, 114]
def rowP (k : Nat) : Q := if k = 0 then .test else .target
def rowB (k : Nat) (t : Tok) : Bool := if k = 0 then begins (sg t) t.kind else tBegins t
def rowBF (k : Nat) (s : PS) (f : Bool → R) : R := match ts[s.at_]? with
  | none => .stuck
  | some t => f (rowB k t)
def blockF (zs : List Int) (s : PS) : R := match zs with
  | [] => .stuck
  | z :: r => posF s z fun p => addF 47 p ⟨#[]⟩ (z :: r) s one
/-- Are all of these ones that may be assigned to, as far as f tells? -/
def allT (f : Int → Option Bool) : List Int → Option Bool
  | [] => some true
  | k :: r => match f k with
    | none => none
    | some false => some false
    | some true => allT f r
/-- Can node z be assigned to? -/
def targetF : Nat → List Nd → Int → Option Bool
  | 0, _, _ => none
  | n + 1, l, z => if z < 0 then none else match l[z.toNat]? with
    | none => none
    | some x => if x.op == 6 || x.op == 13 then some true else if x.op = 8 ∧ x.kids ≠ [] then allT (targetF n l) x.kids else some false
/-- What stands behind the name of what is loaded. -/
def thereF (t : Tok) (s : PS) : R := takeKF ts 3 s fun u s => addF 5 u.pos (txt u.text) [] s fun z s => addF 46 t.pos (txt t.text) [z] s one
def bodyF (rec : Q → PS → R) : Q → PS → R
  | .test, s => (rec (.bin 0) s).bind fun z _ _ s => signF ts s fun l => if l = sIf then enterF ts sIf s fun pos s => (rec (.bin 0) s).bind fun cz _ _ s => needF ts sElse s fun _ s => (rec .test s).bind fun oz _ _ s => leaveF s fun s => addF 20 pos ⟨#[]⟩ [cz, z, oz] s one else one z s
  | .bin k, s => (rec (partF k) s).bind fun z _ _ s => rec (.binLoop k z) s
  | .binLoop k z, s => signF ts s fun l => if opF k l = 0 then one z s else nextF ts s fun t s => (rec (partF k) s).bind fun rz _ _ s => addF (opF k l) t.pos ⟨#[]⟩ [z, rz] s fun z s => rec (.binLoop k z) s
  | .not, s => signF ts s fun l => if l = sNot then rec (.ahead 0) s else rec .compare s
  | .ahead k, s => enterF ts (if k = 0 then sNot else [45]) s fun pos s => (rec (if k = 0 then .not else .unary) s).bind fun z _ _ s => leaveF s fun s => addF (if k = 0 then 17 else 16) pos ⟨#[]⟩ [z] s one
  | .compare, s => (rec (.bin 2) s).bind fun z _ _ s => signF ts s fun l => if cmpOp l = 0 then one z s else nextF ts s fun t s => if cmpOp l = 33 then needF ts sIn s fun _ s => (rec (.bin 2) s).bind fun rz _ _ s => addF (cmpOp l) t.pos ⟨#[]⟩ [z, rz] s one else (rec (.bin 2) s).bind fun rz _ _ s => addF (cmpOp l) t.pos ⟨#[]⟩ [z, rz] s one
  | .unary, s => signF ts s fun l => if l = [45] then rec (.ahead 1) s else rec .primary s
  | .primary, s => (rec .atom s).bind fun z _ _ s => rec (.primLoop z) s
  | .primLoop z, s => signF ts s fun l => if l = [46] then (rec (.dot z) s).bind fun z _ _ s => rec (.primLoop z) s else if l = [40] then (rec (.call z) s).bind fun z _ _ s => rec (.primLoop z) s else if l = [91] then (rec (.index z) s).bind fun z _ _ s => rec (.primLoop z) s else one z s
  | .def_, s => needF ts [100, 101, 102] s fun pos s => takeKF ts 1 s fun t s => needF ts [40] s fun _ s => (rec (.params [] [] false) s).bind fun _ zs _ s => needF ts [41] s fun _ s => (rec (.block ⟨false, true, false⟩) s).bind fun bz _ _ s => addF 45 pos (txt t.text) (zs ++ [bz]) s one
  | .params zs names given, s => signF ts s fun l => if l = [41] then .ok 0 zs given s else nextF ts s fun t _ => (rec (.param names given) s).bind fun z _ c s => if zs.length < 900000 ∧ names.length < 900000 then signF ts s fun l => if l = [41] then .ok 0 (zs ++ [z]) c s else needF ts [44] s fun _ s => rec (.params (zs ++ [z]) (t.text :: names) c) s else .stuck
  | .param names given, s => takeKF ts 1 s fun t s => signF ts s fun l => if l = [61] then (if t.text ∈ names then .bad false t.pos else (rec .test { s with at_ := s.at_ + 1 }).bind fun v _ _ s => addF 46 t.pos (txt t.text) [v] s fun z s => .ok z [] true s)
      else if t.text ∈ names ∨ given = true then .bad false t.pos else addF 46 t.pos (txt t.text) [] s fun z s => .ok z [] false s
  | .call z, s => enterF ts [40] s fun pos s => (rec (.args [z] []) s).bind fun _ zs _ s => shutF ts [41] s fun s => addF 10 pos ⟨#[]⟩ zs s one
  | .args zs names, s => signF ts s fun l => if l = [41] then .ok 0 zs false s else nextF ts s fun t _ => (rec (.argument names) s).bind fun z _ c s => if zs.length < 900000 ∧ names.length < 900000 then signF ts s fun l => if l = [41] then .ok 0 (zs ++ [z]) false s else needF ts [44] s fun _ s => rec (.args (zs ++ [z]) (if c then t.text :: names else names)) s else .stuck
  | .argument names, s => nextF ts s fun t _ => if t.kind = 1 then (match ts[s.at_ + 1]? with
      | none => .stuck
      | some t2 => if sg t2 = [61] then (if t.text ∈ names then .bad false t.pos else needF ts [61] { s with at_ := s.at_ + 1 } fun _ s => (rec .test s).bind fun v _ _ s => addF 11 t.pos (txt t.text) [v] s fun z s => .ok z [] true s)
        else if names = [] then (rec .test s).bind fun z _ _ s => .ok z [] false s else .bad false t.pos)
    else if names = [] then (rec .test s).bind fun z _ _ s => .ok z [] false s else .bad false t.pos
  | .dot z, s => needF ts [46] s fun pos s => takeKF ts 1 s fun t s => addF 12 pos (txt t.text) [z] s one
  | .index z, s => enterF ts [91] s fun pos s => (rec (.bound 0) s).bind fun b _ _ s => signF ts s fun l => if l = [58] then (rec (.bound 1) { s with at_ := s.at_ + 1 }).bind fun c _ _ s => shutF ts [93] s fun s => addF 14 pos ⟨#[]⟩ [z, b, c] s one else shutF ts [93] s fun s => addF 13 pos ⟨#[]⟩ [z, b] s one
  | .bound k, s => signF ts s fun l => if l = (if k = 0 then [58] else [93]) then nextF ts s fun t _ => addF 15 t.pos ⟨#[]⟩ [] s one else rec .test s
  | .list, s => enterF ts [91] s fun pos s => (rec .orNone s).bind fun _ zs c s => if c then shutF ts [93] s fun s => addF 7 pos ⟨#[]⟩ zs s one else signF ts s fun l => if l = sFor then (rec .rounds s).bind fun _ rs _ s => (match rs with
      | [] => .stuck
      | r0 :: rr => if zs.length + (r0 :: rr).length < 900000 then shutF ts [93] s fun s => addF 34 pos ⟨#[]⟩ (zs ++ (r0 :: rr)) s one else .stuck) else shutF ts [93] s fun s => addF 7 pos ⟨#[]⟩ zs s one
  | .rounds, s => needF ts sFor s fun _ s => (rec (.bare 1) s).bind fun tz _ _ s => needF ts sIn s fun _ s => (rec (.bin 0) s).bind fun oz _ _ s => signF ts s fun l => if l = sIf then (rec (.bin 0) { s with at_ := s.at_ + 1 }).bind fun cz _ _ s => .ok 0 [tz, oz, cz] false s else .ok 0 [tz, oz] false s
  | .atom, s => kindF ts s fun k => if k = 1 then leafF ts 6 s else if k = 2 then leafF ts 4 s else if k = 3 then rec .texts s else signF ts s fun l =>
      if l = sNone then wordF ts 1 s else if l = sTrue then wordF ts 2 s else if l = sFalse then wordF ts 3 s else if l = [40] then rec (.round 0) s else if l = [91] then rec .list s else if l = [123] then rec .dict s else allowF ts false s .stuck
  | .dict, s => enterF ts [123] s fun pos s => (rec (.pairs []) s).bind fun _ zs _ s => shutF ts [125] s fun s => addF 9 pos ⟨#[]⟩ zs s one
  | .pairs zs, s => signF ts s fun l => if l = [125] then .ok 0 zs false s else (rec (.pair zs) s).bind fun _ zs2 _ s => if zs2.length < 900000 then signF ts s fun l => if l = [125] then .ok 0 zs2 false s else needF ts [44] s fun _ s => rec (.pairs zs2) s else .stuck
  | .pair zs, s => (rec .test s).bind fun k _ _ s => needF ts [58] s fun _ s => (rec .test s).bind fun v _ _ s => .ok 0 (zs ++ [k] ++ [v]) false s
  | .texts, s => nextF ts s fun t _ => rec (.textsLoop t.pos []) s
  | .textsLoop pos acc, s => nextF ts s fun t s2 => if t.kind = 3 then (if acc.length + t.text.length < 900000 then rec (.textsLoop pos (acc ++ t.text)) s2 else .stuck) else addF 5 pos (txt acc) [] s one
  | .row k, s => (rec (rowP k) s).bind fun z _ _ s => rec (.rowLoop k [z] false) s
  | .rowLoop k zs c, s => signF ts s fun l => if l = [44] then rowBF ts k { s with at_ := s.at_ + 1 } fun b => if b then (rec (rowP k) { s with at_ := s.at_ + 1 }).bind fun z _ _ s => if zs.length < 900000 then rec (.rowLoop k (zs ++ [z]) true) s else .stuck else .ok 0 zs true { s with at_ := s.at_ + 1 } else .ok 0 zs c s
  | .target, s => signF ts s fun l => if l = [40] then rec (.round 1) s else nextF ts s fun t _ => if tBegins t then (rec .primary s).bind fun z _ _ s => (match targetF (s.nodes.length + 1) s.nodes z with
      | none => .stuck
      | some b => if b then one z s else .bad false t.pos)
    else .bad false t.pos
  | .orNone, s => beginsF ts s fun b => if b then rec (.row 0) s else .ok 0 [] true s
  | .bare k, s => nextF ts s fun t _ => (rec (.row k) s).bind fun _ zs c s => joinF zs c t.pos s
  | .round k, s => enterF ts [40] s fun pos s => (rec (if k = 0 then .orNone else .row 1) s).bind fun _ zs c s => needF ts [41] s fun _ s => leaveF s fun s => joinF zs c pos s
  | .alone, s => (rec (.bare 0) s).bind fun _ _ _ s => kindF ts s fun k => if k = 5 then takeKF ts 8 { s with at_ := s.at_ + 1 } fun _ s => one 0 s else takeKF ts 8 s fun _ s => one 0 s
  | .file, s => (rec (.fileLoop []) s).bind fun _ zs _ s => fileEnd zs s
  | .fileLoop zs, s => kindF ts s fun k => if k = 8 then .ok 0 zs false s else (rec (.statement ⟨false, false, false⟩) s).bind fun z _ _ s => if zs.length < 900000 then rec (.fileLoop (zs ++ [z])) s else .stuck
  | .statement p, s => signF ts s fun l => if l = sIf then needF ts sIf s fun pos s => rec (.cond pos p) s else if l = sFor then rec (.loop p) s else if l = [100, 101, 102] then allowF ts (!p.inner) s (rec .def_ s) else rec (.line p) s
  | .line p, s => (rec (.simple p) s).bind fun z _ _ s => takeKF ts 5 s fun _ s => one z s
  | .simple p, s => signF ts s fun l => if l = [112, 97, 115, 115] then wordF ts 38 s else if l = [98, 114, 101, 97, 107] then allowF ts p.l s (wordF ts 39 s) else if l = [99, 111, 110, 116, 105, 110, 117, 101] then allowF ts p.l s (wordF ts 40 s)
    else if l = [114, 101, 116, 117, 114, 110] then allowF ts p.d s (rec .result s) else if l = [108, 111, 97, 100] then allowF ts (!p.inner) s (rec .load s) else rec .assignment s
  | .load, s => needF ts [108, 111, 97, 100] s fun pos s => needF ts [40] s fun _ s => takeKF ts 3 s fun t s => needF ts [44] s fun _ s => (rec .loaded s).bind fun z _ _ s => (rec (.loadLoop [z]) s).bind fun _ zs _ s => needF ts [41] s fun _ s => addF 42 pos (txt t.text) zs s one
  | .loadLoop zs, s => signF ts s fun l => if l = [44] then signF ts { s with at_ := s.at_ + 1 } fun l2 => if l2 = [41] then .ok 0 zs false { s with at_ := s.at_ + 1 } else (rec .loaded { s with at_ := s.at_ + 1 }).bind fun z _ _ s => if zs.length < 900000 then rec (.loadLoop (zs ++ [z])) s else .stuck else .ok 0 zs false s
  | .loaded, s => match ts[s.at_]? with
      | none => .stuck
      | some t => if t.kind = 3 then allowF ts (nameB t.text) s (thereF ts t s) else takeKF ts 1 s fun _ s => needF ts [61] s fun _ s => thereF ts t s
  | .result, s => needF ts [114, 101, 116, 117, 114, 110] s fun pos s => beginsF ts s fun b => if b then (rec (.bare 0) s).bind fun z _ _ s => addF 41 pos ⟨#[]⟩ [z] s one else addF 41 pos ⟨#[]⟩ [] s one
  | .cond pos p, s => (rec .test s).bind fun cz _ _ s => (rec (.block p) s).bind fun bz _ _ s => signF ts s fun l => if l = sElif then (rec (.elif p) s).bind fun ez _ _ s => addF 43 pos ⟨#[]⟩ [cz, bz, ez] s one
    else if l = sElse then (rec (.block p) { s with at_ := s.at_ + 1 }).bind fun ez _ _ s => addF 43 pos ⟨#[]⟩ [cz, bz, ez] s one else addF 43 pos ⟨#[]⟩ [cz, bz] s one
  | .elif p, s => enterF ts sElif s fun pos s => (rec (.cond pos p) s).bind fun z _ _ s => leaveF s fun s => blockF [z] s
  | .loop p, s => needF ts sFor s fun pos s => (rec (.bare 1) s).bind fun tz _ _ s => needF ts sIn s fun _ s => (rec (.bare 0) s).bind fun oz _ _ s => (rec (.block { p with l := true }) s).bind fun bz _ _ s => addF 44 pos ⟨#[]⟩ [tz, oz, bz] s one
  | .block p, s => enterF ts [58] s fun _ s => kindF ts s fun k => if k = 5 then (rec (.lines { p with inner := true }) s).bind fun _ zs _ s => leaveF s fun s => blockF zs s else (rec (.line { p with inner := true }) s).bind fun z _ _ s => leaveF s fun s => blockF [z] s
  | .lines p, s => takeKF ts 5 s fun _ s => takeKF ts 6 s fun _ s => (rec (.statement p) s).bind fun z _ _ s => rec (.linesLoop p [z]) s
  | .linesLoop p zs, s => kindF ts s fun k => if k = 7 then takeKF ts 7 s fun _ s => .ok 0 zs false s else (rec (.statement p) s).bind fun z _ _ s => if zs.length < 900000 then rec (.linesLoop p (zs ++ [z])) s else .stuck
  | .assignment, s => (rec (.bare 0) s).bind fun z _ _ s => signF ts s fun l => if l = [61] then (match targetF (s.nodes.length + 1) s.nodes z with
      | none => .stuck
      | some b => allowF ts b s (nextF ts s fun t s => (rec (.bare 0) s).bind fun rz _ _ s => addF 36 t.pos ⟨#[]⟩ [z, rz] s one))
    else if l = [43, 61] then (if z < 0 then .stuck else match s.nodes[z.toNat]? with
      | none => .stuck
      | some x => allowF ts (x.op == 6 || x.op == 13) s (nextF ts s fun t s => (rec (.bare 0) s).bind fun rz _ _ s => addF 37 t.pos ⟨#[]⟩ [z, rz] s one))
    else posF s z fun p => addF 35 p ⟨#[]⟩ [z] s one
def runF : Nat → Q → PS → R
  | 0, _, _ => .stuck
  | n + 1, q, s => bodyF ts (runF n) q s
end
def seen : R → Option (List Nd)
  | .ok _ _ _ s => some s.nodes
  | _ => none
end Px
end Go.Proofs.YtpjjofdphlgeiaaGreatDoor

namespace Go.Proofs.YtpjjofdphlgeiaaGreatDoor
open Go.RowKit
namespace Px
open Lx Ax

/-- What comes out of a text: where it has no tokens; a fault; nodes. -/
inductive PR where
  | lex (pos : Nat)
  | bad (lim : Bool) (pos : Int)
  | ok (l : List Nd)
def treeF (n : Nat) (q : Q) (l : List UInt8) : Option PR := match scanF l with
  | .bad p => some (.lex p)
  | .ok ts => if ts.length ≤ 100000 && ts.all (fun t => decide (t.text.length ≤ 100000)) then (match runF ts n q ⟨0, [], 0⟩ with
    | .stuck => none
    | .bad lim p => some (.bad lim p)
    | .ok _ _ _ s => some (.ok s.nodes)) else none
def signs : List (List UInt8) := [[111, 114], [97, 110, 100], [61, 61], [43], [45], [42], [47, 47], [37]]
def opsR : List Int := [19, 18, 26, 21, 22, 23, 24, 25]
def ranksR : List Int := [1, 2, 3, 4, 4, 5, 5, 5]
def rkA (i k : Nat) : List UInt8 := [97, 32] ++ signs.getD i [] ++ [32, 98, 32] ++ signs.getD k [] ++ [32, 99]
def rkB (i k : Nat) : List UInt8 := [97, 32] ++ signs.getD i [] ++ [32, 40, 98, 32] ++ signs.getD k [] ++ [32, 99, 41]
def rkOK (i k : Nat) : Bool := (match treeF 60 .alone (rkA i k) with
  | some (.ok l) => l.map (·.op) == [6, 6, (if ranksR.getD k 0 > ranksR.getD i 0 then 6 else opsR.getD i 0), (if ranksR.getD k 0 > ranksR.getD i 0 then opsR.getD k 0 else 6), (if ranksR.getD k 0 > ranksR.getD i 0 then opsR.getD i 0 else opsR.getD k 0)]
  | _ => false) && (match treeF 60 .alone (rkB i k) with
  | some (.ok l) => l.map (·.op) == [6, 6, 6, opsR.getD k 0, opsR.getD i 0]
  | _ => false)
set_option maxRecDepth 100000 in
theorem rk_all : (List.range 8).all (fun i => (List.range 8).all fun k => (i == 2 && k == 2) || rkOK i k) = true := by decide +kernel
set_option maxRecDepth 100000 in
theorem rk_two : (match treeF 60 .alone [97, 32, 61, 61, 32, 98, 32, 61, 61, 32, 99] with | some (.bad false 7) => true | _ => false) = true := by decide +kernel
set_option maxRecDepth 100000 in
theorem rk_first : (match treeF 60 .file [120, 32, 61, 32, 49, 32, 43, 32, 50] with | some (.ok l) => l.map (fun x => (x.op, x.pos)) == [(6, 0), (4, 4), (4, 8), (21, 6), (36, 2), (47, 2)] | _ => false) = true := by decide +kernel
end Px
end Go.Proofs.YtpjjofdphlgeiaaGreatDoor
