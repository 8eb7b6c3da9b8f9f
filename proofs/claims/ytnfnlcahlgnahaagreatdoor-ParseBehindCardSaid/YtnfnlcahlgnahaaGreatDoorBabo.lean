/- Parts of the proof, together. What every call of the parser answers, for whatever fuel. Conditions: texts of tokens are short. What the functions make of the law's texts of three words. No conditions. -/
import Derived.Test.YtnfnlcahlgnahaaGreatDoorBabe
import Derived.Test.YtnfnlcahlgnahaaGreatDoorBabf
import Derived.Test.YtnfnlcahlgnahaaGreatDoorBabg
import Derived.Test.YtnfnlcahlgnahaaGreatDoorBabh
import Derived.Test.YtnfnlcahlgnahaaGreatDoorBabj
import Derived.Test.YtnfnlcahlgnahaaGreatDoorBabk
import Derived.Test.YtnfnlcahlgnahaaGreatDoorBabm
import Derived.Test.YtnfnlcahlgnahaaGreatDoorBabn
import Derived.Test.YtnfnlcahlgnahaaGreatDoorBabb
namespace Go.Proofs.YtnfnlcahlgnahaaGreatDoor
open Go.RowKit
open Lx Ax Px

section
variable {A : Nat → Addr} {B pb : Nat} {ts : List Tok} {tv : Value}
theorem does_zero (f : FuncId) (args : Array Value) (q : Q) : Does A B pb ts tv f args q 0 := fun _ _ _ _ _ _ hr hnr => absurd hr.symm hnr
theorem doesR_zero (f : FuncId) (args : Array Value) (q : Q) : DoesR A B pb ts tv f args q 0 := fun _ _ _ _ _ _ hr hnr => absurd hr.symm hnr
theorem doesL_zero (f : FuncId) (args : Array Value) (q : Q) : DoesL A B pb ts tv f args q 0 := fun _ _ _ _ _ _ hr hnr => absurd hr.symm hnr
theorem all_zero : All A B pb ts tv 0 := ⟨does_zero _ _ _, does_zero _ _ _, does_zero _ _ _, does_zero _ _ _, does_zero _ _ _, does_zero _ _ _, does_zero _ _ _, does_zero _ _ _, does_zero _ _ _, does_zero _ _ _, does_zero _ _ _, does_zero _ _ _, doesR_zero _ _ _, doesR_zero _ _ _, does_zero _ _ _, does_zero _ _ _, fun _ => does_zero _ _ _, fun _ => does_zero _ _ _, fun _ => does_zero _ _ _, does_zero _ _ _, does_zero _ _ _,
  fun _ => does_zero _ _ _, fun _ => does_zero _ _ _, fun _ => does_zero _ _ _, does_zero _ _ _, does_zero _ _ _, does_zero _ _ _, does_zero _ _ _, does_zero _ _ _, doesL_zero _ _ _, does_zero _ _ _, does_zero _ _ _, does_zero _ _ _, does_zero _ _ _, doesR_zero _ _ _, does_zero _ _ _, does_zero _ _ _, fun _ _ => does_zero _ _ _, fun _ => does_zero _ _ _, fun _ => does_zero _ _ _, fun _ => does_zero _ _ _, fun _ => doesL_zero _ _ _⟩
theorem p_all_any (hts : ∀ t ∈ ts, (txt t.text).size ≤ 1000000) (n : Nat) : All A B pb ts tv n := by
  induction n using Nat.strongRecOn with
  | _ n ih =>
    rcases n with _ | m
    · exact all_zero
    · have H : ∀ j, j ≤ m → All A B pb ts tv j := fun j hj => ih j (by omega)
      have Hm := H m (Nat.le_refl _)
      exact ⟨test_step Hm, or_step H, and_step H, sum_step H, product_step H, not_step Hm, ahead0_step Hm, ahead1_step Hm, compare_step Hm, unary_step Hm, primary_step H, atom_step hts Hm, tests_step H, orNone_step Hm, tuple_step Hm, round_step Hm, fun p => statement_step p Hm, fun p => line_step p Hm, fun p => simple_step p Hm, assignment_step Hm, def_step hts H,
        fun z => call_step hts z H, fun z => dot_step z hts, fun z => index_step z Hm, bound_step 0 _ rfl Hm, bound_step 1 _ rfl Hm, list_step Hm, dict_step H, texts_step hts, rounds_step Hm, target_step Hm, load_step hts H, loaded_step hts, result_step Hm, trow_step H, targets_step Hm, round1_step Hm, fun pos p => cond_step pos p Hm, fun p => elif_step p Hm, fun p => loop_step p Hm, fun p => block_step p Hm, fun p => lines_step p H⟩
theorem file_any (hts : ∀ t ∈ ts, (txt t.text).size ≤ 1000000) (n : Nat) : DoesN A B pb ts tv 19 #[ptr pb] .file n := by
  rcases n with _ | m
  · exact fun _ _ _ _ _ _ hr hnr => absurd hr.symm hnr
  · exact file_step fun j _ => p_all_any hts j
theorem alone_any (hts : ∀ t ∈ ts, (txt t.text).size ≤ 1000000) (n : Nat) : DoesN A B pb ts tv 26 #[ptr pb] .alone n := by
  rcases n with _ | m
  · exact fun _ _ _ _ _ _ hr hnr => absurd hr.symm hnr
  · exact alone_step (p_all_any hts m)
end
end Go.Proofs.YtnfnlcahlgnahaaGreatDoor

namespace Go.Proofs.YtnfnlcahlgnahaaGreatDoor
open Go.RowKit
namespace Px
open Lx Ax

/-- What comes out of a text: where it has no tokens; a fault; nodes. -/
inductive PR where
  | lex (pos : Nat)
  | bad (lim : Bool) (pos : Int)
  | ok (l : List Nd)
def treeF (n : Nat) (q : Q) (l : List UInt8) : Option PR := match scanF l with
  | .bad p => some (.lex p)
  | .ok ts => if ts.length ≤ 100000 && ts.all (fun t => decide (t.text.length ≤ 100000)) then (match runF ts n q ⟨0, [], 0⟩ with
    | .stuck => none
    | .bad lim p => some (.bad lim p)
    | .ok _ _ _ s => some (.ok s.nodes)) else none
def signs : List (List UInt8) := [[111, 114], [97, 110, 100], [61, 61], [43], [45], [42], [47, 47], [37]]
def opsR : List Int := [19, 18, 26, 21, 22, 23, 24, 25]
def ranksR : List Int := [1, 2, 3, 4, 4, 5, 5, 5]
def rkA (i k : Nat) : List UInt8 := [97, 32] ++ signs.getD i [] ++ [32, 98, 32] ++ signs.getD k [] ++ [32, 99]
def rkB (i k : Nat) : List UInt8 := [97, 32] ++ signs.getD i [] ++ [32, 40, 98, 32] ++ signs.getD k [] ++ [32, 99, 41]
def rkOK (i k : Nat) : Bool := (match treeF 60 .alone (rkA i k) with
  | some (.ok l) => l.map (·.op) == [6, 6, (if ranksR.getD k 0 > ranksR.getD i 0 then 6 else opsR.getD i 0), (if ranksR.getD k 0 > ranksR.getD i 0 then opsR.getD k 0 else 6), (if ranksR.getD k 0 > ranksR.getD i 0 then opsR.getD i 0 else opsR.getD k 0)]
  | _ => false) && (match treeF 60 .alone (rkB i k) with
  | some (.ok l) => l.map (·.op) == [6, 6, 6, opsR.getD k 0, opsR.getD i 0]
  | _ => false)
set_option maxRecDepth 100000 in
theorem rk_all : (List.range 8).all (fun i => (List.range 8).all fun k => (i == 2 && k == 2) || rkOK i k) = true := by decide +kernel
set_option maxRecDepth 100000 in
theorem rk_two : (match treeF 60 .alone [97, 32, 61, 61, 32, 98, 32, 61, 61, 32, 99] with | some (.bad false 7) => true | _ => false) = true := by decide +kernel
set_option maxRecDepth 100000 in
theorem rk_first : (match treeF 60 .file [120, 32, 61, 32, 49, 32, 43, 32, 50] with | some (.ok l) => l.map (fun x => (x.op, x.pos)) == [(6, 0), (4, 4), (4, 8), (21, 6), (36, 2), (47, 2)] | _ => false) = true := by decide +kernel
end Px
end Go.Proofs.YtnfnlcahlgnahaaGreatDoor
