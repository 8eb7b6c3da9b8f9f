/- Parts of the proof, together. ast.Valid, asked of nodes of the call's own. Conditions: the words and the errors of api lie in their variables; few nodes, short texts. The law's deep texts, and what is said of them. No conditions. What the functions make of the law's deep texts of kind 0. No conditions. What the functions make of the law's deep texts of kind 1. No conditions. What the functions make of the law's deep texts of kind 2. No conditions. What the functions make of the law's deep texts of kind 3, 1 to 20 levels. No conditions. -/
import Derived.Test.YtaafhldcdkbnkaaGreatDoorQdbe
import Derived.Test.YtaafhldcdkbnkaaGreatDoorQdbt
import Derived.Test.YtaafhldcdkbnkaaGreatDoorQdbq
namespace Go.Proofs.YtaafhldcdkbnkaaGreatDoor
open Go.RowKit
open Lx Ax Px

theorem valid_of {A : Nat → Addr} {W : World} (h : PCx A W) (ao : Option Addr) (cap m : Nat) (l : List Nd) (hm : m = l.length) (hN : NodesAt W.heap.size W ao l) (hl : l.length ≤ 100000) (hpos : 0 < l.length) (ho : ∀ x ∈ l, OpOK x.op) (hs : ∀ x ∈ l, x.s.size ≤ 1000000) (r : Option Nat) (hr : validF l = r) :
    Calls Tryz.prog 10 #[.slice ao m cap] W (ValidPost A W r) := by
  subst hm hr
  exact valid_any A W.heap.size ao cap l W hl hpos hN (Nat.le_refl _) h.vars.1 (World.block_lt_of_cell? W ⟨17, 0 + 0, none⟩ (h.vars.1 0 _ rfl)) h.sent.g12 ho hs
end Go.Proofs.YtaafhldcdkbnkaaGreatDoor

namespace Go.Proofs.YtaafhldcdkbnkaaGreatDoor
open Go.RowKit
namespace Px
open Lx Ax

def pieceD (k : Nat) : List UInt8 := match k with
  | 0 => [45]
  | 1 => [110, 111, 116, 32]
  | 2 => [40, 45]
  | _ => [49, 32, 105, 102, 32, 50, 32, 101, 108, 115, 101, 32]
def manyD (l : List UInt8) : Nat → List UInt8
  | 0 => []
  | n + 1 => manyD l n ++ l
theorem manyD_length (l : List UInt8) : ∀ n, (manyD l n).length = l.length * n
  | 0 => rfl
  | n + 1 => by rw [manyD, List.length_append, manyD_length l n, Nat.mul_succ]
def textD (k n : Nat) : List UInt8 := [120, 32, 61, 32] ++ manyD (pieceD k) n ++ [121] ++ (if k = 2 then manyD [41] n else [])
def atD (k : Nat) : Int := match k with
  | 0 => 64
  | 1 => 244
  | 2 => 64
  | _ => 726
def deepD (k n : Nat) : Nat := if k = 2 then 2 * n else n
def goodD (l : List Nd) : Bool := (match validF l with | none => true | some _ => false) && l.all (fun x => decide (OpOK x.op) && decide (x.s.size ≤ 1000)) && decide (0 < l.length) && decide (l.length ≤ 100000)
def dpOK (k n : Nat) : Bool := match treeF 1200 .file (textD k n) with
  | none => false
  | some (.lex _) => k == 2 && decide (60 < n)
  | some (.bad lim p) => lim && p == atD k && decide (60 < deepD k n) && !(k == 2 && decide (60 < n))
  | some (.ok l) => decide (deepD k n ≤ 60) && goodD l
theorem all_ten {k h : Nat} (e : (List.range 10).all (fun n => dpOK k (n + h)) = true) (n : Nat) (h1 : h ≤ n) (h2 : n < h + 10) : dpOK k n = true := by
  have := List.all_eq_true.1 e (n - h) (List.mem_range.2 (by omega))
  rwa [Nat.sub_add_cancel h1] at this
end Px
end Go.Proofs.YtaafhldcdkbnkaaGreatDoor

namespace Go.Proofs.YtaafhldcdkbnkaaGreatDoor
open Go.RowKit
namespace Px
open Lx Ax
set_option maxRecDepth 100000 in
theorem dp_0_0 : (List.range 10).all (fun n => dpOK 0 (n + 1)) = true := by decide +kernel
set_option maxRecDepth 100000 in
theorem dp_0_1 : (List.range 10).all (fun n => dpOK 0 (n + 11)) = true := by decide +kernel
set_option maxRecDepth 100000 in
theorem dp_0_2 : (List.range 10).all (fun n => dpOK 0 (n + 21)) = true := by decide +kernel
set_option maxRecDepth 100000 in
theorem dp_0_3 : (List.range 10).all (fun n => dpOK 0 (n + 31)) = true := by decide +kernel
set_option maxRecDepth 100000 in
theorem dp_0_4 : (List.range 10).all (fun n => dpOK 0 (n + 41)) = true := by decide +kernel
set_option maxRecDepth 100000 in
theorem dp_0_5 : (List.range 10).all (fun n => dpOK 0 (n + 51)) = true := by decide +kernel
set_option maxRecDepth 100000 in
theorem dp_0_6 : (List.range 10).all (fun n => dpOK 0 (n + 61)) = true := by decide +kernel
set_option maxRecDepth 100000 in
theorem dp_0_7 : (List.range 10).all (fun n => dpOK 0 (n + 71)) = true := by decide +kernel
theorem dp_0 (n : Nat) (h1 : 1 ≤ n) (h2 : n ≤ 80) : dpOK 0 n = true := by
  by_cases c0 : n ≤ 10
  · exact all_ten dp_0_0 n (by omega) (by omega)
  by_cases c1 : n ≤ 20
  · exact all_ten dp_0_1 n (by omega) (by omega)
  by_cases c2 : n ≤ 30
  · exact all_ten dp_0_2 n (by omega) (by omega)
  by_cases c3 : n ≤ 40
  · exact all_ten dp_0_3 n (by omega) (by omega)
  by_cases c4 : n ≤ 50
  · exact all_ten dp_0_4 n (by omega) (by omega)
  by_cases c5 : n ≤ 60
  · exact all_ten dp_0_5 n (by omega) (by omega)
  by_cases c6 : n ≤ 70
  · exact all_ten dp_0_6 n (by omega) (by omega)
  by_cases c7 : n ≤ 80
  · exact all_ten dp_0_7 n (by omega) (by omega)
  omega
end Px
end Go.Proofs.YtaafhldcdkbnkaaGreatDoor

namespace Go.Proofs.YtaafhldcdkbnkaaGreatDoor
open Go.RowKit
namespace Px
open Lx Ax
set_option maxRecDepth 100000 in
theorem dp_1_0 : (List.range 10).all (fun n => dpOK 1 (n + 1)) = true := by decide +kernel
set_option maxRecDepth 100000 in
theorem dp_1_1 : (List.range 10).all (fun n => dpOK 1 (n + 11)) = true := by decide +kernel
set_option maxRecDepth 100000 in
theorem dp_1_2 : (List.range 10).all (fun n => dpOK 1 (n + 21)) = true := by decide +kernel
set_option maxRecDepth 100000 in
theorem dp_1_3 : (List.range 10).all (fun n => dpOK 1 (n + 31)) = true := by decide +kernel
set_option maxRecDepth 100000 in
theorem dp_1_4 : (List.range 10).all (fun n => dpOK 1 (n + 41)) = true := by decide +kernel
set_option maxRecDepth 100000 in
theorem dp_1_5 : (List.range 10).all (fun n => dpOK 1 (n + 51)) = true := by decide +kernel
set_option maxRecDepth 100000 in
theorem dp_1_6 : (List.range 10).all (fun n => dpOK 1 (n + 61)) = true := by decide +kernel
set_option maxRecDepth 100000 in
theorem dp_1_7 : (List.range 10).all (fun n => dpOK 1 (n + 71)) = true := by decide +kernel
theorem dp_1 (n : Nat) (h1 : 1 ≤ n) (h2 : n ≤ 80) : dpOK 1 n = true := by
  by_cases c0 : n ≤ 10
  · exact all_ten dp_1_0 n (by omega) (by omega)
  by_cases c1 : n ≤ 20
  · exact all_ten dp_1_1 n (by omega) (by omega)
  by_cases c2 : n ≤ 30
  · exact all_ten dp_1_2 n (by omega) (by omega)
  by_cases c3 : n ≤ 40
  · exact all_ten dp_1_3 n (by omega) (by omega)
  by_cases c4 : n ≤ 50
  · exact all_ten dp_1_4 n (by omega) (by omega)
  by_cases c5 : n ≤ 60
  · exact all_ten dp_1_5 n (by omega) (by omega)
  by_cases c6 : n ≤ 70
  · exact all_ten dp_1_6 n (by omega) (by omega)
  by_cases c7 : n ≤ 80
  · exact all_ten dp_1_7 n (by omega) (by omega)
  omega
end Px
end Go.Proofs.YtaafhldcdkbnkaaGreatDoor

namespace Go.Proofs.YtaafhldcdkbnkaaGreatDoor
open Go.RowKit
namespace Px
open Lx Ax
set_option maxRecDepth 100000 in
theorem dp_2_0 : (List.range 10).all (fun n => dpOK 2 (n + 1)) = true := by decide +kernel
set_option maxRecDepth 100000 in
theorem dp_2_1 : (List.range 10).all (fun n => dpOK 2 (n + 11)) = true := by decide +kernel
set_option maxRecDepth 100000 in
theorem dp_2_2 : (List.range 10).all (fun n => dpOK 2 (n + 21)) = true := by decide +kernel
set_option maxRecDepth 100000 in
theorem dp_2_3 : (List.range 10).all (fun n => dpOK 2 (n + 31)) = true := by decide +kernel
set_option maxRecDepth 100000 in
theorem dp_2_4 : (List.range 10).all (fun n => dpOK 2 (n + 41)) = true := by decide +kernel
set_option maxRecDepth 100000 in
theorem dp_2_5 : (List.range 10).all (fun n => dpOK 2 (n + 51)) = true := by decide +kernel
set_option maxRecDepth 100000 in
theorem dp_2_6 : (List.range 10).all (fun n => dpOK 2 (n + 61)) = true := by decide +kernel
set_option maxRecDepth 100000 in
theorem dp_2_7 : (List.range 10).all (fun n => dpOK 2 (n + 71)) = true := by decide +kernel
theorem dp_2 (n : Nat) (h1 : 1 ≤ n) (h2 : n ≤ 80) : dpOK 2 n = true := by
  by_cases c0 : n ≤ 10
  · exact all_ten dp_2_0 n (by omega) (by omega)
  by_cases c1 : n ≤ 20
  · exact all_ten dp_2_1 n (by omega) (by omega)
  by_cases c2 : n ≤ 30
  · exact all_ten dp_2_2 n (by omega) (by omega)
  by_cases c3 : n ≤ 40
  · exact all_ten dp_2_3 n (by omega) (by omega)
  by_cases c4 : n ≤ 50
  · exact all_ten dp_2_4 n (by omega) (by omega)
  by_cases c5 : n ≤ 60
  · exact all_ten dp_2_5 n (by omega) (by omega)
  by_cases c6 : n ≤ 70
  · exact all_ten dp_2_6 n (by omega) (by omega)
  by_cases c7 : n ≤ 80
  · exact all_ten dp_2_7 n (by omega) (by omega)
  omega
end Px
end Go.Proofs.YtaafhldcdkbnkaaGreatDoor

namespace Go.Proofs.YtaafhldcdkbnkaaGreatDoor
open Go.RowKit
namespace Px
open Lx Ax
set_option maxRecDepth 100000 in
theorem dp_3_1 : dpOK 3 1 = true := by decide +kernel
set_option maxRecDepth 100000 in
theorem dp_3_2 : dpOK 3 2 = true := by decide +kernel
set_option maxRecDepth 100000 in
theorem dp_3_3 : dpOK 3 3 = true := by decide +kernel
set_option maxRecDepth 100000 in
theorem dp_3_4 : dpOK 3 4 = true := by decide +kernel
set_option maxRecDepth 100000 in
theorem dp_3_5 : dpOK 3 5 = true := by decide +kernel
set_option maxRecDepth 100000 in
theorem dp_3_6 : dpOK 3 6 = true := by decide +kernel
set_option maxRecDepth 100000 in
theorem dp_3_7 : dpOK 3 7 = true := by decide +kernel
set_option maxRecDepth 100000 in
theorem dp_3_8 : dpOK 3 8 = true := by decide +kernel
set_option maxRecDepth 100000 in
theorem dp_3_9 : dpOK 3 9 = true := by decide +kernel
set_option maxRecDepth 100000 in
theorem dp_3_10 : dpOK 3 10 = true := by decide +kernel
set_option maxRecDepth 100000 in
theorem dp_3_11 : dpOK 3 11 = true := by decide +kernel
set_option maxRecDepth 100000 in
theorem dp_3_12 : dpOK 3 12 = true := by decide +kernel
set_option maxRecDepth 100000 in
theorem dp_3_13 : dpOK 3 13 = true := by decide +kernel
set_option maxRecDepth 100000 in
theorem dp_3_14 : dpOK 3 14 = true := by decide +kernel
set_option maxRecDepth 100000 in
theorem dp_3_15 : dpOK 3 15 = true := by decide +kernel
set_option maxRecDepth 100000 in
theorem dp_3_16 : dpOK 3 16 = true := by decide +kernel
set_option maxRecDepth 100000 in
theorem dp_3_17 : dpOK 3 17 = true := by decide +kernel
set_option maxRecDepth 100000 in
theorem dp_3_18 : dpOK 3 18 = true := by decide +kernel
set_option maxRecDepth 100000 in
theorem dp_3_19 : dpOK 3 19 = true := by decide +kernel
set_option maxRecDepth 100000 in
theorem dp_3_20 : dpOK 3 20 = true := by decide +kernel
theorem dp_3a (n : Nat) (h1 : 1 ≤ n) (h2 : n ≤ 20) : dpOK 3 n = true := by
  obtain rfl | rfl | rfl | rfl | rfl | rfl | rfl | rfl | rfl | rfl | rfl | rfl | rfl | rfl | rfl | rfl | rfl | rfl | rfl | rfl : n = 1 ∨ n = 2 ∨ n = 3 ∨ n = 4 ∨ n = 5 ∨ n = 6 ∨ n = 7 ∨ n = 8 ∨ n = 9 ∨ n = 10 ∨ n = 11 ∨ n = 12 ∨ n = 13 ∨ n = 14 ∨ n = 15 ∨ n = 16 ∨ n = 17 ∨ n = 18 ∨ n = 19 ∨ n = 20 := by omega
  · exact dp_3_1
  · exact dp_3_2
  · exact dp_3_3
  · exact dp_3_4
  · exact dp_3_5
  · exact dp_3_6
  · exact dp_3_7
  · exact dp_3_8
  · exact dp_3_9
  · exact dp_3_10
  · exact dp_3_11
  · exact dp_3_12
  · exact dp_3_13
  · exact dp_3_14
  · exact dp_3_15
  · exact dp_3_16
  · exact dp_3_17
  · exact dp_3_18
  · exact dp_3_19
  · exact dp_3_20
end Px
end Go.Proofs.YtaafhldcdkbnkaaGreatDoor
