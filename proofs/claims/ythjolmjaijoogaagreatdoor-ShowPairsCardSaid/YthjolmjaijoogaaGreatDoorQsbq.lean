/- Parts of the proof, together. ast.Valid, asked of nodes of the call's own. Conditions: the words and the errors of api lie in their variables; few nodes, short texts. Numbers folded, texts put together, a fault with a place: what the laws of this layer have in common. Conditions: the words and the errors of api lie in their variables. -/
import Derived.Test.YthjolmjaijoogaaGreatDoorQsbc
import Derived.Test.YthjolmjaijoogaaGreatDoorQsbp
import Derived.Test.YthjolmjaijoogaaGreatDoorQsah
namespace Go.Proofs.YthjolmjaijoogaaGreatDoor
open Go.RowKit
open Lx Ax Px

theorem valid_of {A : Nat → Addr} {W : World} (h : PCx A W) (ao : Option Addr) (cap m : Nat) (l : List Nd) (hm : m = l.length) (hN : NodesAt W.heap.size W ao l) (hl : l.length ≤ 100000) (hpos : 0 < l.length) (ho : ∀ x ∈ l, OpOK x.op) (hs : ∀ x ∈ l, x.s.size ≤ 1000000) (r : Option Nat) (hr : validF l = r) :
    Calls Tryz.prog 18 #[.slice ao m cap] W (ValidPost A W r) := by
  subst hm hr
  exact valid_any A W.heap.size ao cap l W hl hpos hN (Nat.le_refl _) h.vars.1 (World.block_lt_of_cell? W ⟨17, 0 + 0, none⟩ (h.vars.1 0 _ rfl)) h.sent.g12 ho hs
end Go.Proofs.YthjolmjaijoogaaGreatDoor

namespace Go.Proofs.YthjolmjaijoogaaGreatDoor
open Go.RowKit
open Lx Ax Px

theorem foldR_le (z : Int) (b : Nat) (hb : 0 < b) : -(b : Int) < z.tmod b ∧ z.tmod b < b := by
  have h1 := Int.tmod_lt_of_pos z (b := (b : Int)) (by omega)
  have h2 := Int.tmod_lt_of_pos (-z) (b := (b : Int)) (by omega)
  rw [Int.neg_tmod] at h2
  omega
theorem foldR_is (z : Int) (b : Nat) (hb : 0 < b) : ∃ n : Nat, (z.tmod b + b).tmod b = (n : Int) ∧ n < b := by
  have h := foldR_le z b hb
  have h2 : (z.tmod b + b).tmod b = (z.tmod b + b) % b := Int.tmod_eq_emod_of_nonneg (by omega)
  have h3 := Int.emod_nonneg (z.tmod b + b) (b := (b : Int)) (by omega)
  have h4 := Int.emod_lt_of_pos (z.tmod b + b) (b := (b : Int)) (by omega)
  exact ⟨((z.tmod b + b) % b).toNat, by rw [h2]; omega, by omega⟩
theorem txt_cat (x y : List UInt8) : txt x ++ txt y = txt (x ++ y) := by
  apply ByteArray.ext
  apply Array.toList_inj.1
  rw [ByteArray.data_append, Array.toList_append]
  rfl
theorem placed_same (A : Nat → Addr) (W : World) (h : Sent A W) (g : Nat) (pos : Int) (hg : W.heap[g]? = some (.cells #[.int .i64 pos, E A 1] 90 (0, 0))) : Calls Tryz.prog 28 #[.iface 67 (.pointer (some ⟨g, 0, none⟩)), pl 102 pos] W (tells (.bool true) W) := Same_pl A 1 g pos W (by omega) h hg
theorem limit_same (A : Nat → Addr) (W : World) (h : Sent A W) (g : Nat) (pos : Int) (hg : W.heap[g]? = some (.cells #[.int .i64 pos, E A 7] 90 (0, 0))) : Calls Tryz.prog 28 #[.iface 67 (.pointer (some ⟨g, 0, none⟩)), pl 108 pos] W (tells (.bool true) W) := Same_pl A 7 g pos W (by omega) h hg
theorem txt_size (l : List UInt8) : (txt l).size = l.length := rfl
end Go.Proofs.YthjolmjaijoogaaGreatDoor
