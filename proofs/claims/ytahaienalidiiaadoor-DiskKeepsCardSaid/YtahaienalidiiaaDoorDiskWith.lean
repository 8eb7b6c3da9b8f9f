/- What with makes of a history. No conditions but that it counts at most four changes. -/
import Derived.Test.YtahaienalidiiaaDoorDiskOps
import Derived.Deep.WholeRow
namespace Go.Proofs.YtahaienalidiiaaDoor
open Go.RowKit Go.Maps

/-- A history with one more change. -/
def withF (s : ByteArray) (b : Bool) (k0 : Int) (t0 : ByteArray) (k1 : Int) (t1 : ByteArray) (k2 : Int) (t2 : ByteArray) (k3 : Int) (t3 : ByteArray) (n : Nat) (k : Int) (t : ByteArray) : Value := match n with
  | 0 => hV s b k t k1 t1 k2 t2 k3 t3 1
  | 1 => hV s b k0 t0 k t k2 t2 k3 t3 2
  | 2 => hV s b k0 t0 k1 t1 k t k3 t3 3
  | 3 => hV s b k0 t0 k1 t1 k2 t2 k t 4
  | n + 4 => hV s b k0 t0 k1 t1 k2 t2 k3 t3 ((n + 4 : Nat) : Int)
theorem info_hist : (Tryd.prog.info? 71).map (·.size) = some 11 := by kernel_rfl
set_option maxRecDepth 100000 in
set_option maxHeartbeats 800000 in
theorem with_0 (s : ByteArray) (b : Bool) (k0 : Int) (t0 : ByteArray) (k1 : Int) (t1 : ByteArray) (k2 : Int) (t2 : ByteArray) (k3 : Int) (t3 : ByteArray) (k : Int) (t : ByteArray) (w : World) :
    Calls Tryd.prog 47 #[hV s b k0 t0 k1 t1 k2 t2 k3 t3 0, chg k t] w fun e w' => e = .returned (hV s b k t k1 t1 k2 t2 k3 t3 1) ∧ Below w.heap.size w w' := by
  unfold hV chg
  go_enter Tryd.func47, Tryd.ntmps47
  go_wp2
  go_returns
  refine ⟨rfl, ?_⟩
  go_grown
set_option maxRecDepth 100000 in
set_option maxHeartbeats 800000 in
theorem with_1 (s : ByteArray) (b : Bool) (k0 : Int) (t0 : ByteArray) (k1 : Int) (t1 : ByteArray) (k2 : Int) (t2 : ByteArray) (k3 : Int) (t3 : ByteArray) (k : Int) (t : ByteArray) (w : World) :
    Calls Tryd.prog 47 #[hV s b k0 t0 k1 t1 k2 t2 k3 t3 1, chg k t] w fun e w' => e = .returned (hV s b k0 t0 k t k2 t2 k3 t3 2) ∧ Below w.heap.size w w' := by
  unfold hV chg
  go_enter Tryd.func47, Tryd.ntmps47
  go_wp2
  go_returns
  refine ⟨rfl, ?_⟩
  go_grown
set_option maxRecDepth 100000 in
set_option maxHeartbeats 800000 in
theorem with_2 (s : ByteArray) (b : Bool) (k0 : Int) (t0 : ByteArray) (k1 : Int) (t1 : ByteArray) (k2 : Int) (t2 : ByteArray) (k3 : Int) (t3 : ByteArray) (k : Int) (t : ByteArray) (w : World) :
    Calls Tryd.prog 47 #[hV s b k0 t0 k1 t1 k2 t2 k3 t3 2, chg k t] w fun e w' => e = .returned (hV s b k0 t0 k1 t1 k t k3 t3 3) ∧ Below w.heap.size w w' := by
  unfold hV chg
  go_enter Tryd.func47, Tryd.ntmps47
  go_wp2
  go_returns
  refine ⟨rfl, ?_⟩
  go_grown
set_option maxRecDepth 100000 in
set_option maxHeartbeats 800000 in
theorem with_3 (s : ByteArray) (b : Bool) (k0 : Int) (t0 : ByteArray) (k1 : Int) (t1 : ByteArray) (k2 : Int) (t2 : ByteArray) (k3 : Int) (t3 : ByteArray) (k : Int) (t : ByteArray) (w : World) :
    Calls Tryd.prog 47 #[hV s b k0 t0 k1 t1 k2 t2 k3 t3 3, chg k t] w fun e w' => e = .returned (hV s b k0 t0 k1 t1 k2 t2 k t 4) ∧ Below w.heap.size w w' := by
  unfold hV chg
  go_enter Tryd.func47, Tryd.ntmps47
  go_wp2
  go_returns
  refine ⟨rfl, ?_⟩
  go_grown
set_option maxRecDepth 100000 in
set_option maxHeartbeats 800000 in
theorem with_4 (s : ByteArray) (b : Bool) (k0 : Int) (t0 : ByteArray) (k1 : Int) (t1 : ByteArray) (k2 : Int) (t2 : ByteArray) (k3 : Int) (t3 : ByteArray) (k : Int) (t : ByteArray) (w : World) :
    Calls Tryd.prog 47 #[hV s b k0 t0 k1 t1 k2 t2 k3 t3 4, chg k t] w fun e w' => e = .returned (hV s b k0 t0 k1 t1 k2 t2 k3 t3 4) ∧ Below w.heap.size w w' := by
  unfold hV chg
  go_enter Tryd.func47, Tryd.ntmps47
  go_wp2
  go_returns
  refine ⟨rfl, ?_⟩
  go_grown
theorem with_any (s : ByteArray) (b : Bool) (k0 : Int) (t0 : ByteArray) (k1 : Int) (t1 : ByteArray) (k2 : Int) (t2 : ByteArray) (k3 : Int) (t3 : ByteArray) (n : Nat) (hn : n ≤ 4) (k : Int) (t : ByteArray) (w : World) :
    Calls Tryd.prog 47 #[hV s b k0 t0 k1 t1 k2 t2 k3 t3 (n : Int), chg k t] w fun e w' => e = .returned (withF s b k0 t0 k1 t1 k2 t2 k3 t3 n k t) ∧ Below w.heap.size w w' := by
  match n, hn with
  | 0, _ => exact with_0 s b k0 t0 k1 t1 k2 t2 k3 t3 k t w
  | 1, _ => exact with_1 s b k0 t0 k1 t1 k2 t2 k3 t3 k t w
  | 2, _ => exact with_2 s b k0 t0 k1 t1 k2 t2 k3 t3 k t w
  | 3, _ => exact with_3 s b k0 t0 k1 t1 k2 t2 k3 t3 k t w
  | 4, _ => exact with_4 s b k0 t0 k1 t1 k2 t2 k3 t3 k t w
end Go.Proofs.YtahaienalidiiaaDoor
