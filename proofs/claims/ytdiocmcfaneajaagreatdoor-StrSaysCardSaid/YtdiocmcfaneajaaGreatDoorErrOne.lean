/- What smithysee.sentinel, placed, Fault, Same and Is say of api's errors and of none. Conditions: the errors of api lie in their variables, each a pointer of its own. -/
import Derived.Test.YtdiocmcfaneajaaGreatDoorErr
namespace Go.Proofs.YtdiocmcfaneajaaGreatDoor
open Go.RowKit

theorem Sent.below {A : Nat → Addr} {w w' : World} (h : Sent A w) (hb : Below w.heap.size w w') : Sent A w' := by
  have hc : ∀ (p : Addr) v, w.cell? p = some v → w'.cell? p = some v := fun p v e => (hb.cell (World.block_lt_of_cell? w _ e)).trans e
  refine ⟨h.apart, fun i hi => ?_, hc _ _ h.g0, hc _ _ h.g1, hc _ _ h.g2, hc _ _ h.g3, hc _ _ h.g4, hc _ _ h.g5, hc _ _ h.g6, hc _ _ h.g7, hc _ _ h.g8, hc _ _ h.g9, hc _ _ h.g10, hc _ _ h.g11, hc _ _ h.g12, hc _ _ h.g13, hc _ _ h.g14, hc _ _ h.g15, hc _ _ h.g16⟩
  obtain ⟨c, t, e⟩ := h.block i hi
  exact ⟨c, t, (hb.block _ (Array.getElem?_eq_some_iff.1 e).1).trans e⟩
theorem allE_at (A : Nat → Addr) (i : Nat) (h : i < 17) : (allE A)[i]? = some (E A i) := by
  have h' : i = 0 ∨ i = 1 ∨ i = 2 ∨ i = 3 ∨ i = 4 ∨ i = 5 ∨ i = 6 ∨ i = 7 ∨ i = 8 ∨ i = 9 ∨ i = 10 ∨ i = 11 ∨ i = 12 ∨ i = 13 ∨ i = 14 ∨ i = 15 ∨ i = 16 := by omega
  rcases h' with rfl | rfl | rfl | rfl | rfl | rfl | rfl | rfl | rfl | rfl | rfl | rfl | rfl | rfl | rfl | rfl | rfl <;> rfl
theorem allE_cell (A : Nat → Addr) (w : World) (i : Nat) (h : i < 17) : (w.alloc (.cells (allE A) 26)).cell? ⟨w.heap.size, i, none⟩ = some (E A i) := by
  have := alloc_new' w (.cells (allE A) 26)
  unfold World.cell?
  rw [this]
  exact allE_at A i h

set_option maxRecDepth 100000 in
set_option maxHeartbeats 400000 in
theorem sentinel_is (A : Nat → Addr) (m : Nat) (w : World) (hm : m < 17) (h : Sent A w) :
    Calls Tryz.prog 90 #[E A m] w fun e w' => e = .returned (.int .i64 ((101 + m : Nat) : Int)) ∧ Below w.heap.size w w' := by
  have HS := hid' (sentinels_any A w h)
  have hb : Below w.heap.size w (w.alloc (.cells (allE A) 26)) := (Below.refl _ _).alloc (Nat.le_refl _) _
  have HA := hid' (fun k (hk : k < 17) => Alike_is A m k _ hm hk (h.below hb))
  have HC := hid' (allE_cell A w)
  have HB := hid' hb
  clear h hb
  go_enter Tryz.func90, Tryz.ntmps90
  go_wp2_with fail
  refine HS.out.mono ?_
  rintro e w1 ⟨rfl, hw⟩
  rw [← hw] at HA HC HB
  clear HS hw
  go_wp2
  go_loop [4] (fun i => ∃ k : Nat, k ≤ m ∧ i = .int .i64 k) (fun i => m + 1 - (intOf i).toNat)
  case atStart => exact ⟨0, Nat.zero_le _, rfl⟩
  case round =>
    obtain ⟨k, hk, rfl⟩ := hrel
    have hcell := HC.out k (by omega)
    have HAk := hid' (HA.out k (by omega))
    by_cases hkm : m = k
    · rw [decide_eq_true hkm] at HAk
      have Hkm := hid' hkm
      clear hkm
      go_wp2_with fail
      refine HAk.out.mono ?_
      rintro e w2 ⟨rfl, rfl⟩
      go_wp2
      go_ret
      exact ⟨by rw [Hkm.out]; rfl, HB.out⟩
    · rw [decide_eq_false hkm] at HAk
      have Hkm := hid' hkm
      clear hkm
      go_wp2_with fail
      refine HAk.out.mono ?_
      rintro e w2 ⟨rfl, rfl⟩
      go_wp2
      go_round
      case rel => exact ⟨k + 1, by have := Hkm.out; omega, by go_num⟩
      case measure => have := Hkm.out; simp [intOf]; omega

/-- A fault with nothing around it. -/
def bare (c : Int) : Value := .agg #[.int .i64 c, .bool false, .int .i64 0, .bool false, .string ⟨#[]⟩]
def tells (v : Value) (w : World) (e : Ending) (w' : World) : Prop := e = .returned v ∧ Below w.heap.size w w'

set_option maxHeartbeats 400000 in
theorem Bare_any (c : Int) (w : World) : Calls Tryz.prog 38 #[.int .i64 c] w (tells (bare c) w) := by
  go_enter Tryz.func38, Tryz.ntmps38
  go_wp2
  go_returns
  refine ⟨rfl, ?_⟩
  go_grown
set_option maxHeartbeats 400000 in
theorem None_any (w : World) : Calls Tryz.prog 72 #[] w (tells (bare 0) w) := by
  go_enter Tryz.func72, Tryz.ntmps72
  go_wp2
  go_returns
  refine ⟨rfl, ?_⟩
  go_grown

end Go.Proofs.YtdiocmcfaneajaaGreatDoor
