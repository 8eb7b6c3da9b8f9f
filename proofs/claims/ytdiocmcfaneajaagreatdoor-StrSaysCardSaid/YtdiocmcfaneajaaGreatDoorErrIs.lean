/- What smithysee.Same and Is say of api's errors and of none: is an error this one? Conditions: the errors of api lie in their variables, each a pointer of its own. -/
import Derived.Test.YtdiocmcfaneajaaGreatDoorErrTwo
namespace Go.Proofs.YtdiocmcfaneajaaGreatDoor
open Go.RowKit

/-- What smithysee.Fault tells of an error. -/
def FaultOf (A : Nat → Addr) (v : Value) (c : Int) : Prop := (v = .nilIface ∧ c = 0) ∨ (∃ m, m < 17 ∧ v = E A m ∧ c = 101 + (m : Int))
theorem Fault_of {A : Nat → Addr} {v : Value} {c : Int} (hv : FaultOf A v c) (w : World) (h : Sent A w) : Calls Tryz.prog 55 #[v] w (tells (bare c) w) := by
  rcases hv with ⟨rfl, rfl⟩ | ⟨m, hm, rfl, rfl⟩
  · exact Fault_nil w
  · exact Fault_is A m w hm h

theorem row_drew {w w' : World} {c : Int} (hb : Below (w.alloc (.cells (bareRow c) 60)).drew.heap.size (w.alloc (.cells (bareRow c) 60)).drew w') : w'.heap[w.heap.size]? = some (.cells (bareRow c) 60 (0, 0)) :=
  (hb.block _ (by show w.heap.size < (w.alloc _).heap.size; simp)).trans (alloc_new' w _)
theorem row_cells {W : World} {g : Nat} {t : TypeId} {c : Int} (h : W.heap[g]? = some (.cells (bareRow c) t (0, 0))) : W.cell? ⟨g, 0, none⟩ = some (.int .i64 c) ∧ W.cell? ⟨g, 1, none⟩ = some (.bool false) ∧ W.cell? ⟨g, 2, none⟩ = some (.int .i64 0) ∧ W.cell? ⟨g, 3, none⟩ = some (.bool false) ∧ W.cell? ⟨g, 4, none⟩ = some (.string ⟨#[]⟩) := by
  unfold World.cell?
  rw [h]
  exact ⟨rfl, rfl, rfl, rfl, rfl⟩

set_option maxRecDepth 100000 in
set_option maxHeartbeats 800000 in
theorem Same_bare {A : Nat → Addr} {v : Value} {c : Int} (d : Int) (hv : FaultOf A v c) (w : World) (h : Sent A w) : Calls Tryz.prog 37 #[v, bare d] w (tells (.bool (c == d)) w) := by
  have HF := hid' (fun W (hW : Sent A W) => Fault_of hv W hW)
  have H := hid' h
  clear h
  unfold bare
  go_enter Tryz.func37, Tryz.ntmps37
  go_wp2_with fail
  have hb0 : Below w.heap.size w (w.alloc (.cells (bareRow d) 60)) := (Below.refl _ _).alloc (Nat.le_refl _) _
  have HS := hid' (H.out.below hb0)
  have HD := hid' (H.out.below hb0.drew)
  go_region_with (first | (go_at_call 55; refine (HF.out _ HD.out).mono ?_; rintro e w1 ⟨rfl, hb1⟩; obtain ⟨c0, c1, c2, c3, c4⟩ := row_cells (row_drew hb1)) | (go_at_call 54; refine (SameFault_bare _ _ _).mono ?_; rintro e w2 ⟨rfl, hb2⟩))
  all_goals go_wp2
  all_goals go_ret
  all_goals exact ⟨rfl, hb0.drew.trans (hb1.mono (by show w.heap.size ≤ (w.alloc _).heap.size; simp)) |>.trans (hb2.mono (Nat.le_trans (by show w.heap.size ≤ (w.alloc _).heap.size; simp) hb1.size))⟩

set_option maxRecDepth 100000 in
set_option maxHeartbeats 800000 in
theorem Is_bare {A : Nat → Addr} {v : Value} {c : Int} (d : Int) (hv : FaultOf A v c) (w : World) (h : Sent A w) : Calls Tryz.prog 10 #[v, .int .i64 d] w (tells (.bool (c == d)) w) := by
  have HB := hid' (Bare_any d w)
  have HF := hid' (fun W (hW : Sent A W) => Same_bare d hv W hW)
  have H := hid' h
  clear h
  go_enter Tryz.func10, Tryz.ntmps10
  go_wp2_with fail
  refine HB.out.mono ?_
  rintro e w1 ⟨rfl, hb1⟩
  have HS := hid' (H.out.below hb1)
  go_wp2_with fail
  refine (HF.out _ HS.out).mono ?_
  rintro e w2 ⟨rfl, hb2⟩
  go_wp2
  go_ret
  exact ⟨rfl, hb1.trans (hb2.mono hb1.size)⟩

end Go.Proofs.YtdiocmcfaneajaaGreatDoor
