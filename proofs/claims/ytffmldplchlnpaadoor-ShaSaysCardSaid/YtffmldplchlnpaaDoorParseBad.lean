/- What Parse answers of a text that is no digest's: none, and ErrShape. Conditions: ErrShape lies in its variable. -/
import Derived.Test.YtffmldplchlnpaaDoorParse
import Derived.Test.YtffmldplchlnpaaDoorSame
namespace Go.Proofs.YtffmldplchlnpaaDoor
open Go.RowKit

/-- All zeros. -/
def zero32 : Array Value := bcells (List.replicate 32 0)
theorem zero32_size : zero32.size = 32 := by rw [zero32, bcells_size]; rfl
theorem zero32_one : zero32.all (·.oneCell') = true := bcells_one _ _ rfl
theorem info_sum : (Tryd.prog.info? 26).map (·.size) = some 32 := by kernel_rfl
/-- What holds within the region: all that was is as it was, the result is all zeros. -/
structure InBad (w W : World) : Prop where
  below : Below w.heap.size w W
  row : W.heap[w.heap.size]? = some (.cells zero32 26 (0, 0))
theorem InBad.drew {w W : World} (h : InBad w W) : InBad w W.drew := ⟨h.below.drew, h.row⟩
theorem InBad.store {w W : World} (h : InBad w W) : InBad w (W.setRow w.heap.size zero32) := ⟨Below.setRow' h.below (Nat.le_refl _) _, setRow_heap _ _ _ _ _ _ h.row⟩
theorem InBad.run {w W : World} (h : InBad w W) : (storeCells ⟨w.heap.size, 0, none⟩ zero32.toList).run Tryd.prog W = .ok () (W.setRow w.heap.size zero32) :=
  run_storeCells_row W w.heap.size _ 26 zero32 zero32 h.row (by rw [zero32_size]; exact info_sum) rfl zero32_one
set_option maxHeartbeats 1600000 in
theorem parse_len (s : ByteArray) (hs : s.size ≠ 64) (v : Value) (w : World) (hv : w.cell? ⟨0, 0, none⟩ = some v) :
    Calls Tryd.prog 7 #[.string s] w fun e w' => e = .returned (.tuple #[.agg zero32, v]) ∧ Below w.heap.size w w' := by
  have hlt : 0 < w.heap.size := World.block_lt_of_cell? w _ hv
  have hz : ∀ W, (zeroValue 26).run Tryd.prog W = .ok (.agg zero32) W := (zero_of_info (n := 32) (by kernel_rfl)).1
  go_enter Tryd.func7, Tryd.ntmps7
  go_wp2_with fail
  have hin : InBad w ((w.alloc (.cells zero32 26)).alloc (.cells zero32 26)) := ⟨((Below.refl _ _).alloc (Nat.le_refl _) _).alloc (by simp) _, (Below.heap_alloc _ _ _ (by simp)).trans (heap_alloc_new _ _)⟩
  change Code.wp _ _ _ _ ((w.alloc (.cells zero32 26)).alloc (.cells zero32 26))
  generalize ((w.alloc (.cells zero32 26)).alloc (.cells zero32 26)) = w2 at hin ⊢
  refine wp_region_held_drew (S := InBad w) (by kernel_rfl) hin.drew (fun hHeld => ?_)
  refine take_val (i := 0) (v := .agg zero32) rfl (by kernel_rfl) (by kernel_rfl) (by kernel_rfl) (some 10) rfl (fun _ _ _ h => h) (Or.inl ⟨by rfl, fun W hW => by go_simp⟩) hHeld ?_
  simp only [Act.put, List.setIfInBounds_toArray, List.set_cons_zero, List.set_cons_succ]
  refine take_val (i := 1) (v := v) rfl (by kernel_rfl) (by kernel_rfl) (by kernel_rfl) (some 11) rfl (fun _ _ _ h => h) (Or.inl ⟨by rfl, fun W hW => by have hc := (hW.below.cell (p := ⟨0, 0, none⟩) hlt).trans hv; go_simp⟩) hHeld ?_
  simp only [Act.put, List.setIfInBounds_toArray, List.set_cons_zero, List.set_cons_succ]
  refine wpAnyH_ready (rs := [2]) (by kernel_rfl) (by simp) ?_
  refine AllReadyH.cons rfl (fun K hK => ?_) AllReadyH.nil
  have hst := hHeld.run
  go_simp
  refine hK.out _ _ hHeld.store (fun hHeld2 => ?_)
  clear hK K
  refine take_val (i := 3) (v := v) rfl (by kernel_rfl) (by kernel_rfl) (by kernel_rfl) (some 3) rfl (fun _ _ _ h => h) (Or.inl ⟨by rfl, fun W hW => by go_simp⟩) hHeld2 ?_
  simp only [Act.put, List.setIfInBounds_toArray, List.set_cons_zero, List.set_cons_succ]
  refine wpAnyH_done (by kernel_rfl) ?_ _
  have hld := run_loadVar_row (P := Tryd.prog) (w2.drew.setRow w.heap.size zero32) w.heap.size _ 26 zero32 (0, 0) _ hHeld2.row Tryd.underlying26 rfl (by rw [zero32_size]; exact info_sum)
  go_wp2
  refine bodyPost_ret (v := .tuple #[.agg zero32, v]) ?_ rfl ⟨rfl, hHeld2.below⟩
  rw [results_cell_tmp (fn := Tryd.f7) (p := 2) (u := 3) (ty := 26) (by kernel_rfl)]
  simp [asAddr, Result.andThen, hld]

set_option maxHeartbeats 1600000 in
theorem parse_at (s : ByteArray) (hs : s.size = 64) (k : Nat) (hk : k < 64) (hnib : ∀ i, i < k → ∃ m : Nat, m ≤ 15 ∧ nibI (s.data.toList.getD i 0) = (m : Int)) (hbad : nibI (s.data.toList.getD k 0) = -1) (v : Value) (w : World) (hv : w.cell? ⟨0, 0, none⟩ = some v) :
    Calls Tryd.prog 7 #[.string s] w fun e w' => e = .returned (.tuple #[.agg zero32, v]) ∧ Below w.heap.size w w' := by
  have hltg : 0 < w.heap.size := World.block_lt_of_cell? w _ hv
  have hz : ∀ W, (zeroValue 26).run Tryd.prog W = .ok (.agg zero32) W := (zero_of_info (n := 32) (by kernel_rfl)).1
  have hix := fun t (h : t < 64) W => str_index s t (by omega) W
  obtain ⟨L, hL⟩ : ∃ L, s.data.toList = L := ⟨_, rfl⟩
  rw [hL] at hnib hix hbad
  have HIX := hidden hix
  have HNIB := hidden hnib
  have HBAD := hidden hbad
  have HV := hidden hv
  clear hnib hix hL hbad hv
  go_enter Tryd.func7, Tryd.ntmps7
  go_wp2
  have HZ := hidden hz
  clear hz
  go_loopw [14] (fun i wr => ∃ t : Nat, t ≤ k ∧ i = .int .i64 t ∧ Hid (Below (w.heap.size + 1) (w.alloc (.cells zero32 26)) wr) ∧ Hid (wr.heap[w.heap.size + 1]? = some (.cells (bcells (accP L t)) 26 (0, 0)))) (fun i _ => 64 - (intOf i).toNat)
  case atStart => exact ⟨0, Nat.zero_le _, rfl, (Below.refl _ _).alloc (by simp) _, by rw [show w.heap.size + 1 = (w.alloc (.cells _ 26)).heap.size by simp]; exact heap_alloc_new _ _⟩
  case round =>
    obtain ⟨t, ht, rfl, hb, hg⟩ := hrel
    have ht64 : t < 64 := by omega
    have hix := fun W => HIX.out t ht64 W
    by_cases hlt : t < k
    · obtain ⟨m, hm, hnm⟩ := HNIB.out t hlt
      have hal := accP_len L t
      have hcell : wr.cell? ⟨w.heap.size + 1, t / 2, none⟩ = some (bval ((accP L t).getD (t / 2) 0)) := by
        rw [cell_of_row wr (w.heap.size + 1) (t / 2) _ _ _ hg.out]
        exact bcells_get _ _ (by omega)
      have hfr := frozen_of_row wr (w.heap.size + 1) (t / 2) _ _ hg.out
      have hst : (bcells (accP L t)).setIfInBounds (t / 2) (bval (or4 ((accP L t).getD (t / 2) 0) m)) = bcells (accP L (t + 1)) := by
        rw [accP, hnm, Int.toNat_natCast, bcells, bcells, List.setIfInBounds_toArray, List.map_set]
      generalize L.getD t 0 = x at hix hnm
      generalize (accP L t).getD (t / 2) 0 = a at hcell hst
      have hor := or4_bits a m hm
      simp only [bval] at hcell
      have HST := hidden hst
      have HNM := hidden hnm
      have hib : Hid (∀ W, Calls Tryd.prog 20 #[.string ⟨#[48, 49, 50, 51, 52, 53, 54, 55, 56, 57, 97, 98, 99, 100, 101, 102]⟩, .int .u8 (x.toNat : Int)] W fun e w' => e = .returned (.int .i64 (m : Int)) ∧ w' = W) := hidden (fun W => by rw [← hnm]; exact nib_call x W)
      clear hst hnm hal
      go_wp2_with (go_at_call 20; refine (hib.out _).mono ?_; rintro e w' ⟨rfl, rfl⟩)
      have hBN := hidden (hb.out.setCell (p := ⟨w.heap.size + 1, t / 2, none⟩) (Nat.le_refl _) (.int .u8 ((or4 a m).toNat : Int)))
      have hGN : Hid ((World.setCell w' ⟨w.heap.size + 1, t / 2, none⟩ (.int .u8 ((or4 a m).toNat : Int))).heap[w.heap.size + 1]? = some (.cells (bcells (accP L (t + 1))) 26 (0, 0))) := hidden ((heap_setCell_same w' (w.heap.size + 1) (t / 2) _ _ _ hg.out).trans (by rw [← HST.out]; rfl))
      go_roundw
      case rel => exact ⟨t + 1, by omega, by go_num, hBN, hGN⟩
      case measure => simp [intOf]; omega
    · have htk : t = k := by omega
      have hnm : nibI (L.getD t 0) = -1 := by rw [htk]; exact HBAD.out
      generalize L.getD t 0 = x at hix hnm
      have hib : Hid (∀ W, Calls Tryd.prog 20 #[.string ⟨#[48, 49, 50, 51, 52, 53, 54, 55, 56, 57, 97, 98, 99, 100, 101, 102]⟩, .int .u8 (x.toNat : Int)] W fun e w' => e = .returned (.int .i64 (-1)) ∧ w' = W) := hidden (fun W => by rw [← hnm]; exact nib_call x W)
      have hin : InBad w wr := ⟨((Below.refl _ _).alloc (Nat.le_refl _) _).trans (hb.out.mono (by omega)), (hb.out.block _ (by omega)).trans (heap_alloc_new _ _)⟩
      have HIN := hidden hin
      have hz := HZ.out
      clear hnm hb hg htk hin
      go_wp2_with (go_at_call 20; refine (hib.out _).mono ?_; rintro e w' ⟨rfl, rfl⟩)
      have hin := HIN.out
      clear HIN
      generalize w' = w2 at hin ⊢
      refine wp_region_held_drew (S := InBad w) (by kernel_rfl) hin.drew (fun hHeld => ?_)
      refine take_val (i := 0) (v := .agg zero32) rfl (by kernel_rfl) (by kernel_rfl) (by kernel_rfl) (some 23) rfl (fun _ _ _ h => h) (Or.inl ⟨by rfl, fun W hW => by go_simp⟩) hHeld ?_
      simp only [Act.put, List.setIfInBounds_toArray, List.set_cons_zero, List.set_cons_succ]
      refine take_val (i := 1) (v := v) rfl (by kernel_rfl) (by kernel_rfl) (by kernel_rfl) (some 24) rfl (fun _ _ _ h => h) (Or.inl ⟨by rfl, fun W hW => by have hc := (hW.below.cell (p := ⟨0, 0, none⟩) hltg).trans HV.out; go_simp⟩) hHeld ?_
      simp only [Act.put, List.setIfInBounds_toArray, List.set_cons_zero, List.set_cons_succ]
      refine wpAnyH_ready (rs := [2]) (by kernel_rfl) (by simp) ?_
      refine AllReadyH.cons rfl (fun K hK => ?_) AllReadyH.nil
      have hst := hHeld.run
      go_simp
      refine hK.out _ _ hHeld.store (fun hHeld2 => ?_)
      clear hK K
      refine take_val (i := 3) (v := v) rfl (by kernel_rfl) (by kernel_rfl) (by kernel_rfl) (some 3) rfl (fun _ _ _ h => h) (Or.inl ⟨by rfl, fun W hW => by go_simp⟩) hHeld2 ?_
      simp only [Act.put, List.setIfInBounds_toArray, List.set_cons_zero, List.set_cons_succ]
      refine wpAnyH_done (by kernel_rfl) ?_ _
      have hld := run_loadVar_row (P := Tryd.prog) (w2.drew.setRow w.heap.size zero32) w.heap.size _ 26 zero32 (0, 0) _ hHeld2.row Tryd.underlying26 rfl (by rw [zero32_size]; exact info_sum)
      go_wp2
      refine bodyPost_ret (v := .tuple #[.agg zero32, v]) ?_ rfl ⟨rfl, hHeld2.below⟩
      rw [results_cell_tmp (fn := Tryd.f7) (p := 2) (u := 3) (ty := 26) (by kernel_rfl)]
      simp [asAddr, Result.andThen, hld]
end Go.Proofs.YtffmldplchlnpaaDoor
