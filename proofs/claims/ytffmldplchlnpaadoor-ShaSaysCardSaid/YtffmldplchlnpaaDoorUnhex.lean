/- What the reference's unhex and Digest answer: as Parse does, the digest or none. No conditions. -/
import Derived.Test.YtffmldplchlnpaaDoorParseBad
namespace Go.Proofs.YtffmldplchlnpaaDoor
open Go.RowKit

theorem info_arr : (Tryd.prog.info? 25).map (·.size) = some 32 := by kernel_rfl
theorem nib_cases_all : ∀ n : Fin 256, (nibI (UInt8.ofNat n.1) = -1 ∧ (n.1 < 48 ∨ (57 < n.1 ∧ n.1 < 97) ∨ 102 < n.1)) ∨ (48 ≤ n.1 ∧ n.1 ≤ 57 ∧ nibI (UInt8.ofNat n.1) = (n.1 : Int) - 48) ∨ (97 ≤ n.1 ∧ n.1 ≤ 102 ∧ nibI (UInt8.ofNat n.1) = (n.1 : Int) - 97 + 10) := by decide +kernel
theorem nib_cases (x : UInt8) : (nibI x = -1 ∧ (x.toNat < 48 ∨ (57 < x.toNat ∧ x.toNat < 97) ∨ 102 < x.toNat)) ∨ (48 ≤ x.toNat ∧ x.toNat ≤ 57 ∧ nibI x = (x.toNat : Int) - 48) ∨ (97 ≤ x.toNat ∧ x.toNat ≤ 102 ∧ nibI x = (x.toNat : Int) - 97 + 10) := by
  have := nib_cases_all ⟨x.toNat, x.toNat_lt⟩
  simpa using this
theorem zero_arr : ∀ W, (zeroValue 25).run Tryd.prog W = .ok (.agg zero32) W := (zero_of_info (n := 32) (by kernel_rfl)).1

set_option maxHeartbeats 1600000 in
theorem unhex_len (s : ByteArray) (hs : s.size ≠ 64) (w : World) :
    Calls Tryd.prog 21 #[.string s] w fun e w' => e = .returned (.tuple #[.agg zero32, .bool false]) ∧ Below w.heap.size w w' := by
  have hz := zero_arr
  have hb : Below w.heap.size w ((w.alloc (.cells zero32 25)).alloc (.cells zero32 25)) := ((Below.refl _ _).alloc (Nat.le_refl _) _).alloc (by simp) _
  have hr0 : ((w.alloc (.cells zero32 25)).alloc (.cells zero32 25)).heap[w.heap.size]? = some (.cells zero32 25 (0, 0)) := (Below.heap_alloc _ _ _ (by simp)).trans (heap_alloc_new _ _)
  have hr1 : ((w.alloc (.cells zero32 25)).alloc (.cells zero32 25)).heap[w.heap.size + 1]? = some (.cells zero32 25 (0, 0)) := by
    rw [show w.heap.size + 1 = (w.alloc (.cells zero32 25)).heap.size by simp]
    exact heap_alloc_new _ _
  have HB := hidden hb
  have HR0 := hidden hr0
  have HR1 := hidden hr1
  clear hb hr0 hr1
  go_enter Tryd.func21, Tryd.ntmps21
  go_wp2_with (first | (with_reducible refine wpList_load_row rfl 25 _ rfl (w.heap.size + 1) rfl _ zero32 (0, 0) _ HR1.out Tryd.underlying25 rfl (by rw [zero32_size]; exact info_arr) ?_) | (with_reducible refine wpList_store_rowTo rfl 25 _ _ rfl rfl w.heap.size zero32 rfl rfl _ zero32 HR0.out (by rw [zero32_size]; exact info_arr) (by omega) zero32_one ?_))
  have hld := run_loadVar_row (P := Tryd.prog) (((w.alloc (.cells zero32 25)).alloc (.cells zero32 25)).setRow w.heap.size zero32) w.heap.size _ 25 zero32 (0, 0) _ (setRow_heap _ _ _ _ _ _ HR0.out) Tryd.underlying25 rfl (by rw [zero32_size]; exact info_arr)
  refine bodyPost_ret (v := .tuple #[.agg zero32, .bool false]) ?_ rfl ⟨rfl, Below.setRow' HB.out (Nat.le_refl _) _⟩
  rw [results_cell_tmp (fn := Tryd.f21) (p := 2) (u := 3) (ty := 25) (by kernel_rfl)]
  simp [asAddr, Result.andThen, hld]

set_option maxHeartbeats 1600000 in
theorem unhex_ok (s : ByteArray) (hs : s.size = 64) (hnib : ∀ i, i < 64 → ∃ m : Nat, m ≤ 15 ∧ nibI (s.data.toList.getD i 0) = (m : Int)) (w : World) :
    Calls Tryd.prog 21 #[.string s] w fun e w' => e = .returned (.tuple #[.agg (bcells (accP s.data.toList 64)), .bool true]) ∧ Below w.heap.size w w' := by
  have hz := zero_arr
  have hix := fun t (h : t < 64) W => str_index s t (by omega) W
  obtain ⟨L, hL⟩ : ∃ L, s.data.toList = L := ⟨_, rfl⟩
  rw [hL] at hnib hix ⊢
  have HIX := hidden hix
  have HNIB := hidden hnib
  clear hnib hix hL
  go_enter Tryd.func21, Tryd.ntmps21
  go_wp2
  have HZ := hidden hz
  clear hz
  go_loopw [5] (fun i wr => ∃ t : Nat, t ≤ 64 ∧ i = .int .i64 t ∧ Hid (Below (w.heap.size + 1) (w.alloc (.cells zero32 25)) wr) ∧ Hid (wr.heap[w.heap.size + 1]? = some (.cells (bcells (accP L t)) 25 (0, 0)))) (fun i _ => 64 - (intOf i).toNat)
  case atStart => exact ⟨0, Nat.zero_le _, rfl, (Below.refl _ _).alloc (by simp) _, by rw [show w.heap.size + 1 = (w.alloc (.cells _ 25)).heap.size by simp]; exact heap_alloc_new _ _⟩
  case round =>
    obtain ⟨t, ht, rfl, hb, hg⟩ := hrel
    by_cases hlt : t < 64
    · have ht64 : t < 64 := by omega
      have hix := fun W => HIX.out t ht64 W
      obtain ⟨m, hm, hnm⟩ := HNIB.out t hlt
      have hal := accP_len L t
      have hcell : wr.cell? ⟨w.heap.size + 1, t / 2, none⟩ = some (bval ((accP L t).getD (t / 2) 0)) := by
        rw [cell_of_row wr (w.heap.size + 1) (t / 2) _ _ _ hg.out]
        exact bcells_get _ _ (by omega)
      have hfr := frozen_of_row wr (w.heap.size + 1) (t / 2) _ _ hg.out
      have hst : (bcells (accP L t)).setIfInBounds (t / 2) (bval (or4 ((accP L t).getD (t / 2) 0) m)) = bcells (accP L (t + 1)) := by
        rw [accP, hnm, Int.toNat_natCast, bcells, bcells, List.setIfInBounds_toArray, List.map_set]
      generalize L.getD t 0 = x at hix hnm
      generalize (accP L t).getD (t / 2) 0 = a at hcell hst
      have hor := or4_bits a m hm
      simp only [bval] at hcell
      have HST := hidden hst
      have hxl := x.toNat_lt
      have hBN := hidden (hb.out.setCell (p := ⟨w.heap.size + 1, t / 2, none⟩) (Nat.le_refl _) (.int .u8 ((or4 a m).toNat : Int)))
      have hGN : Hid ((World.setCell wr ⟨w.heap.size + 1, t / 2, none⟩ (.int .u8 ((or4 a m).toNat : Int))).heap[w.heap.size + 1]? = some (.cells (bcells (accP L (t + 1))) 25 (0, 0))) := hidden ((heap_setCell_same wr (w.heap.size + 1) (t / 2) _ _ _ hg.out).trans (by rw [← HST.out]; rfl))
      clear hst hal
      rcases nib_cases x with ⟨h1, _⟩ | ⟨h1, h2, h3⟩ | ⟨h1, h2, h3⟩
      · omega
      · have hd : (x.toNat : Int) - 48 = (m : Int) := by omega
        clear hnm h3
        go_wp2
        go_roundw
        case rel => exact ⟨t + 1, by omega, by go_num, hBN, hGN⟩
        case measure => simp [intOf]; omega
      · have hd : (x.toNat : Int) - 97 + 10 = (m : Int) := by omega
        clear hnm h3
        go_wp2
        go_roundw
        case rel => exact ⟨t + 1, by omega, by go_num, hBN, hGN⟩
        case measure => simp [intOf]; omega
    · have h64 : Hid (t = 64) := hidden (by omega)
      have hcs' : (bcells (accP L t)).size = 32 := by rw [bcells_size, accP_len]
      have hres : wr.heap[w.heap.size]? = some (.cells zero32 25 (0, 0)) := (hb.out.block _ (by omega)).trans (heap_alloc_new _ _)
      have hone := bcells_one (accP L t) _ rfl
      have hE : Hid (bcells (accP L t) = bcells (accP L 64)) := hidden (by rw [h64.out])
      have hbl : Below w.heap.size w wr := ((Below.refl _ _).alloc (Nat.le_refl _) _).trans (hb.out.mono (by omega))
      have HBL := hidden hbl
      generalize bcells (accP L t) = cg at hg hcs' hone hE
      clear hbl
      go_wp2_with (first | (with_reducible refine wpList_load_row rfl 25 _ rfl (w.heap.size + 1) rfl _ cg (0, 0) _ hg.out Tryd.underlying25 rfl (by rw [hcs']; exact info_arr) ?_) | (with_reducible refine wpList_store_rowTo rfl 25 _ _ rfl rfl w.heap.size cg rfl rfl _ zero32 hres (by rw [hcs']; exact info_arr) (by rw [zero32_size, hcs']) hone ?_))
      have hld := run_loadVar_row (P := Tryd.prog) (wr.setRow w.heap.size cg) w.heap.size _ 25 cg (0, 0) _ (setRow_heap _ _ _ _ _ _ hres) Tryd.underlying25 rfl (by rw [hcs']; exact info_arr)
      refine bodyPost_ret (v := .tuple #[.agg cg, .bool true]) ?_ rfl ⟨by rw [hE.out], Below.setRow' HBL.out (Nat.le_refl _) _⟩
      rw [results_cell_tmp (fn := Tryd.f21) (p := 2) (u := 3) (ty := 25) (by kernel_rfl)]
      simp [asAddr, Result.andThen, hld]

set_option maxHeartbeats 1600000 in
theorem unhex_at (s : ByteArray) (hs : s.size = 64) (k : Nat) (hk : k < 64) (hnib : ∀ i, i < k → ∃ m : Nat, m ≤ 15 ∧ nibI (s.data.toList.getD i 0) = (m : Int)) (hbad : nibI (s.data.toList.getD k 0) = -1) (w : World) :
    Calls Tryd.prog 21 #[.string s] w fun e w' => e = .returned (.tuple #[.agg zero32, .bool false]) ∧ Below w.heap.size w w' := by
  have hz := zero_arr
  have hix := fun t (h : t < 64) W => str_index s t (by omega) W
  obtain ⟨L, hL⟩ : ∃ L, s.data.toList = L := ⟨_, rfl⟩
  rw [hL] at hnib hix hbad
  have HIX := hidden hix
  have HNIB := hidden hnib
  have HBAD := hidden hbad
  clear hbad
  clear hnib hix hL
  go_enter Tryd.func21, Tryd.ntmps21
  go_wp2
  have HZ := hidden hz
  clear hz
  go_loopw [5] (fun i wr => ∃ t : Nat, t ≤ k ∧ i = .int .i64 t ∧ Hid (Below (w.heap.size + 1) (w.alloc (.cells zero32 25)) wr) ∧ Hid (wr.heap[w.heap.size + 1]? = some (.cells (bcells (accP L t)) 25 (0, 0)))) (fun i _ => 64 - (intOf i).toNat)
  case atStart => exact ⟨0, Nat.zero_le _, rfl, (Below.refl _ _).alloc (by simp) _, by rw [show w.heap.size + 1 = (w.alloc (.cells _ 25)).heap.size by simp]; exact heap_alloc_new _ _⟩
  case round =>
    obtain ⟨t, ht, rfl, hb, hg⟩ := hrel
    by_cases hlt : t < k
    · have ht64 : t < 64 := by omega
      have hix := fun W => HIX.out t ht64 W
      obtain ⟨m, hm, hnm⟩ := HNIB.out t hlt
      have hal := accP_len L t
      have hcell : wr.cell? ⟨w.heap.size + 1, t / 2, none⟩ = some (bval ((accP L t).getD (t / 2) 0)) := by
        rw [cell_of_row wr (w.heap.size + 1) (t / 2) _ _ _ hg.out]
        exact bcells_get _ _ (by omega)
      have hfr := frozen_of_row wr (w.heap.size + 1) (t / 2) _ _ hg.out
      have hst : (bcells (accP L t)).setIfInBounds (t / 2) (bval (or4 ((accP L t).getD (t / 2) 0) m)) = bcells (accP L (t + 1)) := by
        rw [accP, hnm, Int.toNat_natCast, bcells, bcells, List.setIfInBounds_toArray, List.map_set]
      generalize L.getD t 0 = x at hix hnm
      generalize (accP L t).getD (t / 2) 0 = a at hcell hst
      have hor := or4_bits a m hm
      simp only [bval] at hcell
      have HST := hidden hst
      have hxl := x.toNat_lt
      have hBN := hidden (hb.out.setCell (p := ⟨w.heap.size + 1, t / 2, none⟩) (Nat.le_refl _) (.int .u8 ((or4 a m).toNat : Int)))
      have hGN : Hid ((World.setCell wr ⟨w.heap.size + 1, t / 2, none⟩ (.int .u8 ((or4 a m).toNat : Int))).heap[w.heap.size + 1]? = some (.cells (bcells (accP L (t + 1))) 25 (0, 0))) := hidden ((heap_setCell_same wr (w.heap.size + 1) (t / 2) _ _ _ hg.out).trans (by rw [← HST.out]; rfl))
      clear hst hal
      rcases nib_cases x with ⟨h1, _⟩ | ⟨h1, h2, h3⟩ | ⟨h1, h2, h3⟩
      · omega
      · have hd : (x.toNat : Int) - 48 = (m : Int) := by omega
        clear hnm h3
        go_wp2
        go_roundw
        case rel => exact ⟨t + 1, by omega, by go_num, hBN, hGN⟩
        case measure => simp [intOf]; omega
      · have hd : (x.toNat : Int) - 97 + 10 = (m : Int) := by omega
        clear hnm h3
        go_wp2
        go_roundw
        case rel => exact ⟨t + 1, by omega, by go_num, hBN, hGN⟩
        case measure => simp [intOf]; omega
    · have hix := fun W => HIX.out t (by omega) W
      have hnm : nibI (L.getD t 0) = -1 := by rw [show t = k by omega]; exact HBAD.out
      have hres : wr.heap[w.heap.size]? = some (.cells zero32 25 (0, 0)) := (hb.out.block _ (by omega)).trans (heap_alloc_new _ _)
      have hbl : Below w.heap.size w wr := ((Below.refl _ _).alloc (Nat.le_refl _) _).trans (hb.out.mono (by omega))
      have HBL := hidden hbl
      have hz := HZ.out
      have ht64 : t < 64 := by omega
      generalize L.getD t 0 = x at hix hnm
      have hxl := x.toNat_lt
      rcases nib_cases x with ⟨_, h | ⟨h, h'⟩ | h⟩ | ⟨h1, h2, h3⟩ | ⟨h1, h2, h3⟩
      · clear hnm hbl hb hg
        go_wp2_with (first | (with_reducible refine wpList_store_rowTo rfl 25 _ _ rfl rfl w.heap.size zero32 rfl rfl _ zero32 hres (by rw [zero32_size]; exact info_arr) rfl zero32_one ?_))
        have hld := run_loadVar_row (P := Tryd.prog) (wr.setRow w.heap.size zero32) w.heap.size _ 25 zero32 (0, 0) _ (setRow_heap _ _ _ _ _ _ hres) Tryd.underlying25 rfl (by rw [zero32_size]; exact info_arr)
        refine bodyPost_ret (v := .tuple #[.agg zero32, .bool false]) ?_ rfl ⟨rfl, Below.setRow' HBL.out (Nat.le_refl _) _⟩
        rw [results_cell_tmp (fn := Tryd.f21) (p := 2) (u := 3) (ty := 25) (by kernel_rfl)]
        simp [asAddr, Result.andThen, hld]
      · clear hnm hbl hb hg
        go_wp2_with (first | (with_reducible refine wpList_store_rowTo rfl 25 _ _ rfl rfl w.heap.size zero32 rfl rfl _ zero32 hres (by rw [zero32_size]; exact info_arr) rfl zero32_one ?_))
        have hld := run_loadVar_row (P := Tryd.prog) (wr.setRow w.heap.size zero32) w.heap.size _ 25 zero32 (0, 0) _ (setRow_heap _ _ _ _ _ _ hres) Tryd.underlying25 rfl (by rw [zero32_size]; exact info_arr)
        refine bodyPost_ret (v := .tuple #[.agg zero32, .bool false]) ?_ rfl ⟨rfl, Below.setRow' HBL.out (Nat.le_refl _) _⟩
        rw [results_cell_tmp (fn := Tryd.f21) (p := 2) (u := 3) (ty := 25) (by kernel_rfl)]
        simp [asAddr, Result.andThen, hld]
      · clear hnm hbl hb hg
        go_wp2_with (first | (with_reducible refine wpList_store_rowTo rfl 25 _ _ rfl rfl w.heap.size zero32 rfl rfl _ zero32 hres (by rw [zero32_size]; exact info_arr) rfl zero32_one ?_))
        have hld := run_loadVar_row (P := Tryd.prog) (wr.setRow w.heap.size zero32) w.heap.size _ 25 zero32 (0, 0) _ (setRow_heap _ _ _ _ _ _ hres) Tryd.underlying25 rfl (by rw [zero32_size]; exact info_arr)
        refine bodyPost_ret (v := .tuple #[.agg zero32, .bool false]) ?_ rfl ⟨rfl, Below.setRow' HBL.out (Nat.le_refl _) _⟩
        rw [results_cell_tmp (fn := Tryd.f21) (p := 2) (u := 3) (ty := 25) (by kernel_rfl)]
        simp [asAddr, Result.andThen, hld]
      · omega
      · omega
end Go.Proofs.YtffmldplchlnpaaDoor
