/- What New makes of no file. No conditions. -/
import Derived.Test.YtahaienalidiiaaDoorDiskCalls
import Derived.Carry
namespace Go.Proofs.YtahaienalidiiaaDoor
open Go.RowKit Go.Maps

/-- The world of a new disk. -/
def newW (W : World) : World := ((W.alloc (.map #[] 0)).alloc (.map #[] 0)).alloc (.cells (diskCells W.heap.size (W.heap.size + 1) 0 0 false) 57)
theorem newW_below (W : World) : Below W.heap.size W (newW W) := (((Below.refl _ _).alloc (Nat.le_refl _) _).alloc (by simp) _).alloc (by simp; omega) _
theorem newW_at (W : World) : DiskAt (newW W) W.heap.size (W.heap.size + 1 + 1) W.heap.size (W.heap.size + 1) 0 0 (fun _ => none) (fun _ => none) 0 0 false := by
  obtain ⟨d1, hd1⟩ := rd_cont ⟨#[]⟩ false
  obtain ⟨d2, hd2⟩ := rd_hist ⟨#[]⟩ false 0 ⟨#[]⟩ 0 ⟨#[]⟩ 0 ⟨#[]⟩ 0 ⟨#[]⟩ 0
  refine ⟨?_, ?_, ?_, ⟨by omega, by omega, by omega⟩, ⟨by omega, by omega, by omega⟩⟩
  · have h := heap_alloc_new ((W.alloc (.map #[] 0)).alloc (.map #[] 0)) (.cells (diskCells W.heap.size (W.heap.size + 1) 0 0 false) 57)
    simpa [newW] using h
  · refine (MapAt.made W cont0 hd1).of_eq ?_
    rw [newW, Below.heap_alloc _ _ _ (by simp; omega), Below.heap_alloc _ _ _ (by simp)]
  · have h := MapAt.made (W.alloc (.map #[] 0)) hist0 hd2
    rw [World.size_alloc] at h
    refine h.of_eq ?_
    rw [newW, Below.heap_alloc _ _ _ (by simp)]

set_option maxHeartbeats 800000 in
theorem new_none (W : World) :
    Calls Tryd.prog 7 #[.slice none 0 0] W fun e w' => e = .returned (.tuple #[.pointer (some ⟨W.heap.size + 1 + 1, 0, none⟩), .nilIface]) ∧ DiskAt w' W.heap.size (W.heap.size + 1 + 1) W.heap.size (W.heap.size + 1) 0 0 (fun _ => none) (fun _ => none) 0 0 false ∧ Below W.heap.size W w' := by
  have hm1 := fun W => run_makeMap (P := Tryd.prog) 54 W
  have hm2 := fun W => run_makeMap (P := Tryd.prog) 55 W
  have D0 := newW_at W
  obtain ⟨m2, hm2', hlen⟩ := D0.files.len Tryd.underlying54
  have hm0 : m2 = 0 := by omega
  subst hm0
  obtain ⟨c0, c1, c2, c3, c4⟩ := D0.cells
  have HD := hid' D0
  have HB := hid' (newW_below W)
  clear D0
  unfold newW diskCells at *
  go_enter Tryd.func7, Tryd.ntmps7
  go_wp2
  go_loopw [13] (fun i wr => i = .int .i64 0 ∧ wr = (((W.alloc (.map #[] 0)).alloc (.map #[] 0)).alloc (.cells #[.map (some W.heap.size), .map (some (W.heap.size + 1)), .int .i64 0, .int .i64 0, .bool false] 57))) (fun _ _ => 0)
  case atStart => exact ⟨rfl, rfl⟩
  case round =>
    obtain ⟨rfl, rfl⟩ := hrel
    go_wp2
    go_returns
    exact ⟨rfl, HD.out, HB.out⟩

set_option maxRecDepth 100000 in
set_option maxHeartbeats 1600000 in
theorem new_one (W : World) (bk : Nat) (p t : ByteArray) (h0 : W.cell? ⟨bk, 0, none⟩ = some (.string p)) (h1 : W.cell? ⟨bk, 1, none⟩ = some (.string t)) (hp : p.size ≤ 1000) (ht : t.size ≤ 65536) (hv : Pth.splitOK Pth.partOK p.data.toList = true) (m : Int) (hm : W.cell? ⟨3, 0, none⟩ = some (.int .i64 m)) :
    Calls Tryd.prog 7 #[.slice (some ⟨bk, 0, none⟩) 1 1] W fun e w' => e = .returned (.tuple #[.pointer (some ⟨W.heap.size + 1 + 1, 0, none⟩), .nilIface]) ∧ DiskAt w' W.heap.size (W.heap.size + 1 + 1) W.heap.size (W.heap.size + 1) 1 0 (putF (fun _ => none) p (cont t true)) (fun _ => none) 0 0 false ∧ Below W.heap.size W w' := by
  have hm1 := fun W => run_makeMap (P := Tryd.prog) 54 W
  have hm2 := fun W => run_makeMap (P := Tryd.prog) 55 W
  have D0 := newW_at W
  have hb0 := newW_below W
  have hz0 : (newW W).heap.size = W.heap.size + 1 + 1 + 1 := by simp [newW]
  have HD := hid' D0
  have HB := hid' hb0
  have H0 := hid' h0
  have H1 := hid' h1
  have HM := hid' hm
  have hbk := World.block_lt_of_cell? W _ h0
  have hwm := World.block_lt_of_cell? W _ hm
  have HV := hid' hv
  clear D0 hb0 h0 h1 hm hv
  obtain ⟨w0, hw0⟩ : ∃ w0, newW W = w0 := ⟨_, rfl⟩
  rw [hw0] at HD HB hz0
  have HW0 := hid' hw0
  clear hw0
  go_enter Tryd.func7, Tryd.ntmps7
  go_wp2
  have e0 := HW0.out
  unfold newW diskCells at e0
  rw [e0]
  clear e0
  go_loopw [13] (fun i wr => ∃ n : Nat, i = .int .i64 n ∧ ((n = 0 ∧ wr = w0) ∨ (n = 1 ∧ Hid (DiskAt wr W.heap.size (W.heap.size + 1 + 1) W.heap.size (W.heap.size + 1) 1 0 (putF (fun _ => none) p (cont t true)) (fun _ => none) 0 0 false) ∧ Hid (Below W.heap.size W wr)))) (fun i _ => 1 - (intOf i).toNat)
  case atStart => exact ⟨0, rfl, .inl ⟨rfl, rfl⟩⟩
  case round =>
    obtain ⟨n, rfl, ⟨rfl, rfl⟩ | ⟨rfl, hD, hB⟩⟩ := hrel
    · have q0 : wr.cell? ⟨bk, 0, none⟩ = some (.string p) := (HB.out.cell (p := ⟨bk, 0, none⟩) hbk).trans H0.out
      have q1 : wr.cell? ⟨bk, 1, none⟩ = some (.string t) := (HB.out.cell (p := ⟨bk, 1, none⟩) hbk).trans H1.out
      have D1 := HD.out.alloc (.cells #[.string p, .string t] 52)
      have hm2 := (((Below.refl wr.heap.size wr).alloc (Nat.le_refl _) (.cells #[.string p, .string t] 52)).cell (p := ⟨3, 0, none⟩) (by simp only; omega)).trans ((HB.out.cell (p := ⟨3, 0, none⟩) hwm).trans HM.out)
      have hVv := fun W' (hW : Below (wr.alloc (.cells #[.string p, .string t] 52)).heap.size (wr.alloc (.cells #[.string p, .string t] 52)) W') => (valid_below p m W' (by omega) ((hW.cell (p := ⟨3, 0, none⟩) (by rw [World.size_alloc]; simp only; omega)).trans hm2))
      rw [HV.out] at hVv
      have HVV := hid' hVv
      clear hVv
      go_wp2_with fail
      have HR6 : Hid ((wr.alloc (.cells #[.string p, .string t] 52)).heap[wr.heap.size]? = some (.cells #[.string p, .string t] 52 (0, 0))) := hid' (heap_alloc_new _ _)
      have hl6 : wr.heap.size < (wr.alloc (.cells #[.string p, .string t] 52)).heap.size := by simp
      have HD1 := hid' D1
      have HB1 := hid' (HB.out.alloc (by omega) (.cells #[.string p, .string t] 52))
      have hgt : ¬ (65536 < (t.size : Int)) := by omega
      clear D1 hm2 q0 q1 hm1
      rw [hz0] at HR6 hl6
      obtain ⟨g6, hg6⟩ : ∃ g, W.heap.size + 1 + 1 + 1 = g := ⟨_, rfl⟩
      rw [hg6] at HR6 hl6 ⊢
      generalize wr.alloc (.cells #[.string p, .string t] 52) = w1 at HR6 hl6 HD1 HB1 HVV ⊢
      refine wp_region_held_drew (S := fun W2 => Below w1.heap.size w1 W2) (by kernel_rfl) (Below.refl _ _).drew (fun hHeld => ?_)
      refine take_val' (i := 0) (v := .pointer (some ⟨g6, 0, none⟩)) rfl (by kernel_rfl) (by kernel_rfl) (by kernel_rfl) (some 17) rfl (fun _ _ _ h => h) (Or.inl ⟨by rfl, fun W2 hW => by go_simp⟩) hHeld ?_
      simp only [Act.put, List.setIfInBounds_toArray, List.set_cons_zero, List.set_cons_succ]
      refine take_val' (i := 1) (v := .string p) rfl (by kernel_rfl) (by kernel_rfl) (by kernel_rfl) (some 18) rfl (fun _ _ _ h => h) (Or.inl ⟨by rfl, fun W2 hW => by have q := cell_of_row W2 g6 0 _ _ _ ((hW.block g6 hl6).trans HR6.out); go_simp⟩) hHeld ?_
      simp only [Act.put, List.setIfInBounds_toArray, List.set_cons_zero, List.set_cons_succ]
      refine wpAnyH_ready (rs := [2]) (by kernel_rfl) (by simp) ?_
      refine AllReadyH.cons rfl (fun K hK => ?_) AllReadyH.nil
      go_simp
      refine (HVV.out _ (Below.refl _ _).drew).mono ?_
      rintro e w2 ⟨rfl, hb2⟩
      have hG : Below w1.heap.size w1 w2 := (Below.refl _ _).drew.trans (hb2.mono (Nat.le_refl _))
      refine hK.out _ _ hG (fun hHeld => ?_)
      clear hK K
      refine take_val' (i := 3) (v := .bool false) rfl (by kernel_rfl) (by kernel_rfl) (by kernel_rfl) (some 20) rfl (fun _ _ _ h => h) (Or.inl ⟨by rfl, fun W2 hW => by go_simp⟩) hHeld ?_
      simp only [Act.put, List.setIfInBounds_toArray, List.set_cons_zero, List.set_cons_succ]
      refine take_val' (i := 4) (v := .bool false) rfl (by kernel_rfl) (by kernel_rfl) (by kernel_rfl) (some 21) rfl (fun _ _ _ h => h) (Or.inl ⟨by rfl, fun W2 hW => by go_simp⟩) hHeld ?_
      simp only [Act.put, List.setIfInBounds_toArray, List.set_cons_zero, List.set_cons_succ]
      refine take_val' (i := 5) (v := .pointer (some ⟨W.heap.size + 1 + 1, 0, none⟩)) rfl (by kernel_rfl) (by kernel_rfl) (by kernel_rfl) (some 22) rfl (fun _ _ _ h => h) (Or.inl ⟨by rfl, fun W2 hW => by go_simp⟩) hHeld ?_
      simp only [Act.put, List.setIfInBounds_toArray, List.set_cons_zero, List.set_cons_succ]
      refine take_val' (i := 6) (v := .pointer (some ⟨W.heap.size + 1 + 1, 0, none⟩)) rfl (by kernel_rfl) (by kernel_rfl) (by kernel_rfl) (some 23) rfl (fun _ _ _ h => h) (Or.inl ⟨by rfl, fun W2 hW => by go_simp⟩) hHeld ?_
      simp only [Act.put, List.setIfInBounds_toArray, List.set_cons_zero, List.set_cons_succ]
      refine take_val' (i := 7) (v := .pointer (some ⟨W.heap.size + 1 + 1, 0, none⟩)) rfl (by kernel_rfl) (by kernel_rfl) (by kernel_rfl) (some 24) rfl (fun _ _ _ h => h) (Or.inl ⟨by rfl, fun W2 hW => by go_simp⟩) hHeld ?_
      simp only [Act.put, List.setIfInBounds_toArray, List.set_cons_zero, List.set_cons_succ]
      refine take_val' (i := 8) (v := .map (some W.heap.size)) rfl (by kernel_rfl) (by kernel_rfl) (by kernel_rfl) (some 25) rfl (fun _ _ _ h => h) (Or.inl ⟨by rfl, fun W2 hW => by have hD := HD1.out.below hW; obtain ⟨c0, _⟩ := hD.cells; go_simp⟩) hHeld ?_
      simp only [Act.put, List.setIfInBounds_toArray, List.set_cons_zero, List.set_cons_succ]
      refine take_val' (i := 9) (v := .pointer (some ⟨g6, 0, none⟩)) rfl (by kernel_rfl) (by kernel_rfl) (by kernel_rfl) (some 26) rfl (fun _ _ _ h => h) (Or.inl ⟨by rfl, fun W2 hW => by go_simp⟩) hHeld ?_
      simp only [Act.put, List.setIfInBounds_toArray, List.set_cons_zero, List.set_cons_succ]
      refine take_val' (i := 10) (v := .string p) rfl (by kernel_rfl) (by kernel_rfl) (by kernel_rfl) (some 27) rfl (fun _ _ _ h => h) (Or.inl ⟨by rfl, fun W2 hW => by have q := cell_of_row W2 g6 0 _ _ _ ((hW.block g6 hl6).trans HR6.out); go_simp⟩) hHeld ?_
      simp only [Act.put, List.setIfInBounds_toArray, List.set_cons_zero, List.set_cons_succ]
      refine take_val' (i := 11) (v := .agg #[.string ⟨#[]⟩, .bool false]) rfl (by kernel_rfl) (by kernel_rfl) (by kernel_rfl) (some 28) rfl (fun _ _ _ h => h) (Or.inl ⟨by rfl, fun W2 hW => by have hD := HD1.out.below hW; have hlk := hD.files.look Tryd.underlying54 (zero_cont _) p (by unfold maxLen; omega); simp only [Option.getD_none, cont0, cont] at hlk; go_simp⟩) hHeld ?_
      simp only [Act.put, List.setIfInBounds_toArray, List.set_cons_zero, List.set_cons_succ]
      refine take_val' (i := 12) (v := .bool false) rfl (by kernel_rfl) (by kernel_rfl) (by kernel_rfl) (some 29) rfl (fun _ _ _ h => h) (Or.inl ⟨by rfl, fun W2 hW => by have hfl : (Instr.field 60 (.agg #[.string ⟨#[]⟩, .bool false]) 1).run Tryd.prog W2 = .ok (.bool false) W2 := (by kernel_rfl); go_simp⟩) hHeld ?_
      simp only [Act.put, List.setIfInBounds_toArray, List.set_cons_zero, List.set_cons_succ]
      refine take_val' (i := 13) (v := .bool false) rfl (by kernel_rfl) (by kernel_rfl) (by kernel_rfl) (some 30) rfl (fun _ _ _ h => h) (Or.inl ⟨by rfl, fun W2 hW => by go_simp⟩) hHeld ?_
      simp only [Act.put, List.setIfInBounds_toArray, List.set_cons_zero, List.set_cons_succ]
      refine take_val' (i := 14) (v := .bool false) rfl (by kernel_rfl) (by kernel_rfl) (by kernel_rfl) (some 31) rfl (fun _ _ _ h => h) (Or.inl ⟨by rfl, fun W2 hW => by go_simp⟩) hHeld ?_
      simp only [Act.put, List.setIfInBounds_toArray, List.set_cons_zero, List.set_cons_succ]
      refine take_val' (i := 15) (v := .pointer (some ⟨g6, 1, none⟩)) rfl (by kernel_rfl) (by kernel_rfl) (by kernel_rfl) (some 32) rfl (fun _ _ _ h => h) (Or.inl ⟨by rfl, fun W2 hW => by go_simp⟩) hHeld ?_
      simp only [Act.put, List.setIfInBounds_toArray, List.set_cons_zero, List.set_cons_succ]
      refine take_val' (i := 16) (v := .string t) rfl (by kernel_rfl) (by kernel_rfl) (by kernel_rfl) (some 33) rfl (fun _ _ _ h => h) (Or.inl ⟨by rfl, fun W2 hW => by have q := cell_of_row W2 g6 1 _ _ _ ((hW.block g6 hl6).trans HR6.out); go_simp⟩) hHeld ?_
      simp only [Act.put, List.setIfInBounds_toArray, List.set_cons_zero, List.set_cons_succ]
      refine take_val' (i := 17) (v := .int .i64 (t.size : Int)) rfl (by kernel_rfl) (by kernel_rfl) (by kernel_rfl) (some 34) rfl (fun _ _ _ h => h) (Or.inl ⟨by rfl, fun W2 hW => by go_simp⟩) hHeld ?_
      simp only [Act.put, List.setIfInBounds_toArray, List.set_cons_zero, List.set_cons_succ]
      refine take_val' (i := 18) (v := .bool false) rfl (by kernel_rfl) (by kernel_rfl) (by kernel_rfl) (some 35) rfl (fun _ _ _ h => h) (Or.inl ⟨by rfl, fun W2 hW => by go_simp⟩) hHeld ?_
      simp only [Act.put, List.setIfInBounds_toArray, List.set_cons_zero, List.set_cons_succ]
      refine take_val' (i := 19) (v := .bool false) rfl (by kernel_rfl) (by kernel_rfl) (by kernel_rfl) (some 36) rfl (fun _ _ _ h => h) (Or.inl ⟨by rfl, fun W2 hW => by go_simp⟩) hHeld ?_
      simp only [Act.put, List.setIfInBounds_toArray, List.set_cons_zero, List.set_cons_succ]
      refine wpAnyH_done (by kernel_rfl) ?_ _
      have D2 := HD1.out.below hG
      have q0 := cell_of_row w2 g6 0 _ _ _ ((hG.block g6 hl6).trans HR6.out)
      have q1 := cell_of_row w2 g6 1 _ _ _ ((hG.block g6 hl6).trans HR6.out)
      have HP := hid' (put_there D2 p (by unfold maxLen; omega) t (by omega))
      have HB2 := hid' (HB1.out.trans (hG.mono (by have := HB1.out.size; omega)))
      have hz2 := hG.size
      have hz1 := HB1.out.size
      unfold cont at HP
      clear D2
      go_wp2_with (go_at_call 24; refine (HP.out).mono ?_; rintro e w3 ⟨rfl, D3, T3⟩)
      have HD3 := hid' D3
      have HB3 := hid' (Tri.below HB2.out T3 (by omega) (by omega) (by omega) (by omega))
      clear D3 T3
      go_roundw
      case rel => exact ⟨1, by go_num, .inr ⟨rfl, HD3, HB3⟩⟩
      case measure => simp [intOf]
    · obtain ⟨c0, c1, c2, c3, c4⟩ := hD.out.cells
      obtain ⟨m2, hm3, hlen⟩ := hD.out.files.len Tryd.underlying54
      have hlen2 : ¬ (2000 < (m2 : Int)) := by omega
      go_wp2
      go_returns
      exact ⟨rfl, hD.out, hB.out⟩
end Go.Proofs.YtahaienalidiiaaDoor
