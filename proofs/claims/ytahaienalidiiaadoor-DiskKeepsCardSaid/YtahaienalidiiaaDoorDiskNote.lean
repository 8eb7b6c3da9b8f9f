/- What note makes of a disk. Conditions: the disk's blocks lie from block B on. -/
import Derived.Test.YtahaienalidiiaaDoorDiskWith
import Derived.Test.YtahaienalidiiaaDoorTake
namespace Go.Proofs.YtahaienalidiiaaDoor
open Go.RowKit Go.Maps

/-- What holds within note's last statement. -/
structure InNote (sb fb cb : Nat) (ops armed : Int) (down : Bool) (g7 g8 : Nat) (cc hc : Array Value) (W : World) : Prop where
  row : W.heap[sb]? = some (.cells (diskCells fb cb ops armed down) 57 (0, 0))
  chg : W.heap[g7]? = some (.cells cc 64 (0, 0))
  hist : W.heap[g8]? = some (.cells hc 71 (0, 0))
theorem three_1 (W : World) (o1 o2 o3 : Obj) : (((W.alloc o1).alloc o2).alloc o3).heap[W.heap.size + 1]? = some o2 := by
  rw [Below.heap_alloc _ _ _ (by simp), show W.heap.size + 1 = (W.alloc o1).heap.size by simp]
  exact heap_alloc_new _ o2
theorem three_2 (W : World) (o1 o2 o3 : Obj) : (((W.alloc o1).alloc o2).alloc o3).heap[W.heap.size + 1 + 1]? = some o3 := by
  rw [show W.heap.size + 1 + 1 = ((W.alloc o1).alloc o2).heap.size by simp]
  exact heap_alloc_new _ o3
section
variable {W W' : World} {B sb fb cb nf nc : Nat} {F C : ByteArray → Option Value} {ops armed : Int} {down : Bool}
set_option maxRecDepth 100000 in
set_option maxHeartbeats 1600000 in
theorem note_new (h : DiskAt W B sb fb cb nf nc F C ops armed down) (key : ByteArray) (hk : key.size ≤ maxLen) (hC : C key = none) (s : ByteArray) (b : Bool) (k : Int) (t : ByteArray) (hn : nc < 1000000) :
    Calls Tryd.prog 36 #[.pointer (some ⟨sb, 0, none⟩), .string key, cont s b, chg k t] W fun e w' => e = .returned (.tuple #[]) ∧ DiskAt w' B sb fb cb nf (nc + 1) F (putF C key (hV s b k t 0 ⟨#[]⟩ 0 ⟨#[]⟩ 0 ⟨#[]⟩ 1)) ops armed down ∧ Tri sb fb cb W w' := by
  have h1 := ((h.alloc (.cells #[.string s, .bool b] 60)).alloc (.cells #[.int .i64 k, .string t] 64))
  have hlts := h.lt
  obtain ⟨c0, c1, c2, c3, c4⟩ := h1.cells
  have hlk := h1.changed.look_ok Tryd.underlying55 (zero_hist _) key hk
  rw [hC] at hlk
  simp only [Option.isSome_none, Option.getD_none] at hlk
  have D3 := h1.alloc (.cells #[.string s, .bool b, .int .i64 0, .string ⟨#[]⟩, .int .i64 0, .string ⟨#[]⟩, .int .i64 0, .string ⟨#[]⟩, .int .i64 0, .string ⟨#[]⟩, .int .i64 0] 71)
  have R7 := three_1 W (.cells #[.string s, .bool b] 60) (.cells #[.int .i64 k, .string t] 64) (.cells #[.string s, .bool b, .int .i64 0, .string ⟨#[]⟩, .int .i64 0, .string ⟨#[]⟩, .int .i64 0, .string ⟨#[]⟩, .int .i64 0, .string ⟨#[]⟩, .int .i64 0] 71)
  have R8 := three_2 W (.cells #[.string s, .bool b] 60) (.cells #[.int .i64 k, .string t] 64) (.cells #[.string s, .bool b, .int .i64 0, .string ⟨#[]⟩, .int .i64 0, .string ⟨#[]⟩, .int .i64 0, .string ⟨#[]⟩, .int .i64 0, .string ⟨#[]⟩, .int .i64 0] 71)
  have HB3 : Hid (Tri sb fb cb W (((W.alloc (.cells #[.string s, .bool b] 60)).alloc (.cells #[.int .i64 k, .string t] 64)).alloc (.cells #[.string s, .bool b, .int .i64 0, .string ⟨#[]⟩, .int .i64 0, .string ⟨#[]⟩, .int .i64 0, .string ⟨#[]⟩, .int .i64 0, .string ⟨#[]⟩, .int .i64 0] 71))) := hid' ((((Tri.refl sb fb cb W).alloc _).alloc _).alloc _)
  have HW := hid' (fun W => with_0 s b 0 ⟨#[]⟩ 0 ⟨#[]⟩ 0 ⟨#[]⟩ 0 ⟨#[]⟩ k t W)
  obtain ⟨d, hd⟩ := rd_hist s b k t 0 ⟨#[]⟩ 0 ⟨#[]⟩ 0 ⟨#[]⟩ 1
  have HD := hid' hd
  have HD3 := hid' D3
  have HR7 := hid' R7
  have HR8 := hid' R8
  clear h1 hd D3 R7 R8
  unfold cont chg hist0 hV at *
  go_enter Tryd.func36, Tryd.ntmps36
  go_wp2
  have D3 := HD3.out
  have R7 := HR7.out
  have R8 := HR8.out
  generalize (((W.alloc (.cells #[.string s, .bool b] 60)).alloc (.cells #[.int .i64 k, .string t] 64)).alloc (.cells #[.string s, .bool b, .int .i64 0, .string ⟨#[]⟩, .int .i64 0, .string ⟨#[]⟩, .int .i64 0, .string ⟨#[]⟩, .int .i64 0, .string ⟨#[]⟩, .int .i64 0] 71)) = w3 at D3 R7 R8 HB3 ⊢
  obtain ⟨g0, hg0⟩ : ∃ g, W.heap.size = g := ⟨_, rfl⟩
  rw [hg0] at R7 R8 hlts ⊢
  clear HD3 HR7 HR8 c0 c1 c2 c3 c4 hlk
  refine wp_region_held_drew (S := InNote sb fb cb ops armed down (g0 + 1) (g0 + 1 + 1) #[.int .i64 k, .string t] #[.string s, .bool b, .int .i64 0, .string ⟨#[]⟩, .int .i64 0, .string ⟨#[]⟩, .int .i64 0, .string ⟨#[]⟩, .int .i64 0, .string ⟨#[]⟩, .int .i64 0]) (by kernel_rfl) ⟨D3.row, R7, R8⟩ (fun hHeld => ?_)
  refine take_val' (i := 0) (v := .pointer (some ⟨sb, 0, none⟩)) rfl (by kernel_rfl) (by kernel_rfl) (by kernel_rfl) (some 23) rfl (fun _ _ _ h => h) (Or.inl ⟨by rfl, fun W hW => by go_simp⟩) hHeld ?_
  simp only [Act.put, List.setIfInBounds_toArray, List.set_cons_zero, List.set_cons_succ]
  refine take_val' (i := 1) (v := .pointer (some ⟨sb, 0, none⟩)) rfl (by kernel_rfl) (by kernel_rfl) (by kernel_rfl) (some 24) rfl (fun _ _ _ h => h) (Or.inl ⟨by rfl, fun W hW => by go_simp⟩) hHeld ?_
  simp only [Act.put, List.setIfInBounds_toArray, List.set_cons_zero, List.set_cons_succ]
  refine take_val' (i := 2) (v := .pointer (some ⟨sb, 1, none⟩)) rfl (by kernel_rfl) (by kernel_rfl) (by kernel_rfl) (some 25) rfl (fun _ _ _ h => h) (Or.inl ⟨by rfl, fun W hW => by go_simp⟩) hHeld ?_
  simp only [Act.put, List.setIfInBounds_toArray, List.set_cons_zero, List.set_cons_succ]
  refine take_val' (i := 3) (v := .map (some cb)) rfl (by kernel_rfl) (by kernel_rfl) (by kernel_rfl) (some 26) rfl (fun _ _ _ h => h) (Or.inl ⟨by rfl, fun W hW => by have hc := cell_of_row W sb 1 _ _ _ hW.row; simp only [diskCells] at hc; go_simp⟩) hHeld ?_
  simp only [Act.put, List.setIfInBounds_toArray, List.set_cons_zero, List.set_cons_succ]
  refine take_val' (i := 4) (v := .string key) rfl (by kernel_rfl) (by kernel_rfl) (by kernel_rfl) (some 27) rfl (fun _ _ _ h => h) (Or.inl ⟨by rfl, fun W hW => by go_simp⟩) hHeld ?_
  simp only [Act.put, List.setIfInBounds_toArray, List.set_cons_zero, List.set_cons_succ]
  refine take_load' (i := 5) rfl (by kernel_rfl) (by kernel_rfl) (by kernel_rfl) (some 28) rfl (by rfl) 71 (.tmp 8) rfl (g0 + 1 + 1) rfl #[.string s, .bool b, .int .i64 0, .string ⟨#[]⟩, .int .i64 0, .string ⟨#[]⟩, .int .i64 0, .string ⟨#[]⟩, .int .i64 0, .string ⟨#[]⟩, .int .i64 0] _ (fun _ _ _ h => h) (fun W h => range_of' h.hist) Tryd.underlying71 rfl (by kernel_rfl) hHeld ?_
  simp only [Act.put, List.setIfInBounds_toArray, List.set_cons_zero, List.set_cons_succ]
  refine take_load' (i := 6) rfl (by kernel_rfl) (by kernel_rfl) (by kernel_rfl) (some 29) rfl (by rfl) 64 (.tmp 7) rfl (g0 + 1) rfl #[.int .i64 k, .string t] _ (fun _ _ _ h => h) (fun W h => range_of' h.chg) Tryd.underlying64 rfl (by kernel_rfl) hHeld ?_
  simp only [Act.put, List.setIfInBounds_toArray, List.set_cons_zero, List.set_cons_succ]
  refine wpAnyH_ready (rs := [7]) (by kernel_rfl) (by simp) ?_
  refine AllReadyH.cons rfl (fun K hK => ?_) AllReadyH.nil
  go_simp
  refine (HW.out _).mono ?_
  rintro e' w4 ⟨rfl, hb4⟩
  have D4 := D3.drew.below hb4
  have hHeld4 : InNote sb fb cb ops armed down (g0 + 1) (g0 + 1 + 1) #[.int .i64 k, .string t] #[.string s, .bool b, .int .i64 0, .string ⟨#[]⟩, .int .i64 0, .string ⟨#[]⟩, .int .i64 0, .string ⟨#[]⟩, .int .i64 0, .string ⟨#[]⟩, .int .i64 0] w4 := ⟨D4.row, (hb4.block _ (Array.getElem?_eq_some_iff.1 R7).1).trans R7, (hb4.block _ (Array.getElem?_eq_some_iff.1 R8).1).trans R8⟩
  refine hK.out _ _ hHeld4 (fun hHeld => ?_)
  clear hK K
  obtain ⟨w5, hr, hm, ht⟩ := D4.changed.store Tryd.underlying55 (by unfold maxLen; omega) key hk _ HD.out
  obtain ⟨D5, hb5⟩ := D4.turnC hm ht
  have hHeld5 : InNote sb fb cb ops armed down (g0 + 1) (g0 + 1 + 1) #[.int .i64 k, .string t] #[.string s, .bool b, .int .i64 0, .string ⟨#[]⟩, .int .i64 0, .string ⟨#[]⟩, .int .i64 0, .string ⟨#[]⟩, .int .i64 0, .string ⟨#[]⟩, .int .i64 0] w5 := ⟨D5.row, (turned_other ht (by omega)).trans hHeld4.chg, (turned_other ht (by omega)).trans hHeld4.hist⟩
  refine wpAnyH_ready (rs := [8]) (by kernel_rfl) (by simp) ?_
  refine AllReadyH.cons rfl (fun K hK => ?_) AllReadyH.nil
  go_simp
  refine hK.out _ _ hHeld5 (fun hHeld => ?_)
  clear hK K
  refine wpAnyH_done (by kernel_rfl) ?_ _
  go_wp2
  go_end0
  exact ⟨rfl, D5, (HB3.out.drew.trans (Tri.of_below hb4)).trans hb5⟩
end
end Go.Proofs.YtahaienalidiiaaDoor
