/- What note makes of a name that has changes already, and of any name. Conditions: the disk's blocks lie from block B on. -/
import Derived.Test.YtahaienalidiiaaDoorDiskNote
namespace Go.Proofs.YtahaienalidiiaaDoor
open Go.RowKit Go.Maps

/-- A history of at most four changes. -/
def HistOK (v : Value) : Prop := ∃ s b k0 t0 k1 t1 k2 t2 k3 t3, ∃ n : Nat, n ≤ 4 ∧ v = hV s b k0 t0 k1 t1 k2 t2 k3 t3 (n : Int)
theorem HistOK.rd {v : Value} (h : HistOK v) : ∃ d, rdS v = some (d, []) := by
  obtain ⟨s, b, k0, t0, k1, t1, k2, t2, k3, t3, n, _, rfl⟩ := h
  exact rd_hist s b k0 t0 k1 t1 k2 t2 k3 t3 n
theorem histOK_with (s : ByteArray) (b : Bool) (k0 : Int) (t0 : ByteArray) (k1 : Int) (t1 : ByteArray) (k2 : Int) (t2 : ByteArray) (k3 : Int) (t3 : ByteArray) (n : Nat) (hn : n ≤ 4) (k : Int) (t : ByteArray) : HistOK (withF s b k0 t0 k1 t1 k2 t2 k3 t3 n k t) := by
  match n, hn with
  | 0, _ => exact ⟨_, _, _, _, _, _, _, _, _, _, 1, by omega, rfl⟩
  | 1, _ => exact ⟨_, _, _, _, _, _, _, _, _, _, 2, by omega, rfl⟩
  | 2, _ => exact ⟨_, _, _, _, _, _, _, _, _, _, 3, by omega, rfl⟩
  | 3, _ => exact ⟨_, _, _, _, _, _, _, _, _, _, 4, by omega, rfl⟩
  | 4, _ => exact ⟨_, _, _, _, _, _, _, _, _, _, 4, by omega, rfl⟩
/-- Each name's history is one. -/
def HistsOK (C : ByteArray → Option Value) : Prop := ∀ key v, C key = some v → HistOK v
theorem HistsOK.none : HistsOK (fun _ => none) := fun _ _ h => by cases h
theorem HistsOK.put {C : ByteArray → Option Value} (h : HistsOK C) (key : ByteArray) {v : Value} (hv : HistOK v) : HistsOK (putF C key v) := fun k u hu => by
  unfold putF at hu
  split at hu
  · injection hu with hu; exact hu ▸ hv
  · exact h k u hu
theorem HistsOK.del {C : ByteArray → Option Value} (h : HistsOK C) (key : ByteArray) : HistsOK (delF C key) := fun k u hu => by
  unfold delF at hu
  split at hu
  · cases hu
  · exact h k u hu
section
variable {W W' : World} {B sb fb cb nf nc : Nat} {F C : ByteArray → Option Value} {ops armed : Int} {down : Bool}
set_option maxRecDepth 100000 in
set_option maxHeartbeats 1600000 in
theorem note_more (h : DiskAt W B sb fb cb nf nc F C ops armed down) (key : ByteArray) (hk : key.size ≤ maxLen) (s0 : ByteArray) (b0 : Bool) (k0 : Int) (t0 : ByteArray) (k1 : Int) (t1 : ByteArray) (k2 : Int) (t2 : ByteArray) (k3 : Int) (t3 : ByteArray) (n : Nat) (hn4 : n ≤ 4) (hC : C key = some (hV s0 b0 k0 t0 k1 t1 k2 t2 k3 t3 (n : Int))) (s : ByteArray) (b : Bool) (k : Int) (t : ByteArray) (hn : nc < 1000000) :
    Calls Tryd.prog 36 #[.pointer (some ⟨sb, 0, none⟩), .string key, cont s b, chg k t] W fun e w' => e = .returned (.tuple #[]) ∧ DiskAt w' B sb fb cb nf (nc + 1) F (putF C key (withF s0 b0 k0 t0 k1 t1 k2 t2 k3 t3 n k t)) ops armed down ∧ Tri sb fb cb W w' := by
  have h1 := ((h.alloc (.cells #[.string s, .bool b] 60)).alloc (.cells #[.int .i64 k, .string t] 64))
  have hlts := h.lt
  obtain ⟨c0, c1, c2, c3, c4⟩ := h1.cells
  have hlk := h1.changed.look_ok Tryd.underlying55 (zero_hist _) key hk
  rw [hC] at hlk
  simp only [Option.isSome_some, Option.getD_some] at hlk
  have D3 := h1.alloc (.cells #[.string s0, .bool b0, .int .i64 k0, .string t0, .int .i64 k1, .string t1, .int .i64 k2, .string t2, .int .i64 k3, .string t3, .int .i64 (n : Int)] 71)
  have R7 := three_1 W (.cells #[.string s, .bool b] 60) (.cells #[.int .i64 k, .string t] 64) (.cells #[.string s0, .bool b0, .int .i64 k0, .string t0, .int .i64 k1, .string t1, .int .i64 k2, .string t2, .int .i64 k3, .string t3, .int .i64 (n : Int)] 71)
  have R8 := three_2 W (.cells #[.string s, .bool b] 60) (.cells #[.int .i64 k, .string t] 64) (.cells #[.string s0, .bool b0, .int .i64 k0, .string t0, .int .i64 k1, .string t1, .int .i64 k2, .string t2, .int .i64 k3, .string t3, .int .i64 (n : Int)] 71)
  have HB3 : Hid (Tri sb fb cb W (((W.alloc (.cells #[.string s, .bool b] 60)).alloc (.cells #[.int .i64 k, .string t] 64)).alloc (.cells #[.string s0, .bool b0, .int .i64 k0, .string t0, .int .i64 k1, .string t1, .int .i64 k2, .string t2, .int .i64 k3, .string t3, .int .i64 (n : Int)] 71))) := hid' ((((Tri.refl sb fb cb W).alloc _).alloc _).alloc _)
  have HW := hid' (fun W => with_any s0 b0 k0 t0 k1 t1 k2 t2 k3 t3 n hn4 k t W)
  obtain ⟨d, hd⟩ := (histOK_with s0 b0 k0 t0 k1 t1 k2 t2 k3 t3 n hn4 k t).rd
  generalize withF s0 b0 k0 t0 k1 t1 k2 t2 k3 t3 n k t = wv at HW hd ⊢
  have HD := hid' hd
  have HD3 := hid' D3
  have HR7 := hid' R7
  have HR8 := hid' R8
  clear h1 hd D3 R7 R8
  unfold cont chg hV at *
  go_enter Tryd.func36, Tryd.ntmps36
  go_wp2
  have D3 := HD3.out
  have R7 := HR7.out
  have R8 := HR8.out
  generalize (((W.alloc (.cells #[.string s, .bool b] 60)).alloc (.cells #[.int .i64 k, .string t] 64)).alloc (.cells #[.string s0, .bool b0, .int .i64 k0, .string t0, .int .i64 k1, .string t1, .int .i64 k2, .string t2, .int .i64 k3, .string t3, .int .i64 (n : Int)] 71)) = w3 at D3 R7 R8 HB3 ⊢
  obtain ⟨g0, hg0⟩ : ∃ g, W.heap.size = g := ⟨_, rfl⟩
  rw [hg0] at R7 R8 hlts ⊢
  clear HD3 HR7 HR8 c0 c1 c2 c3 c4 hlk
  refine wp_region_held_drew (S := InNote sb fb cb ops armed down (g0 + 1) (g0 + 1 + 1) #[.int .i64 k, .string t] #[.string s0, .bool b0, .int .i64 k0, .string t0, .int .i64 k1, .string t1, .int .i64 k2, .string t2, .int .i64 k3, .string t3, .int .i64 (n : Int)]) (by kernel_rfl) ⟨D3.row, R7, R8⟩ (fun hHeld => ?_)
  refine take_val' (i := 0) (v := .pointer (some ⟨sb, 0, none⟩)) rfl (by kernel_rfl) (by kernel_rfl) (by kernel_rfl) (some 23) rfl (fun _ _ _ h => h) (Or.inl ⟨by rfl, fun W hW => by go_simp⟩) hHeld ?_
  simp only [Act.put, List.setIfInBounds_toArray, List.set_cons_zero, List.set_cons_succ]
  refine take_val' (i := 1) (v := .pointer (some ⟨sb, 0, none⟩)) rfl (by kernel_rfl) (by kernel_rfl) (by kernel_rfl) (some 24) rfl (fun _ _ _ h => h) (Or.inl ⟨by rfl, fun W hW => by go_simp⟩) hHeld ?_
  simp only [Act.put, List.setIfInBounds_toArray, List.set_cons_zero, List.set_cons_succ]
  refine take_val' (i := 2) (v := .pointer (some ⟨sb, 1, none⟩)) rfl (by kernel_rfl) (by kernel_rfl) (by kernel_rfl) (some 25) rfl (fun _ _ _ h => h) (Or.inl ⟨by rfl, fun W hW => by go_simp⟩) hHeld ?_
  simp only [Act.put, List.setIfInBounds_toArray, List.set_cons_zero, List.set_cons_succ]
  refine take_val' (i := 3) (v := .map (some cb)) rfl (by kernel_rfl) (by kernel_rfl) (by kernel_rfl) (some 26) rfl (fun _ _ _ h => h) (Or.inl ⟨by rfl, fun W hW => by have hc := cell_of_row W sb 1 _ _ _ hW.row; simp only [diskCells] at hc; go_simp⟩) hHeld ?_
  simp only [Act.put, List.setIfInBounds_toArray, List.set_cons_zero, List.set_cons_succ]
  refine take_val' (i := 4) (v := .string key) rfl (by kernel_rfl) (by kernel_rfl) (by kernel_rfl) (some 27) rfl (fun _ _ _ h => h) (Or.inl ⟨by rfl, fun W hW => by go_simp⟩) hHeld ?_
  simp only [Act.put, List.setIfInBounds_toArray, List.set_cons_zero, List.set_cons_succ]
  refine take_load' (i := 5) rfl (by kernel_rfl) (by kernel_rfl) (by kernel_rfl) (some 28) rfl (by rfl) 71 (.tmp 8) rfl (g0 + 1 + 1) rfl #[.string s0, .bool b0, .int .i64 k0, .string t0, .int .i64 k1, .string t1, .int .i64 k2, .string t2, .int .i64 k3, .string t3, .int .i64 (n : Int)] _ (fun _ _ _ h => h) (fun W h => range_of' h.hist) Tryd.underlying71 rfl (by kernel_rfl) hHeld ?_
  simp only [Act.put, List.setIfInBounds_toArray, List.set_cons_zero, List.set_cons_succ]
  refine take_load' (i := 6) rfl (by kernel_rfl) (by kernel_rfl) (by kernel_rfl) (some 29) rfl (by rfl) 64 (.tmp 7) rfl (g0 + 1) rfl #[.int .i64 k, .string t] _ (fun _ _ _ h => h) (fun W h => range_of' h.chg) Tryd.underlying64 rfl (by kernel_rfl) hHeld ?_
  simp only [Act.put, List.setIfInBounds_toArray, List.set_cons_zero, List.set_cons_succ]
  refine wpAnyH_ready (rs := [7]) (by kernel_rfl) (by simp) ?_
  refine AllReadyH.cons rfl (fun K hK => ?_) AllReadyH.nil
  go_simp
  refine (HW.out _).mono ?_
  rintro e' w4 ⟨rfl, hb4⟩
  have D4 := D3.drew.below hb4
  have hHeld4 : InNote sb fb cb ops armed down (g0 + 1) (g0 + 1 + 1) #[.int .i64 k, .string t] #[.string s0, .bool b0, .int .i64 k0, .string t0, .int .i64 k1, .string t1, .int .i64 k2, .string t2, .int .i64 k3, .string t3, .int .i64 (n : Int)] w4 := ⟨D4.row, (hb4.block _ (Array.getElem?_eq_some_iff.1 R7).1).trans R7, (hb4.block _ (Array.getElem?_eq_some_iff.1 R8).1).trans R8⟩
  refine hK.out _ _ hHeld4 (fun hHeld => ?_)
  clear hK K
  obtain ⟨w5, hr, hm, ht⟩ := D4.changed.store Tryd.underlying55 (by unfold maxLen; omega) key hk _ HD.out
  obtain ⟨D5, hb5⟩ := D4.turnC hm ht
  have hHeld5 : InNote sb fb cb ops armed down (g0 + 1) (g0 + 1 + 1) #[.int .i64 k, .string t] #[.string s0, .bool b0, .int .i64 k0, .string t0, .int .i64 k1, .string t1, .int .i64 k2, .string t2, .int .i64 k3, .string t3, .int .i64 (n : Int)] w5 := ⟨D5.row, (turned_other ht (by omega)).trans hHeld4.chg, (turned_other ht (by omega)).trans hHeld4.hist⟩
  refine wpAnyH_ready (rs := [8]) (by kernel_rfl) (by simp) ?_
  refine AllReadyH.cons rfl (fun K hK => ?_) AllReadyH.nil
  go_simp
  refine hK.out _ _ hHeld5 (fun hHeld => ?_)
  clear hK K
  refine wpAnyH_done (by kernel_rfl) ?_ _
  go_wp2
  go_end0
  exact ⟨rfl, D5, (HB3.out.drew.trans (Tri.of_below hb4)).trans hb5⟩
theorem note_any (hH : HistsOK C) (B sb fb cb nf nc : Nat) (F : ByteArray → Option Value) (ops armed : Int) (down : Bool) (key : ByteArray) (hk : key.size ≤ maxLen) (s : ByteArray) (b : Bool) (k : Int) (t : ByteArray) (hn : nc < 1000000) :
    ∃ v, HistOK v ∧ ∀ W, DiskAt W B sb fb cb nf nc F C ops armed down → Calls Tryd.prog 36 #[.pointer (some ⟨sb, 0, none⟩), .string key, cont s b, chg k t] W fun e w' => e = .returned (.tuple #[]) ∧ DiskAt w' B sb fb cb nf (nc + 1) F (putF C key v) ops armed down ∧ Tri sb fb cb W w' := by
  cases hC : C key with
  | none => exact ⟨_, ⟨_, _, _, _, _, _, _, _, _, _, 1, by omega, rfl⟩, fun W h => note_new h key hk hC s b k t hn⟩
  | some v =>
    obtain ⟨s0, b0, k0, t0, k1, t1, k2, t2, k3, t3, n, h4, rfl⟩ := hH key v hC
    exact ⟨_, histOK_with s0 b0 k0 t0 k1 t1 k2 t2 k3 t3 n h4 k t, fun W h => note_more h key hk s0 b0 k0 t0 k1 t1 k2 t2 k3 t3 n h4 hC s b k t hn⟩
end
end Go.Proofs.YtahaienalidiiaaDoor
