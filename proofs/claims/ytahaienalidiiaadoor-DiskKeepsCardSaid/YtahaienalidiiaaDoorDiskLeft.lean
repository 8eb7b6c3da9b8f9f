/- What left leaves of one history: x, and yz laid behind, the power gone ahead of all of it but one byte. No conditions. -/
import Derived.Test.YtahaienalidiiaaDoorDiskOps
namespace Go.Proofs.YtahaienalidiiaaDoor
open Go.RowKit Go.Maps

set_option maxHeartbeats 800000 in
theorem part_first (w : World) :
    Calls Tryd.prog 40 #[chg 1 ⟨#[121, 122]⟩, .int .i64 1] w fun e w' => e = .returned (.tuple #[chg 1 ⟨#[121]⟩, .bool true]) ∧ Below w.heap.size w w' := by
  unfold chg
  go_enter Tryd.func40, Tryd.ntmps40
  go_wp2
  go_returns
  refine ⟨rfl, ?_⟩
  go_grown
set_option maxRecDepth 100000 in
set_option maxHeartbeats 800000 in
theorem left_first (w : World) :
    Calls Tryd.prog 29 #[hV ⟨#[120]⟩ true 1 ⟨#[121, 122]⟩ 0 ⟨#[]⟩ 0 ⟨#[]⟩ 0 ⟨#[]⟩ 1, .int .i64 0, .int .i64 1] w fun e w' => e = .returned (cont ⟨#[120, 121]⟩ true) ∧ Below w.heap.size w w' := by
  unfold hV cont
  go_enter Tryd.func29, Tryd.ntmps29
  go_wp2
  have W3B : Below w.heap.size w (((w.alloc (.cells #[.string ⟨#[120]⟩, .bool true, .int .i64 1, .string ⟨#[121, 122]⟩, .int .i64 0, .string ⟨#[]⟩, .int .i64 0, .string ⟨#[]⟩, .int .i64 0, .string ⟨#[]⟩, .int .i64 1] 71)).alloc (.cells #[.string ⟨#[]⟩, .bool false] 60)).alloc (.cells #[.string ⟨#[120]⟩, .bool true] 60)) := (((Below.refl _ _).alloc (Nat.le_refl _) _).alloc (by simp) _).alloc (by simp; omega) _
  have r3 : (((w.alloc (.cells #[.string ⟨#[120]⟩, .bool true, .int .i64 1, .string ⟨#[121, 122]⟩, .int .i64 0, .string ⟨#[]⟩, .int .i64 0, .string ⟨#[]⟩, .int .i64 0, .string ⟨#[]⟩, .int .i64 1] 71)).alloc (.cells #[.string ⟨#[]⟩, .bool false] 60)).alloc (.cells #[.string ⟨#[120]⟩, .bool true] 60)).heap[w.heap.size]? = some (.cells #[.string ⟨#[120]⟩, .bool true, .int .i64 1, .string ⟨#[121, 122]⟩, .int .i64 0, .string ⟨#[]⟩, .int .i64 0, .string ⟨#[]⟩, .int .i64 0, .string ⟨#[]⟩, .int .i64 1] 71 (0, 0)) := by
    rw [Below.heap_alloc _ _ _ (by simp; omega), Below.heap_alloc _ _ _ (by simp)]
    exact heap_alloc_new w _
  have r6 : (((w.alloc (.cells #[.string ⟨#[120]⟩, .bool true, .int .i64 1, .string ⟨#[121, 122]⟩, .int .i64 0, .string ⟨#[]⟩, .int .i64 0, .string ⟨#[]⟩, .int .i64 0, .string ⟨#[]⟩, .int .i64 1] 71)).alloc (.cells #[.string ⟨#[]⟩, .bool false] 60)).alloc (.cells #[.string ⟨#[120]⟩, .bool true] 60)).heap[w.heap.size + 1]? = some (.cells #[.string ⟨#[]⟩, .bool false] 60 (0, 0)) := by
    rw [Below.heap_alloc _ _ _ (by simp), show w.heap.size + 1 = (w.alloc (.cells #[.string ⟨#[120]⟩, .bool true, .int .i64 1, .string ⟨#[121, 122]⟩, .int .i64 0, .string ⟨#[]⟩, .int .i64 0, .string ⟨#[]⟩, .int .i64 0, .string ⟨#[]⟩, .int .i64 1] 71)).heap.size by simp]
    exact heap_alloc_new _ _
  have r7 : (((w.alloc (.cells #[.string ⟨#[120]⟩, .bool true, .int .i64 1, .string ⟨#[121, 122]⟩, .int .i64 0, .string ⟨#[]⟩, .int .i64 0, .string ⟨#[]⟩, .int .i64 0, .string ⟨#[]⟩, .int .i64 1] 71)).alloc (.cells #[.string ⟨#[]⟩, .bool false] 60)).alloc (.cells #[.string ⟨#[120]⟩, .bool true] 60)).heap[w.heap.size + 1 + 1]? = some (.cells #[.string ⟨#[120]⟩, .bool true] 60 (0, 0)) := by
    rw [show w.heap.size + 1 + 1 = ((w.alloc (.cells #[.string ⟨#[120]⟩, .bool true, .int .i64 1, .string ⟨#[121, 122]⟩, .int .i64 0, .string ⟨#[]⟩, .int .i64 0, .string ⟨#[]⟩, .int .i64 0, .string ⟨#[]⟩, .int .i64 1] 71)).alloc (.cells #[.string ⟨#[]⟩, .bool false] 60)).heap.size by simp]
    exact heap_alloc_new _ _
  have z3 : (((w.alloc (.cells #[.string ⟨#[120]⟩, .bool true, .int .i64 1, .string ⟨#[121, 122]⟩, .int .i64 0, .string ⟨#[]⟩, .int .i64 0, .string ⟨#[]⟩, .int .i64 0, .string ⟨#[]⟩, .int .i64 1] 71)).alloc (.cells #[.string ⟨#[]⟩, .bool false] 60)).alloc (.cells #[.string ⟨#[120]⟩, .bool true] 60)).heap.size = w.heap.size + 1 + 1 + 1 := by simp
  generalize (((w.alloc (.cells #[.string ⟨#[120]⟩, .bool true, .int .i64 1, .string ⟨#[121, 122]⟩, .int .i64 0, .string ⟨#[]⟩, .int .i64 0, .string ⟨#[]⟩, .int .i64 0, .string ⟨#[]⟩, .int .i64 1] 71)).alloc (.cells #[.string ⟨#[]⟩, .bool false] 60)).alloc (.cells #[.string ⟨#[120]⟩, .bool true] 60)) = w3 at W3B r3 r6 r7 z3 ⊢
  go_loopw [22] (fun i wr => i = .int .i64 0 ∧ wr = w3) (fun _ _ => 0)
  case atStart => exact ⟨rfl, rfl⟩
  case round =>
    obtain ⟨rfl, rfl⟩ := hrel
    have q10 := cell_of_row wr w.heap.size 10 _ _ _ r3
    have q2 := cell_of_row wr w.heap.size 2 _ _ _ r3
    have q3 := cell_of_row wr w.heap.size 3 _ _ _ r3
    have HP := hid' (part_first)
    unfold chg at HP
    go_wp2_with fail
    refine (HP.out _).mono ?_
    rintro e w4 ⟨rfl, hb4⟩
    have hz4 := hb4.size
    have p0 := fun o : Obj => cell_of_row (w4.alloc o) (w.heap.size + 1 + 1) 0 _ _ _ ((Below.heap_alloc w4 o (w.heap.size + 1 + 1) (by omega)).trans ((hb4.block (w.heap.size + 1 + 1) (by omega)).trans r7))
    have p1 := fun o : Obj => cell_of_row (w4.alloc o) (w.heap.size + 1 + 1) 1 _ _ _ ((Below.heap_alloc w4 o (w.heap.size + 1 + 1) (by omega)).trans ((hb4.block (w.heap.size + 1 + 1) (by omega)).trans r7))
    have HO := hid' (on_any 1 ⟨#[121]⟩ ⟨#[120]⟩ true (by decide))
    rw [show onF 1 ⟨#[121]⟩ ⟨#[120]⟩ = cont ⟨#[120, 121]⟩ true from rfl] at HO
    unfold chg cont at HO
    go_wp2_with fail
    refine (HO.out _).mono ?_
    rintro e w6 ⟨rfl, hb6⟩
    rw [World.size_alloc] at hb6
    have hb36 : Below wr.heap.size wr w6 := hb4.trans (((Below.refl _ _).alloc (by omega) _).trans (hb6.mono (by omega)))
    have R6 := (hb36.block (w.heap.size + 1) (by omega)).trans r6
    have R7 := (hb36.block (w.heap.size + 1 + 1) (by omega)).trans r7
    have hf60 := frozen_of_row w6 (w.heap.size + 1) 0 _ _ R6
    have hf61 := frozen_of_row w6 (w.heap.size + 1) 1 _ _ R6
    have hf70 := frozen_of_row w6 (w.heap.size + 1 + 1) 0 _ _ R7
    have hf71 := frozen_of_row w6 (w.heap.size + 1 + 1) 1 _ _ R7
    have t60 := cell_of_row w6 (w.heap.size + 1) 0 _ _ _ R6
    have t61 := cell_of_row w6 (w.heap.size + 1) 1 _ _ _ R6
    have t70 := cell_of_row w6 (w.heap.size + 1 + 1) 0 _ _ _ R7
    have t71 := cell_of_row w6 (w.heap.size + 1 + 1) 1 _ _ _ R7
    have HB6 := hid' (W3B.trans (hb36.mono (by omega)))
    clear p0 p1 q10 q2 q3 hb4 hb6 hb36 R7 r3 r6 r7
    have RF : ((((w6.setCell ⟨w.heap.size + 1 + 1, 0, none⟩ (.string ⟨#[120, 121]⟩)).setCell ⟨w.heap.size + 1 + 1, 1, none⟩ (.bool true)).setCell ⟨w.heap.size + 1, 0, none⟩ (.string ⟨#[120, 121]⟩)).setCell ⟨w.heap.size + 1, 1, none⟩ (.bool true)).heap[w.heap.size + 1]? = some (.cells #[.string ⟨#[120, 121]⟩, .bool true] 60 (0, 0)) :=
      heap_setCell_same _ (w.heap.size + 1) 1 #[.string ⟨#[120, 121]⟩, .bool false] _ _ (heap_setCell_same _ (w.heap.size + 1) 0 #[.string ⟨#[]⟩, .bool false] _ _ ((heap_setCell_other _ _ _ _ (by simp only; omega)).trans ((heap_setCell_other _ _ _ _ (by simp only; omega)).trans R6)))
    have HBF := hid' ((((HB6.out.setCell (p := ⟨w.heap.size + 1 + 1, 0, none⟩) (by simp only; omega) (.string ⟨#[120, 121]⟩)).setCell (p := ⟨w.heap.size + 1 + 1, 1, none⟩) (by simp only; omega) (.bool true)).setCell (p := ⟨w.heap.size + 1, 0, none⟩) (by simp only; omega) (.string ⟨#[120, 121]⟩)).setCell (p := ⟨w.heap.size + 1, 1, none⟩) (by simp only; omega) (.bool true))
    have HQF := hid' RF
    clear R6 RF
    go_wp2
    refine bodyPost_ret (v := .agg #[.string ⟨#[120, 121]⟩, .bool true]) ?_ rfl ⟨rfl, HBF.out⟩
    exact results_cell_row (fn := Tryd.f29) (p := 6) (ty := 60) (by kernel_rfl) _ _ (w.heap.size + 1) _ #[.string ⟨#[120, 121]⟩, .bool true] (0, 0) _ (by simp) HQF.out Tryd.underlying60 rfl (by kernel_rfl)
end Go.Proofs.YtahaienalidiiaaDoor
