/- What a change of a name that is no path makes of a disk. Conditions: the disk's blocks lie from block B on; the errors of api lie in their variables. -/
import Derived.Test.YtahaienalidiiaaDoorDiskDrop
namespace Go.Proofs.YtahaienalidiiaaDoor
open Go.RowKit Go.Maps

section
variable {W W' : World} {B sb fb cb nf nc : Nat} {F C : ByteArray → Option Value} {ops armed : Int} {down : Bool}
set_option maxRecDepth 100000 in
set_option maxHeartbeats 1600000 in
theorem do_bad (A : Nat → Addr) (h : DiskAt W B sb fb cb nf nc F C ops armed false) (hBW : 3 < B) (ho : 0 ≤ ops) (ho2 : ops < 1000000) (ha1 : -9223372036854775808 ≤ armed) (ha2 : armed < 9223372036854775808) (ha : armed ≠ 1) 
    (key : ByteArray) (hk : key.size ≤ 1000) (hv : Pth.splitOK Pth.partOK key.data.toList = false) (m : Int) (hm : W.cell? ⟨3, 0, none⟩ = some (.int .i64 m)) (hF : (F key).getD cont0 = cont ⟨#[]⟩ false) (hBE : 0 < B) (hS : W.cell? ⟨0, 0, none⟩ = some (E A 11)) (k : Int) (nb : Bool) (hon : onF k ⟨#[]⟩ ⟨#[]⟩ = cont ⟨#[]⟩ nb) :
    Calls Tryd.prog 25 #[.pointer (some ⟨sb, 0, none⟩), .string key, chg k ⟨#[]⟩] W fun e w' => e = .returned (E A 11) ∧ DiskAt w' B sb fb cb nf nc F C (ops + 1) (armed' armed) false ∧ Tri sb fb cb W w' := by
  have HM := hid' hm
  have HSS := hid' hS
  have HON := hid' (fun W => on_any k ⟨#[]⟩ ⟨#[]⟩ false (by decide) W)
  rw [hon] at HON
  have HBG := hid' (begin_up (h.alloc (.cells #[.int .i64 k, .string ⟨#[]⟩] 64)) ho ho2 ha1 ha2)
  rw [decide_eq_true ha, decide_eq_false ha] at HBG
  have HR5 : Hid ((W.alloc (.cells #[.int .i64 k, .string ⟨#[]⟩] 64)).heap[W.heap.size]? = some (.cells #[.int .i64 k, .string ⟨#[]⟩] 64 (0, 0))) := hid' (heap_alloc_new _ _)
  have HH := hid' h
  clear hm hS h
  unfold chg cont at HON
  unfold chg
  go_enter Tryd.func25, Tryd.ntmps25
  go_wp2_with fail
  refine (HBG.out).mono ?_
  rintro e w1 ⟨rfl, h1, hb1⟩
  have hz1 := hb1.size
  rw [World.size_alloc] at hz1
  have hap := h1.apart
  have hhi := h1.high
  have hlt := HH.out.lt
  have hwm := World.block_lt_of_cell? W _ HM.out
  have T1 : Tri sb fb cb W w1 := ((Tri.refl sb fb cb W).alloc _).trans hb1
  have r5 : w1.heap[W.heap.size]? = some (.cells #[.int .i64 k, .string ⟨#[]⟩] 64 (0, 0)) := (hb1.block _ (by simp) (by omega) (by omega) (by omega)).trans HR5.out
  have hm1 : w1.cell? ⟨3, 0, none⟩ = some (.int .i64 m) := by
    have e : w1.heap[3]? = W.heap[3]? := T1.block _ hwm (by omega) (by omega) (by omega)
    have := HM.out
    simp only [World.cell?] at this ⊢
    rwa [e]
  have hlk := h1.files.look Tryd.underlying54 (zero_cont _) key (by unfold maxLen; omega)
  rw [hF] at hlk
  obtain ⟨c0, c1, c2, c3, c4⟩ := h1.cells
  have D2 := h1.alloc (.cells #[.string ⟨#[]⟩, .bool false] 60)
  have R2 : InDo sb (W.heap.size) w1.heap.size k ⟨#[]⟩ ⟨#[]⟩ false m (w1.alloc (.cells #[.string ⟨#[]⟩, .bool false] 60)) :=
    ⟨(Below.heap_alloc _ _ _ (by omega)).trans r5, heap_alloc_new _ _, (((Below.refl _ _).alloc (Nat.le_refl _) _ : Below w1.heap.size w1 _).cell (p := ⟨3, 0, none⟩) (World.block_lt_of_cell? _ _ hm1)).trans hm1⟩
  have hlt1 := h1.lt
  have T2 := T1.alloc (.cells #[.string ⟨#[]⟩, .bool false] 60)
  obtain ⟨q0, q1, p0, p1, qm⟩ := R2.cells
  have HD2 := hid' D2
  have HR2 := hid' R2
  have HT2 := hid' T2
  have HVV := hid' hv
  unfold cont at hlk
  clear hF hv hon h1 T1 hb1 r5 HR5 HBG D2 R2 T2 hm1
  go_wp2_with fail
  refine (HON.out _).mono ?_
  rintro e w3 ⟨rfl, hb3⟩
  have hlt2 := HD2.out.lt
  have hz2 : (w1.alloc (.cells #[.string ⟨#[]⟩, .bool nb] 60)).heap.size = w1.heap.size + 1 := by simp
  have D3 := HD2.out.below hb3
  have R3 := HR2.out.below hb3
  have T3 := HT2.out.trans (Tri.of_below hb3)
  have hz3 := hb3.size
  have D4 := D3.alloc (.cells #[.string ⟨#[]⟩, .bool nb] 60)
  have R4 := R3.below ((Below.refl _ _).alloc (Nat.le_refl _) (.cells #[.string ⟨#[]⟩, .bool nb] 60))
  have T4 := T3.alloc (.cells #[.string ⟨#[]⟩, .bool nb] 60)
  have r8 : (w3.alloc (.cells #[.string ⟨#[]⟩, .bool nb] 60)).heap[w3.heap.size]? = some (.cells #[.string ⟨#[]⟩, .bool nb] 60 (0, 0)) := heap_alloc_new _ _
  have hV4 := valid_below key m _ (by omega) R4.mx
  rw [HVV.out] at hV4
  have HV4 := hid' hV4
  have HD4 := hid' D4
  have HR4 := hid' R4
  have HT4 := hid' T4
  have HR8 := hid' r8
  clear q0 q1 p0 p1 qm hV4 D3 R3 T3 D4 R4 T4 r8 hb3 HD2 HR2 HT2 c0 c1 c2 c3 c4 hlk
  go_wp2_with fail
  refine (HV4.out).mono ?_
  rintro e w5 ⟨rfl, hb5⟩
  have hz4 : (w3.alloc (.cells #[.string ⟨#[]⟩, .bool nb] 60)).heap.size = w3.heap.size + 1 := by simp
  have hz5 := hb5.size
  have D5 := HD4.out.below hb5
  have R5 := HR4.out.below hb5
  have T5 := HT4.out.trans (Tri.of_below hb5)
  have r8 := (hb5.block w3.heap.size (by omega)).trans HR8.out
  obtain ⟨q0, q1, p0, p1, qm⟩ := R5.cells
  have u0 := cell_of_row w5 w3.heap.size 0 _ _ _ r8
  have u1 := cell_of_row w5 w3.heap.size 1 _ _ _ r8
  have HD5 := hid' D5
  have HT5 := hid' T5
  have hE := T5.cell hhi hBE HSS.out
  clear D5 R5 T5 r8 hb5 HV4 HD4 HR4 HT4 HR8
  unfold E at *
  go_wp2
  go_ret
  exact ⟨rfl, HD5.out, HT5.out⟩
end
end Go.Proofs.YtahaienalidiiaaDoor
