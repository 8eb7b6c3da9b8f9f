/- What Write, Append, Sync and Read make of a disk, up or down. Conditions: the disk's blocks lie from block B on; the errors of api lie in their variables. -/
import Derived.Test.YtahaienalidiiaaDoorDiskDo
namespace Go.Proofs.YtahaienalidiiaaDoor
open Go.RowKit Go.Maps

theorem write_any {R : World → Prop} (sb : Nat) (key t : ByteArray) (v : Value) (W : World) (H : Calls Tryd.prog 25 #[.pointer (some ⟨sb, 0, none⟩), .string key, chg 0 t] W fun e w' => e = .returned v ∧ R w') :
    Calls Tryd.prog 9 #[.pointer (some ⟨sb, 0, none⟩), .string key, .string t] W fun e w' => e = .returned v ∧ R w' := by
  unfold chg at H
  have HH := hid' H
  clear H
  go_enter Tryd.func9, Tryd.ntmps9
  go_wp2_with (go_at_call 25; refine (HH.out).mono ?_; rintro e w1 ⟨rfl, h1⟩)
  go_ret
  exact ⟨rfl, h1⟩
theorem append_any {R : World → Prop} (sb : Nat) (key t : ByteArray) (v : Value) (W : World) (H : Calls Tryd.prog 25 #[.pointer (some ⟨sb, 0, none⟩), .string key, chg 1 t] W fun e w' => e = .returned v ∧ R w') :
    Calls Tryd.prog 10 #[.pointer (some ⟨sb, 0, none⟩), .string key, .string t] W fun e w' => e = .returned v ∧ R w' := by
  unfold chg at H
  have HH := hid' H
  clear H
  go_enter Tryd.func10, Tryd.ntmps10
  go_wp2_with (go_at_call 25; refine (HH.out).mono ?_; rintro e w1 ⟨rfl, h1⟩)
  go_ret
  exact ⟨rfl, h1⟩
section
variable {W W' : World} {B sb fb cb nf nc : Nat} {F C : ByteArray → Option Value} {ops armed : Int} {down : Bool}
/-- A variable's cell, behind what the disk's calls turn. -/
theorem Tri.cell (h : Tri sb fb cb W W') (hh : B ≤ sb ∧ B ≤ fb ∧ B ≤ cb) {p : Addr} (hp : p.block < B) {v : Value} (hv : W.cell? p = some v) : W'.cell? p = some v := by
  have e : W'.heap[p.block]? = W.heap[p.block]? := h.block _ (World.block_lt_of_cell? W _ hv) (by omega) (by omega) (by omega)
  simp only [World.cell?] at hv ⊢
  rwa [e]
set_option maxHeartbeats 800000 in
theorem sync_up (h : DiskAt W B sb fb cb nf nc F C ops armed false) (hBW : 3 < B) (ho : 0 ≤ ops) (ho2 : ops < 1000000) (ha1 : -9223372036854775808 ≤ armed) (ha2 : armed < 9223372036854775808) (ha : armed ≠ 1)
    (key : ByteArray) (hk : key.size ≤ 1000) (hv : Pth.splitOK Pth.partOK key.data.toList = true) (m : Int) (hm : W.cell? ⟨3, 0, none⟩ = some (.int .i64 m)) :
    Calls Tryd.prog 12 #[.pointer (some ⟨sb, 0, none⟩), .string key] W fun e w' => e = .returned .nilIface ∧ DiskAt w' B sb fb cb nf nc F (delF C key) (ops + 1) (armed' armed) false ∧ Tri sb fb cb W w' := by
  have HBG := hid' (begin_up h ho ho2 ha1 ha2)
  rw [decide_eq_true ha, decide_eq_false ha] at HBG
  have HM := hid' hm
  have HVV := hid' hv
  have hhi := h.high
  clear hm h hv
  go_enter Tryd.func12, Tryd.ntmps12
  go_wp2_with fail
  refine (HBG.out).mono ?_
  rintro e w1 ⟨rfl, h1, T1⟩
  have hV := valid_below key m w1 (by omega) (T1.cell hhi hBW HM.out)
  rw [HVV.out] at hV
  have HV := hid' hV
  have H1 := hid' h1
  have HT1 := hid' T1
  clear h1 T1 hV
  go_wp2_with fail
  refine (HV.out).mono ?_
  rintro e w2 ⟨rfl, hb2⟩
  have D2 := H1.out.below hb2
  obtain ⟨c0, c1, c2, c3, c4⟩ := D2.cells
  obtain ⟨w3, hr, hm3, ht⟩ := D2.changed.drop Tryd.underlying55 key (by unfold maxLen; omega) 0
  obtain ⟨D3, T3⟩ := D2.turnC hm3 ht
  have HD3 := hid' D3
  have HT3 := hid' ((HT1.out.trans (Tri.of_below hb2)).trans T3)
  clear D2 D3 T3 hb2 hm3 ht
  go_wp2
  go_ret
  exact ⟨rfl, HD3.out, HT3.out⟩
/-- The call ahead of which the power goes. -/
theorem sync_last (A : Nat → Addr) (h : DiskAt W B sb fb cb nf nc F C ops 1 false) (hBW : 2 < B) (ho : 0 ≤ ops) (ho2 : ops < 1000000) (key : ByteArray) (hS : W.cell? ⟨2, 0, none⟩ = some (E A 15)) :
    Calls Tryd.prog 12 #[.pointer (some ⟨sb, 0, none⟩), .string key] W fun e w' => e = .returned (E A 15) ∧ DiskAt w' B sb fb cb nf nc F C (ops + 1) 0 true ∧ Tri sb fb cb W w' := by
  have HBG := hid' (begin_up h ho ho2 (by omega) (by omega))
  have HM := hid' hS
  have hhi := h.high
  rw [show armed' 1 = 0 from rfl] at HBG
  simp only [ne_eq, not_true_eq_false, decide_false, decide_true] at HBG
  clear hS h
  go_enter Tryd.func12, Tryd.ntmps12
  go_wp2_with fail
  refine (HBG.out).mono ?_
  rintro e w1 ⟨rfl, h1, T1⟩
  have hc := T1.cell hhi hBW HM.out
  have H1 := hid' h1
  have HT1 := hid' T1
  clear h1 T1
  unfold E at *
  go_wp2
  go_ret
  exact ⟨rfl, H1.out, HT1.out⟩
set_option maxHeartbeats 800000 in
theorem read_up (h : DiskAt W B sb fb cb nf nc F C ops armed false) (ho : 0 ≤ ops) (ho2 : ops < 1000000) (ha1 : -9223372036854775808 ≤ armed) (ha2 : armed < 9223372036854775808) (ha : armed ≠ 1) (key : ByteArray) (hk : key.size ≤ 1000) (s : ByteArray) (b : Bool) (hF : (F key).getD cont0 = cont s b) :
    Calls Tryd.prog 15 #[.pointer (some ⟨sb, 0, none⟩), .string key] W fun e w' => e = .returned (.tuple #[.string s, .bool b, .nilIface]) ∧ DiskAt w' B sb fb cb nf nc F C (ops + 1) (armed' armed) false ∧ Tri sb fb cb W w' := by
  have HBG := hid' (begin_up h ho ho2 ha1 ha2)
  rw [decide_eq_true ha, decide_eq_false ha] at HBG
  have HF := hid' hF
  clear h hF
  go_enter Tryd.func15, Tryd.ntmps15
  go_wp2_with fail
  refine (HBG.out).mono ?_
  rintro e w1 ⟨rfl, h1, T1⟩
  obtain ⟨c0, c1, c2, c3, c4⟩ := h1.cells
  have hlk := h1.files.look Tryd.underlying54 (zero_cont _) key (by unfold maxLen; omega)
  rw [HF.out] at hlk
  unfold cont at hlk
  have H2 := hid' (h1.alloc (.cells #[.string s, .bool b] 60)).drew
  have HT2 := hid' (T1.alloc (.cells #[.string s, .bool b] 60)).drew
  clear h1 T1
  go_wp2
  go_region
  go_wp2
  go_returns
  exact ⟨rfl, H2.out, HT2.out⟩
theorem read_last (A : Nat → Addr) (h : DiskAt W B sb fb cb nf nc F C ops 1 false) (hBW : 2 < B) (ho : 0 ≤ ops) (ho2 : ops < 1000000) (key : ByteArray) (hS : W.cell? ⟨2, 0, none⟩ = some (E A 15)) :
    Calls Tryd.prog 15 #[.pointer (some ⟨sb, 0, none⟩), .string key] W fun e w' => e = .returned (.tuple #[.string ⟨#[]⟩, .bool false, E A 15]) ∧ DiskAt w' B sb fb cb nf nc F C (ops + 1) 0 true ∧ Tri sb fb cb W w' := by
  have HBG := hid' (begin_up h ho ho2 (by omega) (by omega))
  have HM := hid' hS
  have hhi := h.high
  rw [show armed' 1 = 0 from rfl] at HBG
  simp only [ne_eq, not_true_eq_false, decide_false, decide_true] at HBG
  clear hS h
  go_enter Tryd.func15, Tryd.ntmps15
  go_wp2_with fail
  refine (HBG.out).mono ?_
  rintro e w1 ⟨rfl, h1, T1⟩
  have hc := T1.cell hhi hBW HM.out
  have H1 := hid' h1.drew
  have HT1 := hid' T1.drew
  clear h1 T1
  unfold E at *
  go_wp2
  go_region
  go_wp2
  go_returns
  exact ⟨rfl, H1.out, HT1.out⟩
theorem read_down (A : Nat → Addr) (h : DiskAt W B sb fb cb nf nc F C ops armed true) (key : ByteArray) (hS : W.cell? ⟨2, 0, none⟩ = some (E A 15)) :
    Calls Tryd.prog 15 #[.pointer (some ⟨sb, 0, none⟩), .string key] W fun e w' => e = .returned (.tuple #[.string ⟨#[]⟩, .bool false, E A 15]) ∧ DiskAt w' B sb fb cb nf nc F C ops armed true ∧ Tri sb fb cb W w' := by
  have HBG := hid' (begin_down h)
  have H1 := hid' h.drew
  have HT1 := hid' (Tri.refl sb fb cb W).drew
  clear h
  unfold E at *
  go_enter Tryd.func15, Tryd.ntmps15
  go_wp2_with (go_at_call 26; refine (HBG.out).mono ?_; rintro e w1 ⟨rfl, rfl⟩)
  go_region
  go_wp2
  go_returns
  exact ⟨rfl, H1.out, HT1.out⟩
end
end Go.Proofs.YtahaienalidiiaaDoor
