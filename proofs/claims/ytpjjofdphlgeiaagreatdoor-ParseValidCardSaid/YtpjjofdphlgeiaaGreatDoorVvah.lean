/- Parts of the proof, together. What block, lineEnds, fault, gap, dedent and indent make of a scanner. Conditions: its blocks lie from block B on; short texts. What gap makes of a scanner: it goes over spaces and a comment. Conditions: its blocks lie from block B on; short texts. -/
import Derived.StillTailTactics
import Derived.Test.YtpjjofdphlgeiaaGreatDoorVvag
namespace Go.Proofs.YtpjjofdphlgeiaaGreatDoor
open Go.RowKit
open Lx

section
variable {W : World} {B sb : Nat} {T : ByteArray} {p : Nat} {st : St}
set_option maxHeartbeats 800000 in
theorem block_any (h : ScanAt W B sb T p st) (b0 : Nat) (bs : List Nat) (hb : st.blocks = b0 :: bs) (hl : bs.length ≤ 1000) :
    Calls Tryz.prog 117 #[.pointer (some ⟨sb, 0, none⟩)] W fun e w' => e = .returned (.int .i64 (b0 : Int)) ∧ ∃ n, w' = W.drewN n := by
  obtain ⟨vt, vb, vo, h⟩ := h
  have hbl := h.blks
  rw [hb] at hbl
  obtain ⟨g, cap, rfl, _, _, _, hx⟩ := own_some hbl (by simp)
  have hlast := hx bs.length (iv b0) (by simp)
  rw [List.length_cons] at h
  obtain ⟨c0, c1, c2, c3, c4⟩ := h.cells
  clear h hbl hx hb c0 c1 c2 c4
  unfold iv at hlast
  have h0 : (0 : Int) ≤ (bs.length : Int) := by omega
  go_enter Tryz.func117, Tryz.ntmps117
  go_wp2
  go_quiet (fail)
  go_wp2
  go_ret
  exact ⟨rfl, nq, rfl⟩
theorem ends_end (T : ByteArray) : ends (T.data.toList.drop T.size) = true := by rw [List.drop_eq_nil_of_le (by simp)]; rfl
theorem ends_at (T : ByteArray) (p : Nat) (h : p < T.size) : ends (T.data.toList.drop p) = (T[p] == 10) := by rw [drop_at T p h]; rfl
theorem byte_eq (b c : UInt8) : (b == c) = ((b.toNat : Int) == (c.toNat : Int)) := by
  rw [Bool.eq_iff_iff]
  simp only [beq_iff_eq, ← UInt8.toNat_inj]
  omega
set_option maxRecDepth 10000 in
set_option maxHeartbeats 1600000 in
theorem lineEnds_any (h : ScanAt W B sb T p st) (hp : p ≤ T.size) :
    Calls Tryz.prog 94 #[.pointer (some ⟨sb, 0, none⟩)] W fun e w' => e = .returned (.bool (ends (T.data.toList.drop p))) ∧ ∃ n, w' = W.drewN n := by
  obtain ⟨vt, vb, vo, h⟩ := h
  obtain ⟨c0, c1, c2, c3, c4⟩ := h.cells
  clear h c2 c3 c4
  by_cases e : p = T.size
  · subst e
    rw [ends_end]
    go_enter Tryz.func94, Tryz.ntmps94
    go_wp2
    go_quiet (fail)
    go_wp2
    go_ret
    exact ⟨rfl, nq, rfl⟩
  · have hlt : p < T.size := by omega
    have he := ends_at T p hlt
    have hb := byte_eq T[p] 10
    have hne : ((p : Int) == (T.size : Int)) = false := by rw [beq_eq_false_iff_ne]; omega
    have hne2 : (p == T.size) = false := by rw [beq_eq_false_iff_ne]; omega
    have hlt' : (p : Int) < (T.size : Int) := by omega
    rw [he, hb, show (((10 : UInt8).toNat : Nat) : Int) = 10 from rfl]
    clear he hb hp e
    go_enter Tryz.func94, Tryz.ntmps94
    go_wp2
    go_quiet (fail)
    go_wp2
    go_ret
    exact ⟨rfl, nq, rfl⟩
/-- An error with a place. -/
def FaultV (A : Nat → Addr) (W : World) (B : Nat) (v : Value) (pos : Nat) : Prop := ∃ g, v = .iface 67 (.pointer (some ⟨g, 0, none⟩)) ∧ B ≤ g ∧ W.heap[g]? = some (.cells #[.int .i64 (pos : Int), E A 0] 84 (0, 0))
theorem FaultV.below {A : Nat → Addr} {W W' : World} {v : Value} {pos : Nat} (h : FaultV A W B v pos) (hb : Below W.heap.size W W') : FaultV A W' B v pos := let ⟨g, h1, h2, h3⟩ := h; ⟨g, h1, h2, (hb.block g (Array.getElem?_eq_some_iff.1 h3).1).trans h3⟩
theorem fault_any (A : Nat → Addr) (pos : Nat) (W : World) (hS : W.cell? ⟨4, 0, none⟩ = some (E A 0)) (hB : B ≤ W.heap.size) :
    Calls Tryz.prog 98 #[.int .i64 (pos : Int)] W fun e w' => ∃ v, e = .returned v ∧ FaultV A w' B v pos ∧ Below W.heap.size W w' := by
  unfold E at hS
  go_enter Tryz.func98, Tryz.ntmps98
  go_wp2
  go_ret
  exact ⟨_, rfl, ⟨W.heap.size, rfl, hB, heap_alloc_new _ _⟩, (Below.refl _ _).alloc (Nat.le_refl _) _⟩
end
end Go.Proofs.YtpjjofdphlgeiaaGreatDoor

namespace Go.Proofs.YtpjjofdphlgeiaaGreatDoor
open Go.RowKit
open Lx

theorem ext_drop (T : ByteArray) (p : Nat) : (T.extract p T.size).data.toList = T.data.toList.drop p := by
  rw [ByteArray.data_extract, Array.toList_extract]
  simp [List.extract, List.take_of_length_le]
theorem gapF_end (T : ByteArray) (p n : Nat) (hn : lenF sp (T.data.toList.drop p) = n) (h : p + n = T.size) : gapF (T.data.toList.drop p) = n := by
  unfold gapF
  rw [hn, List.drop_drop, h, List.drop_eq_nil_of_le (by simp)]
theorem gapF_mid (T : ByteArray) (p n : Nat) (hn : lenF sp (T.data.toList.drop p) = n) (h : p + n < T.size) : gapF (T.data.toList.drop p) = if T[p + n] == 10 then n else if T[p + n] == 35 then n + lenF tb (T.data.toList.drop (p + n)) else n := by
  unfold gapF
  rw [hn, List.drop_drop, drop_at T (p + n) h]
section
variable {W : World} {B sb : Nat} {T : ByteArray} {p : Nat} {st : St}
set_option maxRecDepth 10000 in
set_option maxHeartbeats 1600000 in
theorem gap_any (h : ScanAt W B sb T p st) (hp : p ≤ T.size) (hT : T.size ≤ 1000000) :
    Calls Tryz.prog 93 #[.pointer (some ⟨sb, 0, none⟩)] W fun e w' => e = .returned (.tuple #[]) ∧ ScanAt w' B sb T (p + gapF (T.data.toList.drop p)) st ∧ Below B W w' := by
  obtain ⟨vt, vb, vo, h⟩ := h
  obtain ⟨n, hn⟩ : ∃ n, lenF sp (T.data.toList.drop p) = n := ⟨_, rfl⟩
  have hle : p + n ≤ T.size := by have := lenF_le sp (T.data.toList.drop p); rw [hn] at this; simp at this; omega
  have HL := hid' (fun W => length_sp (T.extract p T.size) (by rw [ByteArray.size_extract]; omega) W)
  rw [ext_drop, hn] at HL
  have H1 : Hid (ScanV (W.setCell ⟨sb, 1, none⟩ (.int .i64 ((p : Int) + (n : Int)))).drew B sb T (p + n) st vt vb vo) := hid' (by
    rw [show (p : Int) + (n : Int) = ((p + n : Nat) : Int) by omega]
    exact (h.setPos (p + n)).keep fun _ _ _ => rfl)
  have HB1 : Hid (Below B W (W.setCell ⟨sb, 1, none⟩ (.int .i64 ((p : Int) + (n : Int)))).drew) := hid' ((Below.setCell (Below.refl B W) (p := ⟨sb, 1, none⟩) (by simp only; exact h.high) _).drew)
  have hB := h.high
  obtain ⟨c0, c1, c2, c3, c4⟩ := h.cells
  have f1 := h.open_ 1
  have hG := hid' (gapF_end T p n hn)
  have hG2 := hid' (gapF_mid T p n hn)
  clear h c2 c3 c4 hn
  generalize gapF (T.data.toList.drop p) = r at hG hG2 ⊢
  go_enter Tryz.func93, Tryz.ntmps93
  go_wp2_with fail
  go_still_tail 17, (by kernel_rfl)
  still_call (HL.out _)
  repeat still_step
  refine wpStill_nil ?_
  change wpList _ _ _ _ _ W.drew
  go_wp2_with fail
  have D1 := H1.out
  have B1 := HB1.out
  generalize (W.setCell ⟨sb, 1, none⟩ (.int .i64 ((p : Int) + (n : Int)))).drew = w1 at D1 B1 ⊢
  have hsz1 : B ≤ w1.heap.size := by have := D1.lt; omega
  clear H1 HB1 c0 c1 f1 HL
  generalize hq : p + n = q at D1 hG hG2 hle
  have HQ := hid' hq
  clear hq
  obtain ⟨c0, c1, c2, c3, c4⟩ := D1.cells
  have HD := hid' D1
  have HB := hid' B1
  have HE := hid' (fun m => lineEnds_any (W := w1.drewN m) (ScanAt.drewN ⟨_, _, _, D1⟩ m) hle)
  clear c2 c3 c4 D1 B1
  by_cases he : q = T.size
  · have hr := hG.out he
    rw [show T.data.toList.drop (q) = T.data.toList.drop T.size by rw [he], ends_end] at HE
    have HR := hid' hr
    clear hr he hG hG2
    go_quiet ((go_at_call 94; exact Calls.quiet_of (HE.out _)))
    go_wp2
    go_end0
    exact ⟨rfl, by rw [HR.out, HQ.out]; exact ⟨_, _, _, HD.out.keep fun _ _ _ => rfl⟩, ⟨HB.out.os, HB.out.tape, HB.out.output, HB.out.size, HB.out.block⟩⟩
  · have hlt : q < T.size := by omega
    have hr := hG2.out hlt
    rw [ends_at T (q) hlt] at HE
    by_cases h10 : T[q] = 10
    · rw [h10] at hr HE
      have HR : Hid (r = n) := hid' hr
      have HE' : Hid (∀ m, Calls Tryz.prog 94 #[.pointer (some ⟨sb, 0, none⟩)] (w1.drewN m) fun e w' => e = .returned (.bool true) ∧ ∃ n, w' = (w1.drewN m).drewN n) := HE
      clear hr he hG hG2 h10 HE
      go_quiet ((go_at_call 94; exact Calls.quiet_of (HE'.out _)))
      go_wp2
      go_end0
      exact ⟨rfl, by rw [HR.out, HQ.out]; exact ⟨_, _, _, HD.out.keep fun _ _ _ => rfl⟩, ⟨HB.out.os, HB.out.tape, HB.out.output, HB.out.size, HB.out.block⟩⟩
    · have n10 : (T[q] == 10) = false := by rw [beq_eq_false_iff_ne]; exact h10
      rw [n10] at hr HE
      have hb35 := byte_eq T[q] 35
      rw [show (((35 : UInt8).toNat : Nat) : Int) = 35 from rfl] at hb35
      have hlt' : ((q : Nat) : Int) < (T.size : Int) := by omega
      by_cases h35 : T[q] = 35
      · have y35 : (T[q] == 35) = true := by rw [h35]; rfl
        rw [y35] at hr
        have hbb : ((T[q].toNat : Int) == 35) = true := by rw [← hb35]; exact y35
        obtain ⟨m, hm⟩ : ∃ m, lenF tb (T.data.toList.drop (q)) = m := ⟨_, rfl⟩
        rw [hm] at hr
        have hmle : q + m ≤ T.size := by have := lenF_le tb (T.data.toList.drop (q)); rw [hm] at this; simp at this; omega
        have HL := hid' (fun W => length_tb (T.extract (q) T.size) (by rw [ByteArray.size_extract]; omega) W)
        rw [ext_drop, hm] at HL
        have HR : Hid (r = n + m) := hid' (by simpa using hr)
        clear hr he hG hG2 h10 hb35 y35 n10 h35 hm
        go_quiet ((go_at_call 94; exact Calls.quiet_of (HE.out _)))
        generalize hwd : w1.drewN nq = w2
        have D2 : ScanV w2 B sb T q st vt vb vo := by rw [← hwd]; exact HD.out.keep fun _ _ _ => rfl
        have B2 : Below B W w2 := by rw [← hwd]; exact ⟨HB.out.os, HB.out.tape, HB.out.output, HB.out.size, HB.out.block⟩
        obtain ⟨c0, c1, c2, c3, c4⟩ := D2.cells
        have f1 := D2.open_ 1
        have HF : Hid (ScanV (w2.setCell ⟨sb, 1, none⟩ (.int .i64 ((q : Int) + (m : Int)))).drew B sb T (q + m) st vt vb vo) := hid' (by
          rw [show (q : Int) + (m : Int) = ((q + m : Nat) : Int) by omega]
          exact (D2.setPos (q + m)).keep fun _ _ _ => rfl)
        have HBF : Hid (Below B W (w2.setCell ⟨sb, 1, none⟩ (.int .i64 ((q : Int) + (m : Int)))).drew) := hid' ((Below.setCell B2 (p := ⟨sb, 1, none⟩) (by simp only; exact D2.high) _).drew)
        clear hwd c2 c3 c4 D2 B2 HD HB HE
        go_wp2_with fail
        go_still_tail 17, (by kernel_rfl)
        still_call (HL.out _)
        repeat still_step
        refine wpStill_nil ?_
        change wpList _ _ _ _ _ w2.drew
        go_wp2
        go_end0
        exact ⟨rfl, by rw [HR.out, ← Nat.add_assoc, HQ.out]; exact ⟨_, _, _, HF.out⟩, HBF.out⟩
      · have y35 : (T[q] == 35) = false := by rw [beq_eq_false_iff_ne]; exact h35
        rw [y35] at hr
        have hbb : ((T[q].toNat : Int) == 35) = false := by rw [← hb35]; exact y35
        have HR : Hid (r = n) := hid' (by simpa using hr)
        clear hr he hG hG2 h10 hb35 y35 n10 h35
        go_quiet ((go_at_call 94; exact Calls.quiet_of (HE.out _)))
        go_wp2
        go_end0
        exact ⟨rfl, by rw [HR.out, HQ.out]; exact ⟨_, _, _, HD.out.keep fun _ _ _ => rfl⟩, ⟨HB.out.os, HB.out.tape, HB.out.output, HB.out.size, HB.out.block⟩⟩
end
end Go.Proofs.YtpjjofdphlgeiaaGreatDoor
