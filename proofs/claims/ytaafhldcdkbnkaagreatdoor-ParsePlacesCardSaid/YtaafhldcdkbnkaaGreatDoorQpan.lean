/- Parts of the proof, together. What gap makes of a scanner: it goes over spaces and a comment. Conditions: its blocks lie from block B on; short texts. -/
import Derived.Test.YtaafhldcdkbnkaaGreatDoorQpam
namespace Go.Proofs.YtaafhldcdkbnkaaGreatDoor
open Go.RowKit
open Lx

theorem ext_drop (T : ByteArray) (p : Nat) : (T.extract p T.size).data.toList = T.data.toList.drop p := by
  rw [ByteArray.data_extract, Array.toList_extract]
  simp [List.extract, List.take_of_length_le]
theorem gapF_end (T : ByteArray) (p n : Nat) (hn : lenF sp (T.data.toList.drop p) = n) (h : p + n = T.size) : gapF (T.data.toList.drop p) = n := by
  unfold gapF
  rw [hn, List.drop_drop, h, List.drop_eq_nil_of_le (by simp)]
theorem gapF_mid (T : ByteArray) (p n : Nat) (hn : lenF sp (T.data.toList.drop p) = n) (h : p + n < T.size) : gapF (T.data.toList.drop p) = if T[p + n] == 10 then n else if T[p + n] == 35 then n + lenF tb (T.data.toList.drop (p + n)) else n := by
  unfold gapF
  rw [hn, List.drop_drop, drop_at T (p + n) h]
section
variable {W : World} {B sb : Nat} {T : ByteArray} {p : Nat} {st : St}
set_option maxRecDepth 10000 in
set_option maxHeartbeats 1600000 in
theorem gap_any (h : ScanAt W B sb T p st) (hp : p ≤ T.size) (hT : T.size ≤ 1000000) :
    Calls Tryz.prog 93 #[.pointer (some ⟨sb, 0, none⟩)] W fun e w' => e = .returned (.tuple #[]) ∧ ScanAt w' B sb T (p + gapF (T.data.toList.drop p)) st ∧ Below B W w' := by
  obtain ⟨vt, vb, vo, h⟩ := h
  obtain ⟨n, hn⟩ : ∃ n, lenF sp (T.data.toList.drop p) = n := ⟨_, rfl⟩
  have hle : p + n ≤ T.size := by have := lenF_le sp (T.data.toList.drop p); rw [hn] at this; simp at this; omega
  have HL := hid' (fun W => length_sp (T.extract p T.size) (by rw [ByteArray.size_extract]; omega) W)
  rw [ext_drop, hn] at HL
  have H1 : Hid (ScanV (W.setCell ⟨sb, 1, none⟩ (.int .i64 ((p : Int) + (n : Int)))).drew B sb T (p + n) st vt vb vo) := hid' (by
    rw [show (p : Int) + (n : Int) = ((p + n : Nat) : Int) by omega]
    exact (h.setPos (p + n)).keep fun _ _ _ => rfl)
  have HB1 : Hid (Below B W (W.setCell ⟨sb, 1, none⟩ (.int .i64 ((p : Int) + (n : Int)))).drew) := hid' ((Below.setCell (Below.refl B W) (p := ⟨sb, 1, none⟩) (by simp only; exact h.high) _).drew)
  have hB := h.high
  obtain ⟨c0, c1, c2, c3, c4⟩ := h.cells
  have f1 := h.open_ 1
  have hG := hid' (gapF_end T p n hn)
  have hG2 := hid' (gapF_mid T p n hn)
  clear h c2 c3 c4 hn
  generalize gapF (T.data.toList.drop p) = r at hG hG2 ⊢
  go_enter Tryz.func93, Tryz.ntmps93
  go_wp2_with fail
  go_still_tail 17, (by kernel_rfl)
  still_call (HL.out _)
  repeat still_step
  refine wpStill_nil ?_
  change wpList _ _ _ _ _ W.drew
  go_wp2_with fail
  have D1 := H1.out
  have B1 := HB1.out
  generalize (W.setCell ⟨sb, 1, none⟩ (.int .i64 ((p : Int) + (n : Int)))).drew = w1 at D1 B1 ⊢
  have hsz1 : B ≤ w1.heap.size := by have := D1.lt; omega
  clear H1 HB1 c0 c1 f1 HL
  generalize hq : p + n = q at D1 hG hG2 hle
  have HQ := hid' hq
  clear hq
  obtain ⟨c0, c1, c2, c3, c4⟩ := D1.cells
  have HD := hid' D1
  have HB := hid' B1
  have HE := hid' (fun m => lineEnds_any (W := w1.drewN m) (ScanAt.drewN ⟨_, _, _, D1⟩ m) hle)
  clear c2 c3 c4 D1 B1
  by_cases he : q = T.size
  · have hr := hG.out he
    rw [show T.data.toList.drop (q) = T.data.toList.drop T.size by rw [he], ends_end] at HE
    have HR := hid' hr
    clear hr he hG hG2
    go_quiet ((go_at_call 94; exact Calls.quiet_of (HE.out _)))
    go_wp2
    go_end0
    exact ⟨rfl, by rw [HR.out, HQ.out]; exact ⟨_, _, _, HD.out.keep fun _ _ _ => rfl⟩, ⟨HB.out.os, HB.out.tape, HB.out.output, HB.out.size, HB.out.block⟩⟩
  · have hlt : q < T.size := by omega
    have hr := hG2.out hlt
    rw [ends_at T (q) hlt] at HE
    by_cases h10 : T[q] = 10
    · rw [h10] at hr HE
      have HR : Hid (r = n) := hid' hr
      have HE' : Hid (∀ m, Calls Tryz.prog 94 #[.pointer (some ⟨sb, 0, none⟩)] (w1.drewN m) fun e w' => e = .returned (.bool true) ∧ ∃ n, w' = (w1.drewN m).drewN n) := HE
      clear hr he hG hG2 h10 HE
      go_quiet ((go_at_call 94; exact Calls.quiet_of (HE'.out _)))
      go_wp2
      go_end0
      exact ⟨rfl, by rw [HR.out, HQ.out]; exact ⟨_, _, _, HD.out.keep fun _ _ _ => rfl⟩, ⟨HB.out.os, HB.out.tape, HB.out.output, HB.out.size, HB.out.block⟩⟩
    · have n10 : (T[q] == 10) = false := by rw [beq_eq_false_iff_ne]; exact h10
      rw [n10] at hr HE
      have hb35 := byte_eq T[q] 35
      rw [show (((35 : UInt8).toNat : Nat) : Int) = 35 from rfl] at hb35
      have hlt' : ((q : Nat) : Int) < (T.size : Int) := by omega
      by_cases h35 : T[q] = 35
      · have y35 : (T[q] == 35) = true := by rw [h35]; rfl
        rw [y35] at hr
        have hbb : ((T[q].toNat : Int) == 35) = true := by rw [← hb35]; exact y35
        obtain ⟨m, hm⟩ : ∃ m, lenF tb (T.data.toList.drop (q)) = m := ⟨_, rfl⟩
        rw [hm] at hr
        have hmle : q + m ≤ T.size := by have := lenF_le tb (T.data.toList.drop (q)); rw [hm] at this; simp at this; omega
        have HL := hid' (fun W => length_tb (T.extract (q) T.size) (by rw [ByteArray.size_extract]; omega) W)
        rw [ext_drop, hm] at HL
        have HR : Hid (r = n + m) := hid' (by simpa using hr)
        clear hr he hG hG2 h10 hb35 y35 n10 h35 hm
        go_quiet ((go_at_call 94; exact Calls.quiet_of (HE.out _)))
        generalize hwd : w1.drewN nq = w2
        have D2 : ScanV w2 B sb T q st vt vb vo := by rw [← hwd]; exact HD.out.keep fun _ _ _ => rfl
        have B2 : Below B W w2 := by rw [← hwd]; exact ⟨HB.out.os, HB.out.tape, HB.out.output, HB.out.size, HB.out.block⟩
        obtain ⟨c0, c1, c2, c3, c4⟩ := D2.cells
        have f1 := D2.open_ 1
        have HF : Hid (ScanV (w2.setCell ⟨sb, 1, none⟩ (.int .i64 ((q : Int) + (m : Int)))).drew B sb T (q + m) st vt vb vo) := hid' (by
          rw [show (q : Int) + (m : Int) = ((q + m : Nat) : Int) by omega]
          exact (D2.setPos (q + m)).keep fun _ _ _ => rfl)
        have HBF : Hid (Below B W (w2.setCell ⟨sb, 1, none⟩ (.int .i64 ((q : Int) + (m : Int)))).drew) := hid' ((Below.setCell B2 (p := ⟨sb, 1, none⟩) (by simp only; exact D2.high) _).drew)
        clear hwd c2 c3 c4 D2 B2 HD HB HE
        go_wp2_with fail
        go_still_tail 17, (by kernel_rfl)
        still_call (HL.out _)
        repeat still_step
        refine wpStill_nil ?_
        change wpList _ _ _ _ _ w2.drew
        go_wp2
        go_end0
        exact ⟨rfl, by rw [HR.out, ← Nat.add_assoc, HQ.out]; exact ⟨_, _, _, HF.out⟩, HBF.out⟩
      · have y35 : (T[q] == 35) = false := by rw [beq_eq_false_iff_ne]; exact h35
        rw [y35] at hr
        have hbb : ((T[q].toNat : Int) == 35) = false := by rw [← hb35]; exact y35
        have HR : Hid (r = n) := hid' (by simpa using hr)
        clear hr he hG hG2 h10 hb35 y35 n10 h35
        go_quiet ((go_at_call 94; exact Calls.quiet_of (HE.out _)))
        go_wp2
        go_end0
        exact ⟨rfl, by rw [HR.out, HQ.out]; exact ⟨_, _, _, HD.out.keep fun _ _ _ => rfl⟩, ⟨HB.out.os, HB.out.tape, HB.out.output, HB.out.size, HB.out.block⟩⟩
end
end Go.Proofs.YtaafhldcdkbnkaaGreatDoor
