/- Parts of the proof, together. What name and number make of a scanner. Conditions: its blocks lie from block B on; short texts; the words and the error of api lie in their variables. -/
import Derived.Test.YtaafhldcdkbnkaaGreatDoorQpap
namespace Go.Proofs.YtaafhldcdkbnkaaGreatDoor
open Go.RowKit
open Lx

theorem ext_take (R : ByteArray) (n : Nat) : (R.extract 0 n).data.toList = R.data.toList.take n := by
  rw [ByteArray.data_extract, Array.toList_extract]
  simp [List.extract]
theorem slice_pre (R : ByteArray) (n : Nat) (h : n ≤ R.size) (W : World) : (Instr.sliceAt 9 (.string R) none (some (.int .i64 (n : Int))) none).run Tryz.prog W = .ok (.string (R.extract 0 n)) W := by
  have h1 : (n : Int) ≤ (R.size : Int) := by omega
  go_simp
theorem slice_suf (T : ByteArray) (p : Nat) (h : p ≤ T.size) (W : World) : (Instr.sliceAt 9 (.string T) (some (.int .i64 (p : Int))) none none).run Tryz.prog W = .ok (.string (T.extract p T.size)) W := by
  have h1 : (p : Int) ≤ (T.size : Int) := by omega
  go_simp
section
variable {W : World} {B sb : Nat} {T : ByteArray} {p : Nat} {st : St}
set_option maxRecDepth 10000 in
set_option maxHeartbeats 1600000 in
theorem name_any (h : ScanAt W B sb T p st) (hp : p ≤ T.size) (hT : T.size ≤ 1000000) (hl : st.toks.length < 1000000) (hw : WordsAt W) :
    Calls Tryz.prog 118 #[.pointer (some ⟨sb, 0, none⟩)] W fun e w' => e = .returned (.tuple #[]) ∧
      ScanAt w' B sb T (p + lenF nb (T.data.toList.drop p)) { st with toks := st.toks ++ [⟨if isWord ((T.data.toList.drop p).take (lenF nb (T.data.toList.drop p))) then 4 else 1, (T.data.toList.drop p).take (lenF nb (T.data.toList.drop p)), p⟩] } ∧ Below B W w' := by
  obtain ⟨vt, vb, vo, D⟩ := h
  obtain ⟨c0, c1, c2, c3, c4⟩ := D.cells
  have hR := ext_drop T p
  have hRs : (T.extract p T.size).size = T.size - p := by rw [ByteArray.size_extract]; omega
  obtain ⟨R, hRe⟩ : ∃ R, T.extract p T.size = R := ⟨_, rfl⟩
  rw [hRe] at hR hRs
  rw [← hR]
  have HL := hid' (fun W => length_nb R (by omega) W)
  have hnle := lenF_le nb R.data.toList
  rw [show R.data.toList.length = R.size from by simp] at hnle
  generalize lenF nb R.data.toList = n at HL hnle ⊢
  have hX := ext_take R n
  have hXs : (R.extract 0 n).size = n := by rw [ByteArray.size_extract]; omega
  rw [← hX]
  have HWD := hid' (fun m => isWord_any (R.extract 0 n) (W.drewN m) (fun j v hv => hw j v hv))
  have hsl := slice_pre R n (by omega)
  have hsl0 := slice_suf T p hp
  rw [hRe] at hsl0
  generalize R.extract 0 n = X at HWD hXs hsl ⊢
  have HS := hid' D
  have HB := D.lt
  have hpn : p + n ≤ 1000000 := by omega
  clear D c2 c3 c4 hR hRe hX hw
  cases hwd : isWord X.data.toList with
  | true =>
    rw [hwd] at HWD
    clear hwd
    go_enter Tryz.func118, Tryz.ntmps118
    go_wp2
    go_quiet (fail)
    have HA := hid' (add_any (W := W.drewN nq) ⟨_, _, _, HS.out.keep fun _ _ _ => rfl⟩ 4 X n (by omega) (by omega) hl)
    go_wp2_with fail
    refine (HL.out _).mono ?_
    rintro e w1 ⟨rfl, rfl⟩
    go_wp2_with fail
    refine (HWD.out _).mono ?_
    rintro e w1 ⟨rfl, rfl⟩
    go_wp2_with fail
    refine (HA.out).mono ?_
    rintro e w4 ⟨rfl, h4, b4⟩
    have HS4 := hid' h4
    have HB4 : Hid (Below B W w4) := hid' ⟨b4.os, b4.tape, b4.output, b4.size, b4.block⟩
    clear h4 b4
    go_wp2
    go_end0
    exact ⟨rfl, HS4.out, HB4.out⟩
  | false =>
    rw [hwd] at HWD
    clear hwd
    go_enter Tryz.func118, Tryz.ntmps118
    go_wp2
    go_quiet (fail)
    have HA := hid' (add_any (W := W.drewN nq) ⟨_, _, _, HS.out.keep fun _ _ _ => rfl⟩ 1 X n (by omega) (by omega) hl)
    go_wp2_with fail
    refine (HL.out _).mono ?_
    rintro e w1 ⟨rfl, rfl⟩
    go_wp2_with fail
    refine (HWD.out _).mono ?_
    rintro e w1 ⟨rfl, rfl⟩
    go_wp2_with fail
    refine (HA.out).mono ?_
    rintro e w4 ⟨rfl, h4, b4⟩
    have HS4 := hid' h4
    have HB4 : Hid (Below B W w4) := hid' ⟨b4.os, b4.tape, b4.output, b4.size, b4.block⟩
    clear h4 b4
    go_wp2
    go_end0
    exact ⟨rfl, HS4.out, HB4.out⟩
end
end Go.Proofs.YtaafhldcdkbnkaaGreatDoor
