/- Parts of the proof, together. What number makes of a scanner. Conditions: its blocks lie from block B on; short texts; the error of api lies in its variable. -/
import Derived.Test.YtaafhldcdkbnkaaGreatDoorQpaq
namespace Go.Proofs.YtaafhldcdkbnkaaGreatDoor
open Go.RowKit
open Lx

section
variable {W : World} {B sb : Nat} {T : ByteArray} {p : Nat} {st : St}
/-- What number finds wrong. -/
def badNum (l : List UInt8) : Bool := 600 < lenF dg l || ((1 < lenF dg l && l.headD 0 == 48) || 0 < lenF lt (l.drop (lenF dg l)))
set_option maxRecDepth 10000 in
set_option maxHeartbeats 3200000 in
theorem number_any (A : Nat → Addr) (h : ScanAt W B sb T p st) (hp : p < T.size) (hT : T.size ≤ 1000000) (hl : st.toks.length < 1000000) (hE : W.cell? ⟨4, 0, none⟩ = some (E A 0)) :
    Calls Tryz.prog 119 #[.pointer (some ⟨sb, 0, none⟩)] W fun e w' => (badNum (T.data.toList.drop p) = true → ∃ v, e = .returned v ∧ FaultV A w' B v p ∧ Below B W w') ∧ (badNum (T.data.toList.drop p) = false → e = .returned .nilIface ∧
      ScanAt w' B sb T (p + lenF dg (T.data.toList.drop p)) { st with toks := st.toks ++ [⟨2, (T.data.toList.drop p).take (lenF dg (T.data.toList.drop p)), p⟩] } ∧ Below B W w') := by
  obtain ⟨vt, vb, vo, D⟩ := h
  obtain ⟨c0, c1, c2, c3, c4⟩ := D.cells
  have hR := ext_drop T p
  have hRs : (T.extract p T.size).size = T.size - p := by rw [ByteArray.size_extract]; omega
  obtain ⟨R, hRe⟩ : ∃ R, T.extract p T.size = R := ⟨_, rfl⟩
  rw [hRe] at hR hRs
  rw [← hR]
  have hRp : 0 < R.size := by omega
  have hRb : R.size ≤ 1000000 := by omega
  unfold badNum
  have HL := hid' (fun W => length_dg R (by omega) W)
  have hnle := lenF_le dg R.data.toList
  rw [show R.data.toList.length = R.size from by simp] at hnle
  have hhead : R.data.toList.headD 0 = R[0] := by
    have := drop_at R 0 hRp
    rw [List.drop_zero] at this
    rw [this]; rfl
  rw [hhead]
  generalize lenF dg R.data.toList = n at HL hnle ⊢
  have hX := ext_take R n
  have hXs : (R.extract 0 n).size = n := by rw [ByteArray.size_extract]; omega
  have hY := ext_drop R n
  rw [← hX, ← hY]
  have HLT := hid' (fun W => length_lt (R.extract n R.size) (by rw [ByteArray.size_extract]; omega) W)
  generalize lenF lt (R.extract n R.size).data.toList = m at HLT ⊢
  have hsl := slice_pre R n (by omega)
  have hsl2 := slice_suf R n (by omega)
  have hsl0 := slice_suf T p (by omega)
  rw [hRe] at hsl0
  generalize R.extract n R.size = Y at HLT hsl2
  generalize R.extract 0 n = X at hXs hsl ⊢
  have HS := hid' D
  have HB := D.lt
  have hBW : B ≤ W.heap.size := by have := D.high; omega
  have HF := hid' (fun q => fault_any (B := B) A p (W.drewN q) hE (by show B ≤ W.heap.size; omega))
  have hb48 := byte_eq R[0] 48
  rw [show (((48 : UInt8).toNat : Nat) : Int) = 48 from rfl] at hb48
  have h0s : (0 : Int) < (R.size : Int) := by omega
  rw [hb48]
  have hbn := byte_lt R[0]
  obtain ⟨bad, hbad⟩ : ∃ bad, (decide (600 < n) || ((decide (1 < n) && ((R[0].toNat : Int) == 48)) || decide (0 < m))) = bad := ⟨_, rfl⟩
  rw [hbad]
  have HBAD := hid' hbad
  clear D c2 c3 c4 hR hRe hX hY hhead hE hb48 hbad hbn
  by_cases h1 : 600 < n
  · have hb : bad = true := by rw [← HBAD.out, decide_eq_true h1]; rfl
    have h1' : (600 : Int) < (n : Int) := by omega
    subst hb
    clear h1
    go_enter Tryz.func119, Tryz.ntmps119
    go_wp2
    go_quiet (fail)
    go_wp2_with fail
    refine (HL.out _).mono ?_
    rintro e w1 ⟨rfl, rfl⟩
    go_wp2_with fail
    refine (HF.out _).mono ?_
    rintro e w4 ⟨v, rfl, h4, b4⟩
    have HF4 := hid' h4
    have HB4 : Hid (Below B W w4) := hid' ⟨b4.os, b4.tape, b4.output, b4.size, fun k hk => b4.block k (by show k < W.heap.size; omega)⟩
    clear h4 b4
    go_wp2
    go_ret
    exact ⟨fun _ => ⟨v, rfl, HF4.out, HB4.out⟩, fun h => by cases h⟩
  · have h1' : ¬ (600 : Int) < (n : Int) := by omega
    by_cases h2 : 1 < n ∧ (R[0].toNat : Int) = 48
    · obtain ⟨h2, h3⟩ := h2
      have h2' : (1 : Int) < (n : Int) := by omega
      have h3' : ((R[0].toNat : Int) == 48) = true := by rw [h3]; rfl
      have hb : bad = true := by rw [← HBAD.out, decide_eq_true h2, h3']; simp
      subst hb
      clear h1 h2 h3
      go_enter Tryz.func119, Tryz.ntmps119
      go_wp2
      go_quiet (fail)
      go_wp2_with fail
      refine (HL.out _).mono ?_
      rintro e w1 ⟨rfl, rfl⟩
      go_wp2_with fail
      refine (HF.out _).mono ?_
      rintro e w4 ⟨v, rfl, h4, b4⟩
      have HF4 := hid' h4
      have HB4 : Hid (Below B W w4) := hid' ⟨b4.os, b4.tape, b4.output, b4.size, fun k hk => b4.block k (by show k < W.heap.size; omega)⟩
      clear h4 b4
      go_wp2
      go_ret
      exact ⟨fun _ => ⟨v, rfl, HF4.out, HB4.out⟩, fun h => by cases h⟩
    · have hm : bad = decide (0 < m) := by
        rw [← HBAD.out, decide_eq_false h1]
        have : (decide (1 < n) && ((R[0].toNat : Int) == 48)) = false := by
          rw [Bool.and_eq_false_iff]
          by_cases e : 1 < n
          · exact .inr (by rw [beq_eq_false_iff_ne]; exact fun e2 => h2 ⟨e, e2⟩)
          · exact .inl (decide_eq_false e)
        rw [this]; rfl
      have hcase : ¬ (1 : Int) < (n : Int) ∨ ((1 : Int) < (n : Int) ∧ ((R[0].toNat : Int) == 48) = false) := by
        by_cases e : 1 < n
        · exact .inr ⟨by omega, by rw [beq_eq_false_iff_ne]; exact fun e2 => h2 ⟨e, e2⟩⟩
        · exact .inl (by omega)
      clear h1 h2
      by_cases h3 : 0 < m
      · have hb : bad = true := by rw [hm, decide_eq_true h3]
        have h3' : (0 : Int) < (m : Int) := by omega
        subst hb
        clear hm h3
        rcases hcase with h4 | ⟨h4, h5⟩
        all_goals (
          go_enter Tryz.func119, Tryz.ntmps119
          go_wp2
          go_quiet (fail)
          go_wp2_with fail
          refine (HL.out _).mono ?_
          rintro e w1 ⟨rfl, rfl⟩
          go_wp2_with fail
          refine (HLT.out _).mono ?_
          rintro e w1 ⟨rfl, rfl⟩
          go_wp2_with fail
          refine (HF.out _).mono ?_
          rintro e w4 ⟨v, rfl, h4, b4⟩
          have HF4 := hid' h4
          have HB4 : Hid (Below B W w4) := hid' ⟨b4.os, b4.tape, b4.output, b4.size, fun k hk => b4.block k (by show k < W.heap.size; omega)⟩
          clear h4 b4
          go_wp2
          go_ret
          exact ⟨fun _ => ⟨v, rfl, HF4.out, HB4.out⟩, fun h => by cases h⟩)
      · have hb : bad = false := by rw [hm, decide_eq_false h3]
        obtain rfl : m = 0 := by omega
        subst hb
        clear hm h3
        rcases hcase with h4 | ⟨h4, h5⟩
        all_goals (
          go_enter Tryz.func119, Tryz.ntmps119
          go_wp2
          go_quiet (fail)
          have HA := hid' (add_any (W := W.drewN nq) ⟨_, _, _, HS.out.keep fun _ _ _ => rfl⟩ 2 X n (by omega) (by omega) hl)
          go_wp2_with fail
          refine (HL.out _).mono ?_
          rintro e w1 ⟨rfl, rfl⟩
          go_wp2_with fail
          refine (HLT.out _).mono ?_
          rintro e w1 ⟨rfl, rfl⟩
          go_wp2_with fail
          refine (HA.out).mono ?_
          rintro e w4 ⟨rfl, h4, b4⟩
          have HS4 := hid' h4
          have HB4 : Hid (Below B W w4) := hid' ⟨b4.os, b4.tape, b4.output, b4.size, b4.block⟩
          clear h4 b4
          go_wp2
          go_ret
          exact ⟨(fun h => by cases h), fun _ => ⟨rfl, HS4.out, HB4.out⟩⟩)
end
end Go.Proofs.YtaafhldcdkbnkaaGreatDoor
