/- What smithyref1.one answers at every two texts: the same as path.matchPart. Conditions: texts of fewer than 2^31 bytes. -/
import Derived.Test.YteokigpeaggemaaDoorFlags
import Derived.Deep.QuietTactic
import Derived.BigQuiet
namespace Go.Proofs.YteokigpeaggemaaDoor
open Go.RowKit

def stP (p : ByteArray) (i : Nat) : Bool := byteAt p.data.toList i == 42
def ftP (p s : ByteArray) (i j : Nat) : Bool := byteAt p.data.toList i == byteAt s.data.toList j
theorem partB_reach (p s : ByteArray) : partB p.data.toList s.data.toList = Row.reach (stP p) (ftP p s) p.size s.size := by
  unfold partB
  rw [Row.rowB_reach, ← Lib.size_eq, ← Lib.size_eq]
  rfl
theorem stP_at (p : ByteArray) (i : Nat) (h : i < p.size) : ((p[i].toNat : Int) == 42) = stP p i := by rw [eq_star, byteAt_get p i h]; rfl
theorem ftP_at (p s : ByteArray) (i j : Nat) (h : i < p.size) (hj : j < s.size) : ((s[j].toNat : Int) == (p[i].toNat : Int)) = ftP p s i j := by
  rw [eq_bytes, byteAt_get p i h, byteAt_get s j hj]
  unfold ftP
  exact BEq.comm

set_option maxRecDepth 100000 in
set_option maxHeartbeats 1000000 in
theorem one_any (p s : ByteArray) (w : World) (hp : p.size < 2147483648) (hs : s.size < 2147483648) :
    Calls Tryd.prog 48 #[.string p, .string s] w (saysB w.heap.size w (partB p.data.toList s.data.toList)) := by
  obtain ⟨i0, hi, hz0, hz1, hz2⟩ := info_parts info_bool
  have HP := Lib.hid (partB_reach p s)
  have hsz : ((s.size : Int) + 1) = ((s.size + 1 : Nat) : Int) := by omega
  have HSZ := Lib.hid hsz
  clear hsz
  go_enter Tryd.func48, Tryd.ntmps48
  go_wp2_with ((with_reducible refine wpList_make_full w rfl _ _ 67 rfl w.heap.size 4 i0 (.bool false) 1 Tryd.underlying67 hi hz0 hz1 .i64 .i64 _ _ (s.size + 1) rfl rfl HSZ.out HSZ.out (by rw [hz2]; omega) (by unfold maxLen; omega) (Nat.le_refl _) ?_); intro w1 hown hg; have F1 := Flags.new hown; have hc0 := F1.cell 0 (by omega); have hf0 := F1.open_ 0; have hb1 : Below w.heap.size w w1 := ⟨hg.os, hg.tape, hg.output, hg.size, fun k hk => hg.block k hk (by simp)⟩; clear hown hg)
  have F2 := Lib.hid ((F1.set 0).ext (f' := Row.reach (stP p) (ftP p s) 0) (fun j _ => by simp [Row.reach]; rfl))
  have hb2 : Below w.heap.size w (w1.setCell ⟨w.heap.size, 0, none⟩ (.bool true)) := hb1.setCell (Nat.le_refl _) _
  clear F1 hc0 hf0 hb1
  go_loopw [5, 6] (fun v i wr => ∃ k g : Nat, k ≤ p.size ∧ i = .int .i64 k ∧ v = .slice (some ⟨g, 0, none⟩) (s.size + 1) (s.size + 1) ∧ Hid (Flags wr w.heap.size g (s.size + 1) (Row.reach (stP p) (ftP p s) k)) ∧ Below w.heap.size w wr) (fun _ i _ => p.size - (intOf i).toNat)
  case atStart => exact ⟨0, w.heap.size, Nat.zero_le _, rfl, rfl, F2, hb2⟩
  case round =>
    obtain ⟨i, g, hk, rfl, rfl, hF, hb⟩ := hrel
    have hlow := hF.out.low
    by_cases hlt : i < p.size
    · have HST := Lib.hid (stP_at p i hlt)
      have HFT := Lib.hid (ftP_at p s i · hlt)
      have hsz0 := hb.size
      go_wp2_with ((with_reducible refine wpList_make_full wr rfl _ _ 67 rfl w.heap.size 4 i0 (.bool false) 1 Tryd.underlying67 hi hz0 hz1 .i64 .i64 _ _ (s.size + 1) rfl rfl HSZ.out HSZ.out (by rw [hz2]; omega) (by unfold maxLen; omega) hsz0 ?_); intro w3 hown hg; have F3 := Lib.hid ((Flags.new hown).ext (f' := Row.adds (stP p) (ftP p s) i 0) (fun j _ => rfl)); have hb13 : Below wr.heap.size wr w3 := ⟨hg.os, hg.tape, hg.output, hg.size, fun k hk => hg.block k hk (by simp)⟩; have FA := Lib.hid (hF.out.below hb13); have hb3 := Lib.hid (hb.trans (hb13.mono hsz0)); clear hown hg hb13)
      obtain ⟨g2, hg2⟩ : ∃ g2, wr.heap.size = g2 := ⟨_, rfl⟩
      rw [hg2] at F3 ⊢
      have hgg : g < g2 := by omega
      have hBg : w.heap.size ≤ g2 := by omega
      clear hF hg2 hlow
      go_loopw [8] (fun v wq => ∃ k : Nat, k ≤ s.size + 1 ∧ v = .int .i64 k ∧ Hid (Flags wq w.heap.size g2 (s.size + 1) (Row.adds (stP p) (ftP p s) i k)) ∧ Hid (Flags wq w.heap.size g (s.size + 1) (Row.reach (stP p) (ftP p s) i)) ∧ Hid (Below w.heap.size w wq)) (fun v _ => s.size + 1 - (intOf v).toNat)
      case atStart => exact ⟨0, Nat.zero_le _, rfl, F3, FA, hb3⟩
      case round =>
        obtain ⟨k, hk1, rfl, G2, G1, HB⟩ := hrel
        by_cases hks : k ≤ s.size
        · have hc := G1.out.cell k (by omega)
          cases hr : Row.reach (stP p) (ftP p s) i k
          · rw [hr] at hc
            have HR := Lib.hid hr
            clear hr
            go_wp2
            go_roundw
            case rel => exact ⟨k + 1, by omega, by go_num, Lib.hid (G2.out.ext fun j _ => (Row.adds_no HR.out).symm), G1, HB⟩
            case measure => simp [intOf]; omega
          · rw [hr] at hc
            have HR := Lib.hid hr
            clear hr hc
            cases hst : stP p i
            · have e1 : ((p[i].toNat : Int) == 42) = false := HST.out.trans hst
              have HS := Lib.hid hst
              clear hst
              have hc := G1.out.cell k (by omega)
              rw [HR.out] at hc
              by_cases hks' : k < s.size
              · have hft0 := HFT.out k hks'
                cases hft : ftP p s i k
                · rw [hft] at hft0
                  have HF := Lib.hid hft
                  clear hft
                  go_wp2_with fail
                  go_quiet (fail)
                  go_wp2
                  go_roundw
                  case rel => exact ⟨k + 1, by omega, by go_num, Lib.hid (G2.out.ext fun j _ => by rw [Row.adds_one HR.out HS.out, HF.out]; simp), G1, Lib.hid (below_drewN HB.out _)⟩
                  case measure => simp [intOf]; omega
                · rw [hft] at hft0
                  have HF := Lib.hid hft
                  clear hft
                  have hc2 := G2.out.cell (k + 1) (by omega)
                  have hf2 := G2.out.open_ (k + 1)
                  go_wp2_with fail
                  go_quiet (fail)
                  go_wp2
                  go_roundw
                  case rel => exact ⟨k + 1, by omega, by go_num, Lib.hid ((G2.out.set (k + 1)).ext fun j _ => by rw [Row.adds_one HR.out HS.out, HF.out]; simp), Lib.hid (G1.out.other (by omega) _ _), Lib.hid ((below_drewN HB.out _).setCell (p := ⟨g2, k + 1, none⟩) hBg _)⟩
                  case measure => simp [intOf]; omega
              · go_wp2_with fail
                go_quiet (fail)
                go_wp2
                go_roundw
                case rel => exact ⟨k + 1, by omega, by go_num, Lib.hid (G2.out.ext fun j hj => by rw [Row.adds_one HR.out HS.out]; simp [show ¬ j = k + 1 by omega]), G1, Lib.hid (below_drewN HB.out _)⟩
                case measure => simp [intOf]; omega
            · have e1 : ((p[i].toNat : Int) == 42) = true := HST.out.trans hst
              have HS := Lib.hid hst
              clear hst
              have hc := G1.out.cell k (by omega)
              rw [HR.out] at hc
              go_wp2_with fail
              obtain ⟨wq1, rfl⟩ : ∃ wq1 : World, wq1 = wr := ⟨_, rfl⟩
              go_loopw [9] (fun v wz => ∃ j : Nat, k ≤ j ∧ j ≤ s.size + 1 ∧ v = .int .i64 j ∧ Hid (Flags wz w.heap.size g2 (s.size + 1) (fun x => Row.adds (stP p) (ftP p s) i k x || (decide (k ≤ x) && decide (x < j)))) ∧ Hid (Flags wz w.heap.size g (s.size + 1) (Row.reach (stP p) (ftP p s) i)) ∧ Hid (Below w.heap.size w wz)) (fun v _ => s.size + 1 - (intOf v).toNat)
              case atStart => exact ⟨k, Nat.le_refl _, by omega, rfl, Lib.hid (G2.out.ext fun x _ => by
                have : (decide (k ≤ x) && decide (x < k)) = false := by simp
                rw [this]; simp), G1, HB⟩
              case round =>
                obtain ⟨j, hj1, hj2, rfl, G4, G3, HB3⟩ := hrel
                by_cases hjs : j ≤ s.size
                · have hc2 := G4.out.cell j (by omega)
                  have hf2 := G4.out.open_ j
                  go_wp2
                  go_roundw
                  case rel => exact ⟨j + 1, by omega, by omega, by go_num, Lib.hid ((G4.out.set j).ext fun x _ => by
                    rw [Bool.or_assoc]
                    congr 1
                    rw [Bool.eq_iff_iff]; simp; omega), Lib.hid (G3.out.other (by omega) _ _), Lib.hid (HB3.out.setCell hBg _)⟩
                  case measure => simp [intOf]; omega
                · obtain rfl : j = s.size + 1 := by omega
                  go_wp2
                  go_roundw
                  case rel => exact ⟨k + 1, by omega, by go_num, Lib.hid (G4.out.ext fun x hx => by
                    rw [Row.adds_star HR.out HS.out]
                    simp [hx]), G3, HB3⟩
                  case measure => simp [intOf]; omega
        · obtain rfl : k = s.size + 1 := by omega
          go_wp2
          go_roundw
          case rel => exact ⟨i + 1, g2, by omega, by go_num, rfl, Lib.hid (G2.out.ext fun j hj => Row.adds_all (by omega)), HB.out⟩
          case measure => simp [intOf]; omega
    · obtain rfl : i = p.size := by omega
      have hce := hF.out.cell s.size (by omega)
      go_wp2
      go_ret
      exact ⟨ret_bool HP.out.symm, hb⟩

end Go.Proofs.YteokigpeaggemaaDoor
