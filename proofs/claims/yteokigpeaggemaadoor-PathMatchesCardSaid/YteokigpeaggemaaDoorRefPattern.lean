/- What smithyref1.Pattern answers at every text: whether it is a pattern. Conditions: texts of fewer than 2^31 bytes. What smithyref1.Match answers at every pattern and every text: the same as path.Match. Conditions: texts of at most 1000 bytes. -/
import Derived.Test.YteokigpeaggemaaDoorRefOne
import Derived.StillTailTactics
namespace Go.Proofs.YteokigpeaggemaaDoor
open Go.RowKit

theorem TwoHeld.below {W W' : World} {a b : Nat} {ps qs : List (List UInt8)} (h : TwoHeld W a b ps qs) (hb : Below W.heap.size W W') : TwoHeld W' a b ps qs :=
  ⟨fun j hj => (hb.cell (p := ⟨a, j, none⟩) h.low.1).trans (h.left j hj), fun j hj => (hb.cell (p := ⟨b, j, none⟩) h.low.2).trans (h.right j hj), Nat.lt_of_lt_of_le h.low.1 hb.size, Nat.lt_of_lt_of_le h.low.2 hb.size⟩
def stL (ps : List (List UInt8)) (i : Nat) : Bool := listAt ps i == [42, 42]
def ftL (ps qs : List (List UInt8)) (i j : Nat) : Bool := partB (listAt ps i) (listAt qs j)
theorem partsB_reach (ps qs : List (List UInt8)) : partsB ps qs = Row.reach (stL ps) (ftL ps qs) ps.length qs.length := by
  unfold partsB
  rw [Row.rowB_reach]
  rfl
theorem stL_at (ps : List (List UInt8)) (i : Nat) (h : i < ps.length) : (ps[i] == [42, 42]) = stL ps i := by rw [listAt_get h]; rfl
theorem ftL_at (ps qs : List (List UInt8)) (i j : Nat) (h : i < ps.length) (hj : j < qs.length) : partB (toB ps[i]).data.toList (toB qs[j]).data.toList = ftL ps qs i j := by
  rw [toB_list, toB_list, listAt_get h, listAt_get hj]
  rfl

set_option maxRecDepth 100000 in
set_option maxHeartbeats 1600000 in
theorem refMatch_any (p s : ByteArray) (w : World) (hp : p.size ≤ 1000) (hs : s.size ≤ 1000) :
    Calls Tryd.prog 27 #[.string p, .string s] w (saysB w.heap.size w (partsB (Pth.parts p.data.toList) (Pth.parts s.data.toList) && Pth.splitOK Pth.partOK s.data.toList)) := by
  obtain ⟨i0, hi, hz0, hz1, hz2⟩ := info_parts info_bool
  have HP := Lib.hid (partsB_reach (Pth.parts p.data.toList) (Pth.parts s.data.toList))
  have hpn := Pth.parts_count p.data.toList
  have hsn := Pth.parts_count s.data.toList
  rw [← Lib.size_eq] at hpn hsn
  have HPL : Hid (∀ i (h : i < (Pth.parts p.data.toList).length), (toB (Pth.parts p.data.toList)[i]).size < 2147483648) := Lib.hid fun i h => by
    have := Pth.parts_le p.data.toList _ (List.getElem_mem h)
    rw [← Lib.size_eq] at this
    simp [toB, ByteArray.size]; omega
  have HQL : Hid (∀ i (h : i < (Pth.parts s.data.toList).length), (toB (Pth.parts s.data.toList)[i]).size < 2147483648) := Lib.hid fun i h => by
    have := Pth.parts_le s.data.toList _ (List.getElem_mem h)
    rw [← Lib.size_eq] at this
    simp [toB, ByteArray.size]; omega
  have HA := Lib.hid (Parts_any p w (by omega))
  have HB0 := Lib.hid (fun W => Parts_any s W (by omega))
  generalize hps : Pth.parts p.data.toList = ps at HP hpn HPL HA ⊢
  clear hps
  generalize hqs : Pth.parts s.data.toList = qs at HP hsn HQL HB0 ⊢
  clear hqs
  have hszq : ((qs.length : Int) + 1) = ((qs.length + 1 : Nat) : Int) := by omega
  have HSZ := Lib.hid hszq
  clear hszq
  go_enter Tryd.func27, Tryd.ntmps27
  go_wp2_with fail
  refine HA.out.mono ?_
  rintro e w1 ⟨ga, ca, rfl, hown1, hb1⟩
  have O1 := Lib.hid hown1
  have B1 := Lib.hid hb1
  clear hown1 hb1 HA
  go_wp2_with fail
  refine (HB0.out w1).mono ?_
  rintro e w2 ⟨gb, cb, rfl, hown2, hb2⟩
  have T2 : Hid (TwoHeld w2 ga gb ps qs) := Lib.hid ⟨fun j hj => (hb2.cell (p := ⟨ga, j, none⟩) (texts_low O1.out).2).trans (texts_cell O1.out j hj), texts_cell hown2, Nat.lt_of_lt_of_le (texts_low O1.out).2 hb2.size, (texts_low hown2).2⟩
  have B2 := Lib.hid (B1.out.trans (hb2.mono B1.out.size))
  clear hown2 hb2 O1 B1 HB0
  go_wp2_with ((with_reducible refine wpList_make_full w2 rfl _ _ 67 rfl w2.heap.size 4 i0 (.bool false) 1 Tryd.underlying67 hi hz0 hz1 .i64 .i64 _ _ (qs.length + 1) rfl rfl HSZ.out HSZ.out (by rw [hz2]; omega) (by unfold maxLen; omega) (Nat.le_refl _) ?_); intro w1 hown hg; have F1 := Flags.new hown; have hc0 := F1.cell 0 (by omega); have hf0 := F1.open_ 0; have hb1 : Below w2.heap.size w2 w1 := ⟨hg.os, hg.tape, hg.output, hg.size, fun k hk => hg.block k hk (by simp)⟩; clear hown hg)
  have F2 := Lib.hid ((F1.set 0).ext (f' := Row.reach (stL ps) (ftL ps qs) 0) (fun j _ => by simp [Row.reach]; rfl))
  have hb2 : Below w2.heap.size w2 (w1.setCell ⟨w2.heap.size, 0, none⟩ (.bool true)) := hb1.setCell (Nat.le_refl _) _
  clear F1 hc0 hf0 hb1
  go_loopw [7, 8] (fun v i wr => ∃ k g : Nat, k ≤ ps.length ∧ i = .int .i64 k ∧ v = .slice (some ⟨g, 0, none⟩) (qs.length + 1) (qs.length + 1) ∧ Hid (Flags wr w2.heap.size g (qs.length + 1) (Row.reach (stL ps) (ftL ps qs) k)) ∧ Below w2.heap.size w2 wr) (fun _ i _ => ps.length - (intOf i).toNat)
  case atStart => exact ⟨0, w2.heap.size, Nat.zero_le _, rfl, rfl, F2, hb2⟩
  case round =>
    obtain ⟨i, g, hk, rfl, rfl, hF, hb⟩ := hrel
    have hlow := hF.out.low
    by_cases hlt : i < ps.length
    · have HST := Lib.hid (stL_at ps i hlt)
      have HFT := Lib.hid (ftL_at ps qs i · hlt)
      have hsz0 := hb.size
      go_wp2_with ((with_reducible refine wpList_make_full wr rfl _ _ 67 rfl w2.heap.size 4 i0 (.bool false) 1 Tryd.underlying67 hi hz0 hz1 .i64 .i64 _ _ (qs.length + 1) rfl rfl HSZ.out HSZ.out (by rw [hz2]; omega) (by unfold maxLen; omega) hsz0 ?_); intro w3 hown hg; have F3 := Lib.hid ((Flags.new hown).ext (f' := Row.adds (stL ps) (ftL ps qs) i 0) (fun j _ => rfl)); have hb13 : Below wr.heap.size wr w3 := ⟨hg.os, hg.tape, hg.output, hg.size, fun k hk => hg.block k hk (by simp)⟩; have FA := Lib.hid (hF.out.below hb13); have hb3 := Lib.hid (hb.trans (hb13.mono hsz0)); clear hown hg hb13)
      obtain ⟨g2, hg2⟩ : ∃ g2, wr.heap.size = g2 := ⟨_, rfl⟩
      rw [hg2] at F3 ⊢
      have hgg : g < g2 := by omega
      have hBg : w2.heap.size ≤ g2 := by omega
      clear hF hg2 hlow
      go_loopw [10] (fun v wq => ∃ k : Nat, k ≤ qs.length + 1 ∧ v = .int .i64 k ∧ Hid (Flags wq w2.heap.size g2 (qs.length + 1) (Row.adds (stL ps) (ftL ps qs) i k)) ∧ Hid (Flags wq w2.heap.size g (qs.length + 1) (Row.reach (stL ps) (ftL ps qs) i)) ∧ Hid (Below w2.heap.size w2 wq)) (fun v _ => qs.length + 1 - (intOf v).toNat)
      case atStart => exact ⟨0, Nat.zero_le _, rfl, F3, FA, hb3⟩
      case round =>
        obtain ⟨k, hk1, rfl, G2, G1, HB⟩ := hrel
        by_cases hks : k ≤ qs.length
        · have hc := G1.out.cell k (by omega)
          cases hr : Row.reach (stL ps) (ftL ps qs) i k
          · rw [hr] at hc
            have HR := Lib.hid hr
            clear hr
            go_wp2
            go_roundw
            case rel => exact ⟨k + 1, by omega, by go_num, Lib.hid (G2.out.ext fun j _ => (Row.adds_no HR.out).symm), G1, HB⟩
            case measure => simp [intOf]; omega
          · rw [hr] at hc
            have HR := Lib.hid hr
            clear hr hc
            cases hst : stL ps i
            · have hca := (T2.out.below HB.out).left i hlt
              have e1 : (ps[i] == [42, 42]) = false := HST.out.trans hst
              have HS := Lib.hid hst
              clear hst
              have hc := G1.out.cell k (by omega)
              rw [HR.out] at hc
              by_cases hks' : k < qs.length
              · have hft0 := HFT.out k hks'
                cases hft : ftL ps qs i k
                · rw [hft] at hft0
                  have HF := Lib.hid hft
                  clear hft
                  have hcb := (T2.out.below HB.out).right k hks'
                  have HO := Lib.hid (fun W => one_any (toB ps[i]) (toB qs[k]) W (HPL.out i hlt) (HQL.out k hks'))
                  go_wp2_with fail
                  go_still_tail 13, (by kernel_rfl)
                  change wpList _ _ _ _ _ wr.drew
                  have hbd : Hid (Below w2.heap.size w2 wr.drew) := Lib.hid HB.out.drew
                  have hzd : w2.heap.size ≤ wr.drew.heap.size := hbd.out.size
                  have GD1 : Hid (Flags wr.drew w2.heap.size g (qs.length + 1) (Row.reach (stL ps) (ftL ps qs) i)) := G1
                  have GD2 : Hid (Flags wr.drew w2.heap.size g2 (qs.length + 1) (Row.adds (stL ps) (ftL ps qs) i k)) := G2
                  clear hca hcb hc
                  generalize wr.drew = wd at hbd hzd GD1 GD2 ⊢
                  go_wp2_with fail
                  refine (HO.out _).mono ?_
                  rw [hft0]
                  rintro e w5 ⟨rfl, hb5⟩
                  have B5 := Lib.hid (hbd.out.trans (hb5.mono hzd))
                  have GE1 := Lib.hid (GD1.out.below hb5)
                  have GE2 := Lib.hid (GD2.out.below hb5)
                  clear hb5
                  go_wp2
                  go_roundw
                  case rel => exact ⟨k + 1, by omega, by go_num, Lib.hid (GE2.out.ext fun j _ => by rw [Row.adds_one HR.out HS.out, HF.out]; simp), GE1, B5⟩
                  case measure => simp [intOf]; omega
                · rw [hft] at hft0
                  have HF := Lib.hid hft
                  clear hft
                  have hcb := (T2.out.below HB.out).right k hks'
                  have HO := Lib.hid (fun W => one_any (toB ps[i]) (toB qs[k]) W (HPL.out i hlt) (HQL.out k hks'))
                  go_wp2_with fail
                  go_still_tail 13, (by kernel_rfl)
                  change wpList _ _ _ _ _ wr.drew
                  have hbd : Hid (Below w2.heap.size w2 wr.drew) := Lib.hid HB.out.drew
                  have hzd : w2.heap.size ≤ wr.drew.heap.size := hbd.out.size
                  have GD1 : Hid (Flags wr.drew w2.heap.size g (qs.length + 1) (Row.reach (stL ps) (ftL ps qs) i)) := G1
                  have GD2 : Hid (Flags wr.drew w2.heap.size g2 (qs.length + 1) (Row.adds (stL ps) (ftL ps qs) i k)) := G2
                  clear hca hcb hc
                  generalize wr.drew = wd at hbd hzd GD1 GD2 ⊢
                  go_wp2_with fail
                  refine (HO.out _).mono ?_
                  rw [hft0]
                  rintro e w5 ⟨rfl, hb5⟩
                  have B5 := Lib.hid (hbd.out.trans (hb5.mono hzd))
                  have GE1 := Lib.hid (GD1.out.below hb5)
                  have GE2 := Lib.hid (GD2.out.below hb5)
                  clear hb5
                  have hc2 := GE2.out.cell (k + 1) (by omega)
                  have hf2 := GE2.out.open_ (k + 1)
                  go_wp2
                  go_roundw
                  case rel => exact ⟨k + 1, by omega, by go_num, Lib.hid ((GE2.out.set (k + 1)).ext fun j _ => by rw [Row.adds_one HR.out HS.out, HF.out]; simp), Lib.hid (GE1.out.other (by omega) _ _), Lib.hid (B5.out.setCell (p := ⟨g2, k + 1, none⟩) hBg _)⟩
                  case measure => simp [intOf]; omega
              · go_wp2_with fail
                go_quiet (fail)
                go_wp2
                go_roundw
                case rel => exact ⟨k + 1, by omega, by go_num, Lib.hid (G2.out.ext fun j hj => by rw [Row.adds_one HR.out HS.out]; simp [show ¬ j = k + 1 by omega]), G1, Lib.hid (below_drewN HB.out _)⟩
                case measure => simp [intOf]; omega
            · have hca := (T2.out.below HB.out).left i hlt
              have e1 : (ps[i] == [42, 42]) = true := HST.out.trans hst
              have HS := Lib.hid hst
              clear hst
              have hc := G1.out.cell k (by omega)
              rw [HR.out] at hc
              go_wp2_with fail
              obtain ⟨wq1, rfl⟩ : ∃ wq1 : World, wq1 = wr := ⟨_, rfl⟩
              go_loopw [11] (fun v wz => ∃ j : Nat, k ≤ j ∧ j ≤ qs.length + 1 ∧ v = .int .i64 j ∧ Hid (Flags wz w2.heap.size g2 (qs.length + 1) (fun x => Row.adds (stL ps) (ftL ps qs) i k x || (decide (k ≤ x) && decide (x < j)))) ∧ Hid (Flags wz w2.heap.size g (qs.length + 1) (Row.reach (stL ps) (ftL ps qs) i)) ∧ Hid (Below w2.heap.size w2 wz)) (fun v _ => qs.length + 1 - (intOf v).toNat)
              case atStart => exact ⟨k, Nat.le_refl _, by omega, rfl, Lib.hid (G2.out.ext fun x _ => by
                have : (decide (k ≤ x) && decide (x < k)) = false := by simp
                rw [this]; simp), G1, HB⟩
              case round =>
                obtain ⟨j, hj1, hj2, rfl, G4, G3, HB3⟩ := hrel
                by_cases hjs : j ≤ qs.length
                · have hc2 := G4.out.cell j (by omega)
                  have hf2 := G4.out.open_ j
                  go_wp2
                  go_roundw
                  case rel => exact ⟨j + 1, by omega, by omega, by go_num, Lib.hid ((G4.out.set j).ext fun x _ => by
                    rw [Bool.or_assoc]
                    congr 1
                    rw [Bool.eq_iff_iff]; simp; omega), Lib.hid (G3.out.other (by omega) _ _), Lib.hid (HB3.out.setCell hBg _)⟩
                  case measure => simp [intOf]; omega
                · obtain rfl : j = qs.length + 1 := by omega
                  go_wp2
                  go_roundw
                  case rel => exact ⟨k + 1, by omega, by go_num, Lib.hid (G4.out.ext fun x hx => by
                    rw [Row.adds_star HR.out HS.out]
                    simp [hx]), G3, HB3⟩
                  case measure => simp [intOf]; omega
        · obtain rfl : k = qs.length + 1 := by omega
          go_wp2
          go_roundw
          case rel => exact ⟨i + 1, g2, by omega, by go_num, rfl, Lib.hid (G2.out.ext fun j hj => Row.adds_all (by omega)), HB.out⟩
          case measure => simp [intOf]; omega
    · obtain rfl : i = ps.length := by omega
      have hce := hF.out.cell qs.length (by omega)
      have BW := Lib.hid (B2.out.trans (hb.mono B2.out.size))
      cases hr : Row.reach (stL ps) (ftL ps qs) ps.length qs.length
      · rw [hr] at hce
        have HR := Lib.hid hr
        clear hr
        go_wp2_with fail
        go_ret
        exact ⟨ret_bool (by rw [HP.out, HR.out]; rfl), BW.out⟩
      · rw [hr] at hce
        have HR := Lib.hid hr
        clear hr
        go_wp2_with fail
        refine (refValid_any s wr (by omega)).mono ?_
        rintro e w9 ⟨rfl, hb9⟩
        have B9 := Lib.hid (BW.out.trans (hb9.mono BW.out.size))
        clear hb9
        go_wp2
        go_ret
        exact ⟨ret_bool (by rw [HP.out, HR.out]; simp), B9.out⟩

end Go.Proofs.YteokigpeaggemaaDoor
namespace Go.Proofs.YteokigpeaggemaaDoor
open Go.RowKit

theorem pair_yes : ∀ {l : List UInt8} {k : Nat} (h : k + 1 < l.length), l[k] = 42 → l[k + 1] = 42 → Lib.contains l [42, 42] = true
  | [], _, h, _, _ => absurd h (by simp)
  | b :: l, 0, h, h1, h2 => by
    rw [contains_cons]
    cases l with
    | nil => simp at h
    | cons c l =>
      simp only [List.getElem_cons_zero, List.getElem_cons_succ] at h1 h2
      subst h1; subst h2
      simp [List.isPrefixOf]
  | b :: l, k + 1, h, h1, h2 => by
    rw [contains_cons, pair_yes (l := l) (k := k) (by simpa using h) (by simpa using h1) (by simpa using h2)]
    simp
theorem pair_no : ∀ {l : List UInt8}, (∀ k (h : k + 1 < l.length), ¬ (l[k] = 42 ∧ l[k + 1] = 42)) → Lib.contains l [42, 42] = false
  | [], _ => by decide
  | b :: l, h => by
    rw [contains_cons, pair_no (l := l) fun k hk => by
      have := h (k + 1) (by simpa using hk)
      simpa only [List.getElem_cons_succ] using this]
    rw [Bool.or_false]
    cases l with
    | nil => simp [List.isPrefixOf]
    | cons c l =>
      have h0 := h 0 (by simp)
      simp only [List.getElem_cons_zero, List.getElem_cons_succ] at h0
      have h1 : ([42, 42] : List UInt8).isPrefixOf (b :: c :: l) = (42 == b && 42 == c) := by simp [List.isPrefixOf]
      rw [h1, Bool.eq_false_iff]
      intro e
      simp only [Bool.and_eq_true, beq_iff_eq] at e
      exact h0 ⟨e.1.symm, e.2.symm⟩
theorem patOK_ref (l : List UInt8) : Pth.patOK l = (refPart true l && (l == [42, 42] || !Lib.contains l [42, 42])) := by
  unfold refPart Pth.patOK
  have h1 : signOK true = fun b => b == 42 || Pth.byteOK b := by funext b; unfold signOK; rw [Bool.true_and, Bool.or_comm]
  rw [h1, Bool.and_comm (l.all _) _]

set_option maxRecDepth 100000 in
set_option maxHeartbeats 800000 in
theorem refPattern_any (s : ByteArray) (w : World) (hs : s.size < 2147483648) :
    Calls Tryd.prog 26 #[.string s] w (saysB w.heap.size w (Pth.splitOK Pth.patOK s.data.toList)) := by
  have hpn := Pth.parts_count s.data.toList
  have Hle := Lib.hid (Pth.parts_le s.data.toList)
  have HSZ := Lib.hid (Lib.size_eq s)
  rw [← Lib.size_eq] at hpn
  go_enter Tryd.func26, Tryd.ntmps26
  go_wp2_with fail
  refine (Parts_any s w hs).mono ?_
  rintro e w1 ⟨g, c, rfl, hown, hb⟩
  have O1 := Lib.hid hown
  have B1 := Lib.hid hb
  clear hown hb
  go_wp2_with fail
  go_loop [4] (fun i => ∃ k : Nat, k ≤ (Pth.parts s.data.toList).length ∧ i = .int .i64 k ∧ Hid (allTo Pth.patOK (Pth.parts s.data.toList) k)) (fun i => (Pth.parts s.data.toList).length - (intOf i).toNat)
  case atStart => exact ⟨0, Nat.zero_le _, rfl, Lib.hid (by simp [allTo])⟩
  case round =>
    obtain ⟨i, hk, rfl, hall⟩ := hrel
    by_cases hlt : i < (Pth.parts s.data.toList).length
    · have hcell := texts_cell O1.out i hlt
      obtain ⟨x, hx⟩ : ∃ x, (⟨((Pth.parts s.data.toList)[i]).toArray⟩ : ByteArray) = x := ⟨_, rfl⟩
      rw [hx] at hcell
      have hq : x.data.toList = (Pth.parts s.data.toList)[i] := by rw [← hx]
      have hxs : x.size ≤ s.size := by
        rw [Lib.size_eq, hq, HSZ.out]
        exact Hle.out _ (List.getElem_mem hlt)
      have HQ := Lib.hid hq
      have HN : Hid (Pth.patOK x.data.toList = false → Pth.splitOK Pth.patOK s.data.toList = false) := Lib.hid fun h => split_no hlt (hq ▸ h)
      have HY : Hid (Pth.patOK x.data.toList = true → allTo Pth.patOK (Pth.parts s.data.toList) (i + 1)) := Lib.hid fun h => allTo_succ hlt hall.out (hq ▸ h)
      clear hx hq
      have HP := Lib.hid (part_any x true w1 (by omega))
      cases hr : refPart true x.data.toList
      · rw [hr] at HP
        have HR := Lib.hid hr
        clear hr
        go_wp2_with fail
        refine HP.out.mono ?_
        rintro e w2 ⟨rfl, rfl⟩
        go_wp2
        go_ret
        exact ⟨ret_bool (HN.out (by rw [patOK_ref, HR.out]; rfl)).symm, B1.out⟩
      · rw [hr] at HP
        have HR := Lib.hid hr
        clear hr
        go_wp2_with fail
        refine HP.out.mono ?_
        rintro e w2 ⟨rfl, rfl⟩
        go_wp2_with fail
        go_loop [5] (fun v => ∃ k : Nat, v = .int .i64 k ∧ (k = 0 ∨ k < x.size) ∧ Hid (x.data.toList = [42, 42] ∨ ∀ j (h : j + 1 < x.data.toList.length), j < k → ¬ (x.data.toList[j] = 42 ∧ x.data.toList[j + 1] = 42))) (fun v => x.size - (intOf v).toNat)
        case atStart => exact ⟨0, rfl, .inl rfl, Lib.hid (.inr fun _ _ h => absurd h (by omega))⟩
        case round =>
          obtain ⟨k, rfl, hk0, hno⟩ := hrel
          by_cases hks : k + 1 < x.size
          · have hk63 : (k : Int) + 1 < x.size := by omega
            have hxl : x.data.toList.length = x.size := (Lib.size_eq x).symm
            have HXL := Lib.hid hxl
            clear hxl
            have HNX : Hid ((x.data.toList = [42, 42] ∨ ¬ (x[k] = 42 ∧ x[k + 1] = 42)) → (x.data.toList = [42, 42] ∨ ∀ j (h : j + 1 < x.data.toList.length), j < k + 1 → ¬ (x.data.toList[j] = 42 ∧ x.data.toList[j + 1] = 42))) := Lib.hid fun h => by
              rcases hno.out with h1 | h1
              · exact .inl h1
              · rcases h with h | h
                · exact .inl h
                · refine .inr fun j hj hjk => ?_
                  by_cases e : j = k
                  · subst e; exact h
                  · exact h1 j hj (by omega)
            clear hno
            cases h1 : (x[k] == 42)
            · have e1 : ((x[k].toNat : Int) == 42) = false := (eq_star _).trans h1
              have H1 := Lib.hid (beq_eq_false_iff_ne.1 h1)
              clear h1
              go_wp2_with fail
              go_round
              case rel => exact ⟨k + 1, by go_num, .inr (by omega), Lib.hid (HNX.out (.inr fun h => H1.out h.1))⟩
              case measure => simp [intOf]; omega
            · have e1 : ((x[k].toNat : Int) == 42) = true := (eq_star _).trans h1
              have H1 := Lib.hid (beq_iff_eq.1 h1)
              clear h1
              cases h2 : (x[k + 1] == 42)
              · have e2 : ((x[k + 1].toNat : Int) == 42) = false := (eq_star _).trans h2
                have H2 := Lib.hid (beq_eq_false_iff_ne.1 h2)
                clear h2
                go_wp2_with fail
                go_round
                case rel => exact ⟨k + 1, by go_num, .inr (by omega), Lib.hid (HNX.out (.inr fun h => H2.out h.2))⟩
                case measure => simp [intOf]; omega
              · have e2 : ((x[k + 1].toNat : Int) == 42) = true := (eq_star _).trans h2
                have H2 := Lib.hid (beq_iff_eq.1 h2)
                clear h2
                cases h3 : (x.toList == [42, 42])
                · have H3 : Hid (¬ x.data.toList = [42, 42]) := Lib.hid (by rw [← ByteArray.toList_eq]; exact beq_eq_false_iff_ne.1 h3)
                  go_wp2_with fail
                  go_ret
                  exact ⟨ret_bool (HN.out (by
                    rw [patOK_ref, pair_yes (k := k) (by rw [HXL.out]; omega) H1.out H2.out, beq_eq_false_iff_ne.2 H3.out]
                    simp)).symm, B1.out⟩
                · have H3 : Hid (x.data.toList = [42, 42]) := Lib.hid (by rw [← ByteArray.toList_eq]; exact beq_iff_eq.1 h3)
                  go_wp2_with fail
                  go_round
                  case rel => exact ⟨k + 1, by go_num, .inr (by omega), Lib.hid (HNX.out (.inl H3.out))⟩
                  case measure => simp [intOf]; omega
          · go_wp2_with fail
            go_round
            case rel => exact ⟨i + 1, by omega, by go_num, Lib.hid (HY.out (by
              rw [patOK_ref, HR.out, Bool.true_and]
              rcases hno.out with h | h
              · rw [h]; rfl
              · rw [pair_no fun j hj => h j hj (by rw [← Lib.size_eq] at hj; omega)]
                simp))⟩
            case measure => simp [intOf]; omega
    · obtain rfl : i = (Pth.parts s.data.toList).length := by omega
      by_cases h200 : s.size ≤ 200
      · go_wp2_with fail
        go_ret
        exact ⟨ret_bool (by rw [split_yes (by rw [← Lib.size_eq]; exact h200) hall.out]; simp; omega), B1.out⟩
      · go_wp2_with fail
        go_ret
        refine ⟨ret_bool ?_, B1.out⟩
        have : Pth.splitOK Pth.patOK s.data.toList = false := by unfold Pth.splitOK; rw [decide_eq_false (by rw [← Lib.size_eq]; exact h200)]; rfl
        rw [this]; simp; omega

end Go.Proofs.YteokigpeaggemaaDoor
