/- Parts of the proof, together. What line makes of a scanner: the line's walk. Conditions: its blocks lie from block B on; short texts; the words and the error of api lie in their variables. -/
import Derived.Test.YtaafhldcdkbnkaaGreatDoorQpbc
namespace Go.Proofs.YtaafhldcdkbnkaaGreatDoor
open Go.RowKit
open Lx

def LinePost (A : Nat → Addr) (W : World) (B sb : Nat) (T : ByteArray) (R : RR) (p : Nat) (e : Ending) (w' : World) : Prop :=
  (∃ v pos, R = .bad pos ∧ e = .returned v ∧ FaultV A w' B v pos ∧ Below B W w') ∨
  (∃ q st' n', e = .returned .nilIface ∧ p ≤ q ∧ q ≤ T.size ∧ ends (T.data.toList.drop q) = true ∧ ScanAt w' B sb T q st' ∧ Good 4 q st' ∧ R = contF n' q st' (T.data.toList.drop q) ∧ 2 * (T.size - q) ≤ n' ∧ Below B W w')
theorem Good.more {c c' p p' : Nat} {st : St} (h : Good c p st) (hc : 4 * p + c ≤ 4 * p' + c') : Good c' p' st := ⟨h.op, h.bl, h.last, Nat.le_trans h.cnt hc⟩
theorem lenDrop (T : ByteArray) (p : Nat) : (T.data.toList.drop p).length = T.size - p := by rw [List.length_drop, Array.length_toList]; rfl
/-- In the midst of a line, at the loop's head. -/
def MidAt (W0 : World) (A : Nat → Addr) (B sb : Nat) (T : ByteArray) (R : RR) (p0 q : Nat) (st : St) (wr : World) : Prop :=
  p0 ≤ q ∧ q ≤ T.size ∧ ScanAt wr B sb T q st ∧ Good 3 q st ∧ (∃ n, R = goF n true q st (T.data.toList.drop q) ∧ 2 * (T.size - q) + 1 ≤ n) ∧ Env A wr B ∧ Below B W0 wr
section
variable {W : World} {B sb : Nat} {T : ByteArray} {p : Nat} {st : St}
set_option maxRecDepth 10000 in
set_option maxHeartbeats 6400000 in
theorem line_any (A : Nat → Addr) (h : ScanAt W B sb T p st) (hE : Env A W B) (hG : Good 1 p st) (hp : p ≤ T.size) (hT : T.size ≤ 200000) (R : RR) (n : Nat) (hR : R = goF n false p st (T.data.toList.drop p)) (hn : 2 * (T.size - p) + 2 ≤ n) :
    Calls Tryz.prog 70 #[.pointer (some ⟨sb, 0, none⟩)] W (LinePost A W B sb T R p) := by
  obtain ⟨m, rfl⟩ : ∃ m, n = m + 1 := ⟨n - 1, by omega⟩
  have hgl := gapF_le (T.data.toList.drop p)
  rw [lenDrop] at hgl
  have HGAP := hid' (gap_any h hp (by omega))
  have hdd : (T.data.toList.drop p).drop (gapF (T.data.toList.drop p)) = T.data.toList.drop (p + gapF (T.data.toList.drop p)) := List.drop_drop
  have hA := goF_line_end m p st (T.data.toList.drop p)
  have hB1 := goF_line_open m p st (T.data.toList.drop p)
  have hC := goF_line_ind m p st (T.data.toList.drop p)
  rw [hdd] at hA hB1 hC
  rw [← hR] at hA hB1 hC
  obtain ⟨g, hg⟩ : ∃ g, gapF (T.data.toList.drop p) = g := ⟨_, rfl⟩
  rw [hg] at hA hB1 hC hgl HGAP
  obtain ⟨q, hq⟩ : ∃ q, p + g = q := ⟨_, rfl⟩
  rw [hq] at hA hB1 hC HGAP
  have hqT : q ≤ T.size := by omega
  have hsub : (q : Int) - (p : Int) = (g : Int) := by omega
  have HSUB := hid' hsub
  have HA := hid' hA
  have HB1 := hid' hB1
  have HC := hid' hC
  have HG := hid' hG
  have HE := hid' hE
  have hpq : p ≤ q := by omega
  have hgq : g ≤ q := by omega
  obtain ⟨vt, vb, vo, D⟩ := h
  obtain ⟨c0, c1, c2, c3, c4⟩ := D.cells
  have hBW : B ≤ W.heap.size := by have := D.high; have := D.lt; omega
  clear D c0 c2 c3 c4 hA hB1 hC hG hE hR hg hdd hsub
  go_enter Tryz.func70, Tryz.ntmps70
  go_wp2_with fail
  refine (HGAP.out).mono ?_
  rintro e w1 ⟨rfl, S1, b1⟩
  have HS1 := hid' S1
  have HB := hid' b1
  have HLE := hid' (lineEnds_any S1 hqT)
  have hbw := b1.size
  clear S1 b1 HGAP c1
  go_wp2_with fail
  refine (HLE.out).mono ?_
  rintro e w2 ⟨rfl, k2, rfl⟩
  generalize hw : w1.drewN k2 = w3
  have S3 : ScanAt w3 B sb T q st := by rw [← hw]; exact HS1.out.drewN k2
  have B3 : Below B W w3 := by rw [← hw]; exact ⟨HB.out.os, HB.out.tape, HB.out.output, HB.out.size, HB.out.block⟩
  have E3 : Env A w3 B := HE.out.below B3
  have hs3 := B3.size
  clear hw HS1 HB HLE hbw
  rcases Bool.eq_false_or_eq_true (ends (T.data.toList.drop q)) with e1 | e1
  · have hres : LinePost A W B sb T R p (.returned .nilIface) w3 := .inr ⟨q, st, m, rfl, hpq, hqT, e1, S3, HG.out.more (by omega), HA.out e1, by omega, B3⟩
    have HRES := hid' hres
    rw [e1]
    clear S3 B3 E3 e1 hres HA HB1 HC
    go_wp2
    go_ret
    exact HRES.out
  · rw [e1]
    obtain ⟨ut, ub, uo, D3⟩ := S3
    obtain ⟨c0, c1, c2, c3, c4⟩ := D3.cells
    obtain ⟨ao, cap, eo, _⟩ := own_form D3.opn
    rw [eo] at c4
    have HS3 : Hid (ScanAt w3 B sb T q st) := hid' ⟨_, _, _, D3⟩
    have HB3 := hid' B3
    have HE3 := hid' E3
    have HO := hid' HG.out.op
    clear D3 B3 E3 eo c0 c2 c3
    by_cases ho : st.op = []
    · have hol : st.op.length = 0 := by rw [ho]; rfl
      rw [hol] at c4
      have hI := HC.out e1 ho
      have HOO := hid' ho
      clear HA HB1 HC e1 hol
      cases hbl : st.blocks with
      | nil => have := HG.out.last; rw [hbl] at this; cases this
      | cons b0 bs =>
        have HBL := hid' hbl
        have hbs : bs.length + 1 ≤ 61 := by have := HG.out.bl; rw [hbl] at this; simpa using this
        have HI := hid' hI
        have hcnt := HG.out.cnt
        clear hI hbl ho
        by_cases hlt : b0 < g
        · by_cases h60 : 60 < bs.length + 1
          · -- too deep
            have HD := hid' (indent_deep A HS3.out g b0 bs HBL.out hlt h60 (by omega) HE3.out.err)
            rw [← HSUB.out] at HD
            have hRb : Hid (R = .bad q) := hid' (by
              rw [HI.out]
              unfold indF
              rw [HBL.out, List.headD_cons, if_pos hlt, if_pos (by simpa using h60)])
            go_wp2_with fail
            refine (HD.out).mono ?_
            rintro e w7 ⟨v, rfl, hv, b7⟩
            obtain ⟨gb, rfl, hv2, hv3⟩ := hv
            have HRES : Hid (LinePost A W B sb T R p (.returned (.iface 67 (.pointer (some ⟨gb, 0, none⟩)))) w7) := hid' (.inl ⟨_, _, hRb.out, rfl, ⟨gb, rfl, hv2, hv3⟩, HB3.out.trans b7⟩)
            clear b7 hv2 hv3
            go_wp2
            go_ret
            exact HRES.out
          · have HU := hid' (indent_up HS3.out g b0 bs HBL.out hlt (by omega) (by omega) (by omega))
            rw [← HSUB.out] at HU
            have HRI : Hid (R = goF m true q { st with toks := st.toks ++ [⟨6, [], q⟩], blocks := g :: st.blocks } (T.data.toList.drop q)) := hid' (by
              rw [HI.out]
              unfold indF
              rw [HBL.out, List.headD_cons, if_pos hlt, if_neg (by simpa using h60)])
            go_wp2_with fail
            refine (HU.out).mono ?_
            rintro e w4 ⟨rfl, S4, b4⟩
            have HM : Hid (MidAt W A B sb T R p q { st with toks := st.toks ++ [⟨6, [], q⟩], blocks := g :: st.blocks } w4) := hid' ⟨hpq, hqT, S4, ⟨HG.out.op, by simp; rw [HBL.out]; simp; omega, by have := HG.out.last; rw [HBL.out] at this ⊢; simpa using this, by have := HG.out.cnt; simp; omega⟩, ⟨m, HRI.out, by omega⟩, HE3.out.below b4, HB3.out.trans b4⟩
            clear S4 b4 HU
            go_wp2_with fail
            go_loopg [] (T.size - q) (fun gk wr => ∃ (q2 : Nat) (s2 : St), T.size - q2 = gk ∧ Hid (MidAt W A B sb T R p q2 s2 wr))
            case atStart => exact ⟨q, _, rfl, HM⟩
            case round =>
              clear HM
              obtain ⟨q2, s2, hgk, hm⟩ := hrel
              obtain ⟨m1, m2, m3, m4, ⟨n2, m5, m6⟩, m7, m8⟩ := hm.out
              obtain ⟨n3, rfl⟩ : ∃ n3, n2 = n3 + 1 := ⟨n2 - 1, by omega⟩
              have HLE := hid' (lineEnds_any m3 m2)
              have HX := hid' (And.intro m3 (And.intro m4 (And.intro m5 (And.intro m7 m8))))
              have HEND := hid' (goF_mid_end n3 q2 s2 (T.data.toList.drop q2))
              have HTOK := hid' (goF_mid_tok n3 q2 s2 (T.data.toList.drop q2))
              clear m3 m4 m5 m7 m8 hm
              go_wp2_with fail
              refine (HLE.out).mono ?_
              rintro e w5 ⟨rfl, k5, rfl⟩
              generalize hw : wr.drewN k5 = w6
              obtain ⟨m3, m4, m5, m7, m8⟩ := HX.out
              have S6 : ScanAt w6 B sb T q2 s2 := by rw [← hw]; exact m3.drewN k5
              have B6 : Below B W w6 := by rw [← hw]; exact ⟨m8.os, m8.tape, m8.output, m8.size, m8.block⟩
              have E6 : Env A w6 B := by rw [← hw]; exact ⟨m7.words, m7.err, m7.wB, m7.eB⟩
              have HR := hid' m5
              have HG2 := hid' m4
              clear hw m3 m4 m5 m7 m8 HLE HX
              have hcnt : s2.toks.length < 1000000 := by have := HG2.out.cnt; omega
              rcases Bool.eq_false_or_eq_true (ends (T.data.toList.drop q2)) with e2 | e2
              · rw [e2]
                obtain ⟨ut, ub, uo, D6⟩ := S6
                obtain ⟨d0, d1, d2, d3, d4⟩ := D6.cells
                obtain ⟨ao6, cap6, eo, _⟩ := own_form D6.opn
                rw [eo] at d4
                have HS6 : Hid (ScanAt w6 B sb T q2 s2) := hid' ⟨_, _, _, D6⟩
                have HB6 := hid' B6
                have hop6 := HG2.out.op
                clear D6 B6 E6 eo d0 d2 d3
                by_cases ho2 : s2.op = []
                · have hol2 : s2.op.length = 0 := by rw [ho2]; rfl
                  rw [hol2] at d4
                  have HAD := hid' (add_any HS6.out 5 ⟨#[]⟩ 0 (by omega) (by omega) hcnt)
                  have HRR : Hid (R = contF n3 q2 { s2 with toks := s2.toks ++ [⟨5, [], q2⟩] } (T.data.toList.drop q2)) := hid' (by
                    rw [HR.out, HEND.out e2]; unfold nlF; rw [if_pos ho2])
                  have HE2 := hid' e2
                  clear hol2 ho2 e2 HR HEND HTOK
                  go_wp2_with fail
                  refine (HAD.out).mono ?_
                  rintro e w7 ⟨rfl, S7, b7⟩
                  have HRES : Hid (LinePost A W B sb T R p (.returned .nilIface) w7) := hid' (.inr ⟨q2, _, n3, rfl, m1, m2, HE2.out, S7, ⟨HG2.out.op, HG2.out.bl, HG2.out.last, by have := HG2.out.cnt; simp; omega⟩, HRR.out, by omega, HB6.out.trans b7⟩)
                  clear S7 b7
                  go_wp2
                  go_ret
                  exact HRES.out
                · have hol2 : ((s2.op.length : Int) == 0) = false := by
                    rw [beq_eq_false_iff_ne]
                    have : s2.op.length ≠ 0 := fun h0 => ho2 (List.eq_nil_of_length_eq_zero h0)
                    omega
                  have hol3 : (s2.op.length == 0) = false := by
                    rw [beq_eq_false_iff_ne]
                    exact fun h0 => ho2 (List.eq_nil_of_length_eq_zero h0)
                  have HRES : Hid (LinePost A W B sb T R p (.returned .nilIface) w6) := hid' (.inr ⟨q2, s2, n3, rfl, m1, m2, e2, HS6.out, HG2.out.more (by omega), by rw [HR.out, HEND.out e2]; unfold nlF; rw [if_neg ho2], by omega, HB6.out⟩)
                  clear ho2 e2 HR HEND HTOK
                  go_wp2
                  go_ret
                  exact HRES.out
              · have hq2 : q2 < T.size := by
                  rcases Nat.lt_or_ge q2 T.size with h | h
                  · exact h
                  · have : q2 = T.size := by omega
                    rw [this, ends_end] at e2
                    cases e2
                have HT := hid' (token_any A S6 hq2 (by omega) hcnt HG2.out.op E6.words E6.err E6.eB)
                have HRT := hid' (HR.out.trans (HTOK.out e2))
                have HB6 := hid' B6
                have HE6 := hid' E6
                rw [e2]
                clear S6 B6 E6 e2 HR HEND HTOK
                obtain ⟨res, hres⟩ : ∃ r, tokF s2.op (T.data.toList.drop q2) = r := ⟨_, rfl⟩
                have HOK : Hid (∀ k t n op', res = .ok k t n op' → op'.length ≤ 60 ∧ 1 ≤ n ∧ n ≤ (T.data.toList.drop q2).length) := hid' (fun k t n op' hh => tokF_ok (hres.trans hh) HG2.out.op)
                rw [hres] at HT HRT
                clear hres
                go_wp2_with fail
                refine (HT.out).mono ?_
                intro e w7 hpost
                cases res with
                | bad j =>
                  obtain ⟨v, rfl, hv, b7⟩ := hpost
                  obtain ⟨gb, rfl, hv2, hv3⟩ := hv
                  have HRES : Hid (LinePost A W B sb T R p (.returned (.iface 67 (.pointer (some ⟨gb, 0, none⟩)))) w7) := hid' (.inl ⟨_, _, HRT.out, rfl, ⟨gb, rfl, hv2, hv3⟩, HB6.out.trans b7⟩)
                  clear b7 hv2 hv3 HT
                  go_wp2
                  go_ret
                  exact HRES.out
                | ok k t n op' =>
                  obtain ⟨rfl, S7, b7⟩ := hpost
                  obtain ⟨o1, o2, o3⟩ := HOK.out k t n op' rfl
                  rw [lenDrop] at o3
                  have HGP := hid' (gap_any S7 (by omega) (by omega))
                  have hgl2 := gapF_le (T.data.toList.drop (q2 + n))
                  rw [lenDrop] at hgl2
                  have HB7 := hid' (HB6.out.trans b7)
                  have HE7 := hid' (HE6.out.below b7)
                  have HRR : Hid (R = goF n3 true (q2 + n + gapF (T.data.toList.drop (q2 + n))) { s2 with toks := s2.toks ++ [⟨k, t, q2⟩], op := op' } (T.data.toList.drop (q2 + n + gapF (T.data.toList.drop (q2 + n))))) := hid' (by
                    have h := HRT.out
                    simp only [List.drop_drop] at h
                    exact h)
                  generalize gapF (T.data.toList.drop (q2 + n)) = g2 at HGP hgl2 HRR
                  clear S7 b7 HT HRT HOK
                  go_wp2_with fail
                  refine (HGP.out).mono ?_
                  rintro e w8 ⟨rfl, S8, b8⟩
                  have HM2 : Hid (MidAt W A B sb T R p (q2 + n + g2) { s2 with toks := s2.toks ++ [⟨k, t, q2⟩], op := op' } w8) := hid' ⟨by omega, by omega, S8, ⟨o1, HG2.out.bl, HG2.out.last, by have := HG2.out.cnt; simp; omega⟩, ⟨n3, HRR.out, by omega⟩, HE7.out.below b8, HB7.out.trans b8⟩
                  clear S8 b8
                  go_wp2
                  go_roundg (T.size - (q2 + n + g2))
                  case rel => exact ⟨_, _, rfl, HM2⟩
                  case measure => omega
        · have HD := hid' (indent_down A HS3.out g b0 bs HBL.out hlt (by omega) (by omega) (by have := HG.out.bl; omega) (by have := HG.out.bl; omega) HG.out.last HE3.out.err HE3.out.eB)
          rw [← HSUB.out] at HD
          have hI2 : R = if (st.blocks.dropWhile (g < ·)).headD 0 = g then goF m true q { st with toks := st.toks ++ deds (st.blocks.takeWhile (g < ·)).length q, blocks := st.blocks.dropWhile (g < ·) } (T.data.toList.drop q) else .bad q := by
            rw [HI.out]
            unfold indF
            rw [if_neg (by rw [HBL.out, List.headD_cons]; exact hlt)]
            by_cases h : (st.blocks.dropWhile (g < ·)).headD 0 = g
            · rw [if_pos h, if_pos h]; rfl
            · rw [if_neg h, if_neg h]
          have HI2 := hid' hI2
          have hbl2 : (st.blocks.dropWhile (g < ·)).length + (st.blocks.takeWhile (g < ·)).length = st.blocks.length := by
            have := congrArg List.length (List.takeWhile_append_dropWhile (p := fun x => decide (g < x)) (l := st.blocks))
            rw [List.length_append] at this
            omega
          have hlast2 := dropWhile_last g st.blocks HG.out.last
          have HL2 := hid' (And.intro hbl2 hlast2)
          clear hI2 HI hlt hbl2 hlast2
          go_wp2_with fail
          refine (HD.out).mono ?_
          rintro e w4 ⟨hok, hbad⟩
          by_cases hh : (st.blocks.dropWhile (g < ·)).headD 0 = g
          · obtain ⟨rfl, S4, b4⟩ := hok hh
            have HRI := hid' (HI2.out.trans (if_pos hh))
            have HM : Hid (MidAt W A B sb T R p q { st with toks := st.toks ++ deds (st.blocks.takeWhile (g < ·)).length q, blocks := st.blocks.dropWhile (g < ·) } w4) := hid' ⟨hpq, hqT, S4, ⟨HG.out.op, by have := HL2.out.1; have := HG.out.bl; simp only; omega, HL2.out.2, by have := HL2.out.1; have := HG.out.cnt; simp [deds]; omega⟩, ⟨m, HRI.out, by omega⟩, HE3.out.below b4, HB3.out.trans b4⟩
            clear S4 b4 HD hok hbad hh HI2 HL2
            go_wp2_with fail
            go_loopg [] (T.size - q) (fun gk wr => ∃ (q2 : Nat) (s2 : St), T.size - q2 = gk ∧ Hid (MidAt W A B sb T R p q2 s2 wr))
            case atStart => exact ⟨q, _, rfl, HM⟩
            case round =>
              clear HM
              obtain ⟨q2, s2, hgk, hm⟩ := hrel
              obtain ⟨m1, m2, m3, m4, ⟨n2, m5, m6⟩, m7, m8⟩ := hm.out
              obtain ⟨n3, rfl⟩ : ∃ n3, n2 = n3 + 1 := ⟨n2 - 1, by omega⟩
              have HLE := hid' (lineEnds_any m3 m2)
              have HX := hid' (And.intro m3 (And.intro m4 (And.intro m5 (And.intro m7 m8))))
              have HEND := hid' (goF_mid_end n3 q2 s2 (T.data.toList.drop q2))
              have HTOK := hid' (goF_mid_tok n3 q2 s2 (T.data.toList.drop q2))
              clear m3 m4 m5 m7 m8 hm
              go_wp2_with fail
              refine (HLE.out).mono ?_
              rintro e w5 ⟨rfl, k5, rfl⟩
              generalize hw : wr.drewN k5 = w6
              obtain ⟨m3, m4, m5, m7, m8⟩ := HX.out
              have S6 : ScanAt w6 B sb T q2 s2 := by rw [← hw]; exact m3.drewN k5
              have B6 : Below B W w6 := by rw [← hw]; exact ⟨m8.os, m8.tape, m8.output, m8.size, m8.block⟩
              have E6 : Env A w6 B := by rw [← hw]; exact ⟨m7.words, m7.err, m7.wB, m7.eB⟩
              have HR := hid' m5
              have HG2 := hid' m4
              clear hw m3 m4 m5 m7 m8 HLE HX
              have hcnt : s2.toks.length < 1000000 := by have := HG2.out.cnt; omega
              rcases Bool.eq_false_or_eq_true (ends (T.data.toList.drop q2)) with e2 | e2
              · rw [e2]
                obtain ⟨ut, ub, uo, D6⟩ := S6
                obtain ⟨d0, d1, d2, d3, d4⟩ := D6.cells
                obtain ⟨ao6, cap6, eo, _⟩ := own_form D6.opn
                rw [eo] at d4
                have HS6 : Hid (ScanAt w6 B sb T q2 s2) := hid' ⟨_, _, _, D6⟩
                have HB6 := hid' B6
                have hop6 := HG2.out.op
                clear D6 B6 E6 eo d0 d2 d3
                by_cases ho2 : s2.op = []
                · have hol2 : s2.op.length = 0 := by rw [ho2]; rfl
                  rw [hol2] at d4
                  have HAD := hid' (add_any HS6.out 5 ⟨#[]⟩ 0 (by omega) (by omega) hcnt)
                  have HRR : Hid (R = contF n3 q2 { s2 with toks := s2.toks ++ [⟨5, [], q2⟩] } (T.data.toList.drop q2)) := hid' (by
                    rw [HR.out, HEND.out e2]; unfold nlF; rw [if_pos ho2])
                  have HE2 := hid' e2
                  clear hol2 ho2 e2 HR HEND HTOK
                  go_wp2_with fail
                  refine (HAD.out).mono ?_
                  rintro e w7 ⟨rfl, S7, b7⟩
                  have HRES : Hid (LinePost A W B sb T R p (.returned .nilIface) w7) := hid' (.inr ⟨q2, _, n3, rfl, m1, m2, HE2.out, S7, ⟨HG2.out.op, HG2.out.bl, HG2.out.last, by have := HG2.out.cnt; simp; omega⟩, HRR.out, by omega, HB6.out.trans b7⟩)
                  clear S7 b7
                  go_wp2
                  go_ret
                  exact HRES.out
                · have hol2 : ((s2.op.length : Int) == 0) = false := by
                    rw [beq_eq_false_iff_ne]
                    have : s2.op.length ≠ 0 := fun h0 => ho2 (List.eq_nil_of_length_eq_zero h0)
                    omega
                  have hol3 : (s2.op.length == 0) = false := by
                    rw [beq_eq_false_iff_ne]
                    exact fun h0 => ho2 (List.eq_nil_of_length_eq_zero h0)
                  have HRES : Hid (LinePost A W B sb T R p (.returned .nilIface) w6) := hid' (.inr ⟨q2, s2, n3, rfl, m1, m2, e2, HS6.out, HG2.out.more (by omega), by rw [HR.out, HEND.out e2]; unfold nlF; rw [if_neg ho2], by omega, HB6.out⟩)
                  clear ho2 e2 HR HEND HTOK
                  go_wp2
                  go_ret
                  exact HRES.out
              · have hq2 : q2 < T.size := by
                  rcases Nat.lt_or_ge q2 T.size with h | h
                  · exact h
                  · have : q2 = T.size := by omega
                    rw [this, ends_end] at e2
                    cases e2
                have HT := hid' (token_any A S6 hq2 (by omega) hcnt HG2.out.op E6.words E6.err E6.eB)
                have HRT := hid' (HR.out.trans (HTOK.out e2))
                have HB6 := hid' B6
                have HE6 := hid' E6
                rw [e2]
                clear S6 B6 E6 e2 HR HEND HTOK
                obtain ⟨res, hres⟩ : ∃ r, tokF s2.op (T.data.toList.drop q2) = r := ⟨_, rfl⟩
                have HOK : Hid (∀ k t n op', res = .ok k t n op' → op'.length ≤ 60 ∧ 1 ≤ n ∧ n ≤ (T.data.toList.drop q2).length) := hid' (fun k t n op' hh => tokF_ok (hres.trans hh) HG2.out.op)
                rw [hres] at HT HRT
                clear hres
                go_wp2_with fail
                refine (HT.out).mono ?_
                intro e w7 hpost
                cases res with
                | bad j =>
                  obtain ⟨v, rfl, hv, b7⟩ := hpost
                  obtain ⟨gb, rfl, hv2, hv3⟩ := hv
                  have HRES : Hid (LinePost A W B sb T R p (.returned (.iface 67 (.pointer (some ⟨gb, 0, none⟩)))) w7) := hid' (.inl ⟨_, _, HRT.out, rfl, ⟨gb, rfl, hv2, hv3⟩, HB6.out.trans b7⟩)
                  clear b7 hv2 hv3 HT
                  go_wp2
                  go_ret
                  exact HRES.out
                | ok k t n op' =>
                  obtain ⟨rfl, S7, b7⟩ := hpost
                  obtain ⟨o1, o2, o3⟩ := HOK.out k t n op' rfl
                  rw [lenDrop] at o3
                  have HGP := hid' (gap_any S7 (by omega) (by omega))
                  have hgl2 := gapF_le (T.data.toList.drop (q2 + n))
                  rw [lenDrop] at hgl2
                  have HB7 := hid' (HB6.out.trans b7)
                  have HE7 := hid' (HE6.out.below b7)
                  have HRR : Hid (R = goF n3 true (q2 + n + gapF (T.data.toList.drop (q2 + n))) { s2 with toks := s2.toks ++ [⟨k, t, q2⟩], op := op' } (T.data.toList.drop (q2 + n + gapF (T.data.toList.drop (q2 + n))))) := hid' (by
                    have h := HRT.out
                    simp only [List.drop_drop] at h
                    exact h)
                  generalize gapF (T.data.toList.drop (q2 + n)) = g2 at HGP hgl2 HRR
                  clear S7 b7 HT HRT HOK
                  go_wp2_with fail
                  refine (HGP.out).mono ?_
                  rintro e w8 ⟨rfl, S8, b8⟩
                  have HM2 : Hid (MidAt W A B sb T R p (q2 + n + g2) { s2 with toks := s2.toks ++ [⟨k, t, q2⟩], op := op' } w8) := hid' ⟨by omega, by omega, S8, ⟨o1, HG2.out.bl, HG2.out.last, by have := HG2.out.cnt; simp; omega⟩, ⟨n3, HRR.out, by omega⟩, HE7.out.below b8, HB7.out.trans b8⟩
                  clear S8 b8
                  go_wp2
                  go_roundg (T.size - (q2 + n + g2))
                  case rel => exact ⟨_, _, rfl, HM2⟩
                  case measure => omega
          · obtain ⟨v, rfl, hv, b7⟩ := hbad hh
            have hRb : Hid (R = .bad q) := hid' (HI2.out.trans (if_neg hh))
            obtain ⟨gb, rfl, hv2, hv3⟩ := hv
            have HRES : Hid (LinePost A W B sb T R p (.returned (.iface 67 (.pointer (some ⟨gb, 0, none⟩)))) w4) := hid' (.inl ⟨_, _, hRb.out, rfl, ⟨gb, rfl, hv2, hv3⟩, HB3.out.trans b7⟩)
            clear b7 hv2 hv3 HD hok hbad hh HI2 HL2
            go_wp2
            go_ret
            exact HRES.out
    · have hol : ((st.op.length : Int) == 0) = false := by
        rw [beq_eq_false_iff_ne]
        have : st.op.length ≠ 0 := fun h0 => ho (List.eq_nil_of_length_eq_zero h0)
        omega
      have hol2 : (st.op.length == 0) = false := by
        rw [beq_eq_false_iff_ne]
        exact fun h0 => ho (List.eq_nil_of_length_eq_zero h0)
      have HM : Hid (MidAt W A B sb T R p q st w3) := hid' ⟨hpq, hqT, HS3.out, HG.out.more (by omega), ⟨m, HB1.out e1 ho, by omega⟩, HE3.out, HB3.out⟩
      clear HA HB1 HC e1 ho
      go_wp2_with fail
      go_loopg [] (T.size - q) (fun gk wr => ∃ (q2 : Nat) (s2 : St), T.size - q2 = gk ∧ Hid (MidAt W A B sb T R p q2 s2 wr))
      case atStart => exact ⟨q, _, rfl, HM⟩
      case round =>
        clear HM
        obtain ⟨q2, s2, hgk, hm⟩ := hrel
        obtain ⟨m1, m2, m3, m4, ⟨n2, m5, m6⟩, m7, m8⟩ := hm.out
        obtain ⟨n3, rfl⟩ : ∃ n3, n2 = n3 + 1 := ⟨n2 - 1, by omega⟩
        have HLE := hid' (lineEnds_any m3 m2)
        have HX := hid' (And.intro m3 (And.intro m4 (And.intro m5 (And.intro m7 m8))))
        have HEND := hid' (goF_mid_end n3 q2 s2 (T.data.toList.drop q2))
        have HTOK := hid' (goF_mid_tok n3 q2 s2 (T.data.toList.drop q2))
        clear m3 m4 m5 m7 m8 hm
        go_wp2_with fail
        refine (HLE.out).mono ?_
        rintro e w5 ⟨rfl, k5, rfl⟩
        generalize hw : wr.drewN k5 = w6
        obtain ⟨m3, m4, m5, m7, m8⟩ := HX.out
        have S6 : ScanAt w6 B sb T q2 s2 := by rw [← hw]; exact m3.drewN k5
        have B6 : Below B W w6 := by rw [← hw]; exact ⟨m8.os, m8.tape, m8.output, m8.size, m8.block⟩
        have E6 : Env A w6 B := by rw [← hw]; exact ⟨m7.words, m7.err, m7.wB, m7.eB⟩
        have HR := hid' m5
        have HG2 := hid' m4
        clear hw m3 m4 m5 m7 m8 HLE HX
        have hcnt : s2.toks.length < 1000000 := by have := HG2.out.cnt; omega
        rcases Bool.eq_false_or_eq_true (ends (T.data.toList.drop q2)) with e2 | e2
        · rw [e2]
          obtain ⟨ut, ub, uo, D6⟩ := S6
          obtain ⟨d0, d1, d2, d3, d4⟩ := D6.cells
          obtain ⟨ao6, cap6, eo, _⟩ := own_form D6.opn
          rw [eo] at d4
          have HS6 : Hid (ScanAt w6 B sb T q2 s2) := hid' ⟨_, _, _, D6⟩
          have HB6 := hid' B6
          have hop6 := HG2.out.op
          clear D6 B6 E6 eo d0 d2 d3
          by_cases ho2 : s2.op = []
          · have hol2 : s2.op.length = 0 := by rw [ho2]; rfl
            rw [hol2] at d4
            have HAD := hid' (add_any HS6.out 5 ⟨#[]⟩ 0 (by omega) (by omega) hcnt)
            have HRR : Hid (R = contF n3 q2 { s2 with toks := s2.toks ++ [⟨5, [], q2⟩] } (T.data.toList.drop q2)) := hid' (by
              rw [HR.out, HEND.out e2]; unfold nlF; rw [if_pos ho2])
            have HE2 := hid' e2
            clear hol2 ho2 e2 HR HEND HTOK
            go_wp2_with fail
            refine (HAD.out).mono ?_
            rintro e w7 ⟨rfl, S7, b7⟩
            have HRES : Hid (LinePost A W B sb T R p (.returned .nilIface) w7) := hid' (.inr ⟨q2, _, n3, rfl, m1, m2, HE2.out, S7, ⟨HG2.out.op, HG2.out.bl, HG2.out.last, by have := HG2.out.cnt; simp; omega⟩, HRR.out, by omega, HB6.out.trans b7⟩)
            clear S7 b7
            go_wp2
            go_ret
            exact HRES.out
          · have hol2 : ((s2.op.length : Int) == 0) = false := by
              rw [beq_eq_false_iff_ne]
              have : s2.op.length ≠ 0 := fun h0 => ho2 (List.eq_nil_of_length_eq_zero h0)
              omega
            have hol3 : (s2.op.length == 0) = false := by
              rw [beq_eq_false_iff_ne]
              exact fun h0 => ho2 (List.eq_nil_of_length_eq_zero h0)
            have HRES : Hid (LinePost A W B sb T R p (.returned .nilIface) w6) := hid' (.inr ⟨q2, s2, n3, rfl, m1, m2, e2, HS6.out, HG2.out.more (by omega), by rw [HR.out, HEND.out e2]; unfold nlF; rw [if_neg ho2], by omega, HB6.out⟩)
            clear ho2 e2 HR HEND HTOK
            go_wp2
            go_ret
            exact HRES.out
        · have hq2 : q2 < T.size := by
            rcases Nat.lt_or_ge q2 T.size with h | h
            · exact h
            · have : q2 = T.size := by omega
              rw [this, ends_end] at e2
              cases e2
          have HT := hid' (token_any A S6 hq2 (by omega) hcnt HG2.out.op E6.words E6.err E6.eB)
          have HRT := hid' (HR.out.trans (HTOK.out e2))
          have HB6 := hid' B6
          have HE6 := hid' E6
          rw [e2]
          clear S6 B6 E6 e2 HR HEND HTOK
          obtain ⟨res, hres⟩ : ∃ r, tokF s2.op (T.data.toList.drop q2) = r := ⟨_, rfl⟩
          have HOK : Hid (∀ k t n op', res = .ok k t n op' → op'.length ≤ 60 ∧ 1 ≤ n ∧ n ≤ (T.data.toList.drop q2).length) := hid' (fun k t n op' hh => tokF_ok (hres.trans hh) HG2.out.op)
          rw [hres] at HT HRT
          clear hres
          go_wp2_with fail
          refine (HT.out).mono ?_
          intro e w7 hpost
          cases res with
          | bad j =>
            obtain ⟨v, rfl, hv, b7⟩ := hpost
            obtain ⟨gb, rfl, hv2, hv3⟩ := hv
            have HRES : Hid (LinePost A W B sb T R p (.returned (.iface 67 (.pointer (some ⟨gb, 0, none⟩)))) w7) := hid' (.inl ⟨_, _, HRT.out, rfl, ⟨gb, rfl, hv2, hv3⟩, HB6.out.trans b7⟩)
            clear b7 hv2 hv3 HT
            go_wp2
            go_ret
            exact HRES.out
          | ok k t n op' =>
            obtain ⟨rfl, S7, b7⟩ := hpost
            obtain ⟨o1, o2, o3⟩ := HOK.out k t n op' rfl
            rw [lenDrop] at o3
            have HGP := hid' (gap_any S7 (by omega) (by omega))
            have hgl2 := gapF_le (T.data.toList.drop (q2 + n))
            rw [lenDrop] at hgl2
            have HB7 := hid' (HB6.out.trans b7)
            have HE7 := hid' (HE6.out.below b7)
            have HRR : Hid (R = goF n3 true (q2 + n + gapF (T.data.toList.drop (q2 + n))) { s2 with toks := s2.toks ++ [⟨k, t, q2⟩], op := op' } (T.data.toList.drop (q2 + n + gapF (T.data.toList.drop (q2 + n))))) := hid' (by
              have h := HRT.out
              simp only [List.drop_drop] at h
              exact h)
            generalize gapF (T.data.toList.drop (q2 + n)) = g2 at HGP hgl2 HRR
            clear S7 b7 HT HRT HOK
            go_wp2_with fail
            refine (HGP.out).mono ?_
            rintro e w8 ⟨rfl, S8, b8⟩
            have HM2 : Hid (MidAt W A B sb T R p (q2 + n + g2) { s2 with toks := s2.toks ++ [⟨k, t, q2⟩], op := op' } w8) := hid' ⟨by omega, by omega, S8, ⟨o1, HG2.out.bl, HG2.out.last, by have := HG2.out.cnt; simp; omega⟩, ⟨n3, HRR.out, by omega⟩, HE7.out.below b8, HB7.out.trans b8⟩
            clear S8 b8
            go_wp2
            go_roundg (T.size - (q2 + n + g2))
            case rel => exact ⟨_, _, rfl, HM2⟩
            case measure => omega
end
end Go.Proofs.YtaafhldcdkbnkaaGreatDoor
