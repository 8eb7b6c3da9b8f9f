/- The document's DivMod. Conditions: short numbers. -/
import Derived.Test.YtapdkibiegeijaaDoorRvD
import Derived.Test.YtapdkibiegeijaaDoorRvE
import Derived.Test.YtapdkibiegeijaaDoorNumV
import Derived.Deep.RegionWith
import Derived.Deep.Cut
namespace Go.Proofs.YtapdkibiegeijaaDoor
open Go.RowKit
namespace Rv
open Go.Proofs.YtapdkibiegeijaaDoor.Nm (DM)

theorem dm_plain {na nb : Bool} {a b : Nat} (hb : 0 < b) (h : na = nb ∨ a % b = 0) : DM (sgnv na a) (sgnv nb b) (sgnv (!(na == nb)) (a / b)) (sgnv na (a % b)) := by
  have e := Nat.div_add_mod a b
  have hm := Nat.mod_lt a hb
  generalize a / b = q at *
  generalize a % b = r at *
  obtain rfl := e
  unfold DM
  cases na <;> cases nb <;> simp [sgnv] at * <;> first | (subst h; refine ⟨by grind, by omega⟩) | (refine ⟨by grind, by omega⟩)
theorem dm_turned {na nb : Bool} {a b : Nat} (hb : 0 < b) (hne : na ≠ nb) (hr : a % b ≠ 0) : DM (sgnv na a) (sgnv nb b) (sgnv (!(na == nb)) (a / b) - 1) (sgnv na (a % b) + sgnv nb b) := by
  have e := Nat.div_add_mod a b
  have hm := Nat.mod_lt a hb
  generalize a / b = q at *
  generalize a % b = r at *
  obtain rfl := e
  unfold DM
  cases na <;> cases nb <;> simp [sgnv] at * <;> exact ⟨by grind, by omega⟩

/-- The boxes of divide. -/
structure Bx4 (w W : World) (c0 c1 d0 d1 q0 q1 r0 r1 : Value) : Prop where
  a : Blk W w.heap.size c0 c1
  b : Blk W (w.heap.size + 1) d0 d1
  q : Blk W (w.heap.size + 2) q0 q1
  r : Blk W (w.heap.size + 3) r0 r1
  size : w.heap.size + 4 ≤ W.heap.size
  below : Below w.heap.size w W
theorem bx4_new (w : World) (c0 c1 d0 d1 : Value) : Bx4 w ((((w.alloc (.cells #[c0, c1] 28)).alloc (.cells #[d0, d1] 28)).alloc (.cells #[.bool false, .slice none 0 0] 28)).alloc (.cells #[.bool false, .slice none 0 0] 28)) c0 c1 d0 d1 (.bool false) (.slice none 0 0) (.bool false) (.slice none 0 0) := by
  have h := boxes_new w c0 c1 d0 d1
  have hb := (Below.refl _ (((w.alloc (.cells #[c0, c1] 28)).alloc (.cells #[d0, d1] 28)).alloc (.cells #[.bool false, .slice none 0 0] 28))).alloc (Nat.le_refl _) (.cells #[.bool false, .slice none 0 0] 28)
  have h2 := h.more hb
  refine ⟨h2.a, h2.b, h2.r, ?_, by simp, h2.below⟩
  have := blk_new (((w.alloc (.cells #[c0, c1] 28)).alloc (.cells #[d0, d1] 28)).alloc (.cells #[.bool false, .slice none 0 0] 28)) (.bool false) (.slice none 0 0)
  rwa [World.size_alloc, World.size_alloc, World.size_alloc] at this
theorem Bx4.more {w W W' : World} {c0 c1 d0 d1 q0 q1 r0 r1 : Value} (h : Bx4 w W c0 c1 d0 d1 q0 q1 r0 r1) {B : Nat} (hb : Below B W W') (hB : w.heap.size + 4 ≤ B) : Bx4 w W' c0 c1 d0 d1 q0 q1 r0 r1 where
  a := h.a.below hb (by omega)
  b := h.b.below hb (by omega)
  q := h.q.below hb (by omega)
  r := h.r.below hb (by omega)
  size := Nat.le_trans h.size hb.size
  below := h.below.trans (hb.mono (by omega))
theorem Bx4.cells {w W : World} {c0 c1 d0 d1 q0 q1 r0 r1 : Value} (h : Bx4 w W c0 c1 d0 d1 q0 q1 r0 r1) (W' : World) (hb : Below (w.heap.size + 2) W W') : W'.cell? ⟨w.heap.size, 0, none⟩ = some c0 ∧ W'.cell? ⟨w.heap.size, 1, none⟩ = some c1 ∧
    W'.cell? ⟨w.heap.size + 1, 0, none⟩ = some d0 ∧ W'.cell? ⟨w.heap.size + 1, 1, none⟩ = some d1 ∧ True ∧ True :=
  ⟨(h.a.below hb (by omega)).facts.1, (h.a.below hb (by omega)).facts.2.1, (h.b.below hb (by omega)).facts.1, (h.b.below hb (by omega)).facts.2.1, trivial, trivial⟩
/-- Both results stored. -/
def two4 (w W : World) (x0 x1 y0 y1 : Value) : World := (((W.setCell ⟨w.heap.size + 2, 0, none⟩ x0).setCell ⟨w.heap.size + 2, 1, none⟩ x1).setCell ⟨w.heap.size + 3, 0, none⟩ y0).setCell ⟨w.heap.size + 3, 1, none⟩ y1
theorem Bx4.store {w W : World} {c0 c1 d0 d1 q0 q1 r0 r1 : Value} (h : Bx4 w W c0 c1 d0 d1 q0 q1 r0 r1) (x0 x1 y0 y1 : Value) : Bx4 w (two4 w W x0 x1 y0 y1) c0 c1 d0 d1 x0 x1 y0 y1 where
  a := (heap_setCell_other _ _ _ _ (by simp)).trans ((heap_setCell_other _ _ _ _ (by simp)).trans ((heap_setCell_other _ _ _ _ (by simp)).trans ((heap_setCell_other _ _ _ _ (by simp)).trans h.a)))
  b := (heap_setCell_other _ _ _ _ (by simp)).trans ((heap_setCell_other _ _ _ _ (by simp)).trans ((heap_setCell_other _ _ _ _ (by simp)).trans ((heap_setCell_other _ _ _ _ (by simp)).trans h.b)))
  q := (heap_setCell_other _ _ _ _ (by simp)).trans ((heap_setCell_other _ _ _ _ (by simp)).trans (h.q.set x0 x1))
  r := by
    have e : Blk ((W.setCell ⟨w.heap.size + 2, 0, none⟩ x0).setCell ⟨w.heap.size + 2, 1, none⟩ x1) (w.heap.size + 3) r0 r1 := (heap_setCell_other _ _ _ _ (by simp)).trans ((heap_setCell_other _ _ _ _ (by simp)).trans h.r)
    exact e.set y0 y1
  size := by unfold two4; simp only [World.size_setCell]; exact h.size
  below := (((h.below.setCell (show w.heap.size ≤ w.heap.size + 2 by omega) _).setCell (show w.heap.size ≤ w.heap.size + 2 by omega) _).setCell (show w.heap.size ≤ w.heap.size + 3 by omega) _).setCell (show w.heap.size ≤ w.heap.size + 3 by omega) _
theorem Bx4.drew {w W : World} {c0 c1 d0 d1 q0 q1 r0 r1 : Value} (h : Bx4 w W c0 c1 d0 d1 q0 q1 r0 r1) : Bx4 w W.drew c0 c1 d0 d1 q0 q1 r0 r1 := ⟨h.a, h.b, h.q, h.r, h.size, h.below.drew⟩
theorem NumAt.drew {W : World} {v : Value} {z : Int} {k : Nat} (h : NumAt W v z k) : NumAt W.drew v z k := h.below (Below.refl _ _).drew
theorem numAt_two4 {w W : World} {c0 c1 d0 d1 x0 x1 y0 y1 v : Value} {b0 b1 : Bool} {p p' : Option Addr} {s t s' t' : Nat} {z : Int} {k : Nat} (h : Bx4 w W c0 c1 d0 d1 (.bool b0) (.slice p s t) (.bool b1) (.slice p' s' t')) (hv : NumAt W v z k) : NumAt (two4 w W x0 x1 y0 y1) v z k := by
  have h1 := hv.turn h.q (((Turn.refl _ W).setCell 0 x0).setCell 1 x1)
  have e : Blk ((W.setCell ⟨w.heap.size + 2, 0, none⟩ x0).setCell ⟨w.heap.size + 2, 1, none⟩ x1) (w.heap.size + 3) (.bool b1) (.slice p' s' t') := (heap_setCell_other _ _ _ _ (by simp)).trans ((heap_setCell_other _ _ _ _ (by simp)).trans h.r)
  exact h1.turn e (((Turn.refl _ _).setCell 0 y0).setCell 1 y1)
theorem turn_below {g B : Nat} {w w' : World} (h : Turn g w w') (hB : B ≤ g) (hw : B ≤ w.heap.size) : Below B w w' := ⟨h.os, h.tape, h.output, h.size, fun k hk => h.block k (by omega) (by omega)⟩
set_option maxHeartbeats 3200000 in
theorem divmod_zero (a b : Value) (x : Int) (k m : Nat) (w : World) (ha : NumAt w a x k) (hb : NumAt w b 0 m) :
    Calls Tryd.prog 12 #[a, b] w fun e w' => e = .returned (.tuple #[.agg #[.bool false, .slice none 0 0], .agg #[.bool false, .slice none 0 0], .bool false]) ∧ Below w.heap.size w w' := by
  obtain ⟨na, ao, ac, la, rfl, hac, hsa, hda, hta, hla, hpa, rfl⟩ := ha
  obtain ⟨nb, bo, bc, lb, rfl, hbc, hsb, hdb, htb, hlb, hpb, hz⟩ := hb
  obtain rfl : lb = [] := by
    cases lb with
    | nil => rfl
    | cons t l =>
      have := val_pos htb (by simp)
      unfold sgnv at hz
      split at hz <;> omega
  have hbx := (bx4_new w (.bool na) (.slice ao la.length ac) (.bool nb) (.slice bo 0 bc)).below
  obtain ⟨n, hn⟩ : ∃ n, la.length = n := ⟨_, rfl⟩
  rw [hn] at hbx ⊢
  rw [show ([] : List Nat).length = 0 from rfl]
  clear hsa hsb hda hdb hta htb hpa hpb hn hz hac hbc hla hlb
  have HBX := hidden hbx
  clear hbx
  go_enter Tryd.func12, Tryd.ntmps12
  go_wp2
  refine bodyPost_ret (v := .tuple #[.agg #[.bool false, .slice none 0 0], .agg #[.bool false, .slice none 0 0], .bool false]) (by simp [results, Tryd.results12, go_sem]) rfl ⟨rfl, HBX.out⟩
/-- What DivMod answers. -/
def Divided (w w' : World) (e : Ending) (x y : Int) (k m : Nat) : Prop := ∃ (v1 v2 : Value) (q r : Int), e = .returned (.tuple #[v1, v2, .bool true]) ∧ NumAt w' v1 q k ∧ NumAt w' v2 r m ∧ DM x y q r ∧ Below w.heap.size w w'
set_option maxRecDepth 100000 in
set_option maxHeartbeats 12800000 in
theorem divmod_any (a b : Value) (x y : Int) (k m : Nat) (w : World) (ha : NumAt w a x k) (hb : NumAt w b y m) (hk : k < 900000) (hm : m < 900000) (hy : y ≠ 0) :
    Calls Tryd.prog 12 #[a, b] w fun e w' => Divided w w' e x y (max k 5 + 1) (m + 1) := by
  have HNB := hidden hb
  obtain ⟨na, ao, ac, la, rfl, hac, hsa, hda, hta, hla, hpa, rfl⟩ := ha
  obtain ⟨nb, bo, bc, lb, rfl, hbc, hsb, hdb, htb, hlb, hpb, rfl⟩ := hb
  have hlb0 : 0 < lb.length := by
    cases lb with
    | nil => exact absurd (by cases nb <;> rfl) hy
    | cons t l => simp
  have hvb : 0 < val lb := val_pos htb hlb0
  have hbx := bx4_new w (.bool na) (.slice ao la.length ac) (.bool nb) (.slice bo lb.length bc)
  have HSA := hidden hsa
  have HSB := hidden hsb
  have hdv := fun W (h1 : SrcN W ao la) (h2 : SrcN W bo lb) => divided_any ao bo ac bc la lb W (by omega) (by omega) hlb0 h1 h2 hda hdb htb
  obtain ⟨n, hn⟩ : ∃ n, la.length = n := ⟨_, rfl⟩
  obtain ⟨n2, hn2⟩ : ∃ n, lb.length = n := ⟨_, rfl⟩
  rw [hn] at hbx hdv hla hac ⊢
  rw [hn2] at hbx hdv hlb hbc hlb0 HNB ⊢
  have HDV := hidden hdv
  have HVB := hidden hvb
  have h0b : ((n2 : Int) == 0) = false := by rw [beq_eq_false_iff_ne]; omega
  clear hsa hsb hda hdb hta htb hpa hpb hn hn2 hdv hvb hy
  obtain ⟨mk, hmk2⟩ : ∃ mx, max k 5 = mx := ⟨_, rfl⟩
  have hmkl : mk < 1000000 := by omega
  have hmx : n ≤ mk := by omega
  have hmx3 : 5 ≤ mk := by omega
  rw [hmk2]
  clear hmk2
  go_enter Tryd.func12, Tryd.ntmps12
  go_wp2_with fail
  have HBX := hidden hbx
  clear hbx
  generalize (((w.alloc (.cells #[.bool na, .slice ao n ac] 28)).alloc (.cells #[.bool nb, .slice bo n2 bc] 28)).alloc (.cells #[.bool false, .slice none 0 0] 28)).alloc (.cells #[.bool false, .slice none 0 0] 28) = W1 at HBX ⊢
  refine (HDV.out _ (HSA.out.below HBX.out.below) (HSB.out.below HBX.out.below)).mono ?_
  rintro e W0 ⟨qo, qc, Q, ro, rc, T, rfl, hsq, hst, hdq, hdt, hvq, hvt, hlq, hlt, hqc, hrc, hb2⟩
  have HBX0 := hidden (HBX.out.more hb2 HBX.out.size)
  obtain ⟨lq, hlq2⟩ : ∃ n, Q.length = n := ⟨_, rfl⟩
  obtain ⟨lt, hlt2⟩ : ∃ n, T.length = n := ⟨_, rfl⟩
  rw [hlq2] at hlq hqc ⊢
  rw [hlt2] at hlt hrc ⊢
  have HLQ := hidden hlq2
  have HLT := hidden hlt2
  have HSQ := hidden hsq
  have HST := hidden hst
  have HDQ := hidden hdq
  have HDT := hidden hdt
  have HVQ := hidden hvq
  have HVT := hidden hvt
  clear hlq2 hlt2 hsq hst hdq hdt hvq hvt hb2 HBX HSA HSB HDV
  obtain ⟨k0, k1, k2, k3, _, _⟩ := HBX0.out.cells W0 (Below.refl _ _)
  go_wp2_with fail
  refine (trim_any (!(na == nb)) qo lq qc Q W0 HLQ.out (by omega) hqc HSQ.out HDQ.out).mono ?_
  rintro e w1 ⟨v1, rfl, hN1, hb1⟩
  have HN1 := hidden hN1
  obtain ⟨n1, a1, c1, l1, rfl, _⟩ := hN1
  have hal := (Below.refl w1.heap.size w1).alloc (Nat.le_refl _) (.cells #[.bool n1, .slice a1 l1.length c1] 28)
  have HB01 := hidden (hb1.trans (hal.mono hb1.size))
  have HN1b := hidden (HN1.out.below hal)
  have HK9 := hidden (blk_new w1 (.bool n1) (.slice a1 l1.length c1))
  have hw01 : W0.heap.size ≤ w1.heap.size := hb1.size
  clear HN1 hb1 hal k0 k1 k2 k3
  have HBX1 := hidden (HBX0.out.more HB01.out HBX0.out.size)
  obtain ⟨k0, k1, k2, k3, _, _⟩ := HBX1.out.cells _ (Below.refl _ _)
  go_wp2_with fail
  generalize w1.alloc (.cells #[.bool n1, .slice a1 l1.length c1] 28) = W2 at HB01 HN1b HK9 HBX1 k0 k1 k2 k3 ⊢
  obtain ⟨i9, hi9⟩ : ∃ i, w1.heap.size = i := ⟨_, rfl⟩
  rw [hi9] at HK9 hw01 ⊢
  clear hi9
  refine (trim_full na ro lt rc T W2 HLT.out (by omega) hrc (HST.out.below HB01.out) HDT.out).mono ?_
  rintro e w3 ⟨nr, cr, rfl, hcut, hnr, hb3⟩
  have HN2 := hidden (trim_num na nr (HST.out.below (HB01.out.trans (hb3.mono HB01.out.size))) HLT.out HDT.out hrc hcut hnr)
  have hcr0 : Hid (cr = 0 → val T = 0) := hidden (fun h => by
    have e1 := cutN_val T lt
    rw [hcut, h, List.take_zero, List.take_of_length_le (by rw [HLT.out]; omega)] at e1
    exact e1.symm)
  have hcr1 : Hid (0 < cr → val T ≠ 0) := hidden (fun h e => by
    have e1 := cutN_val T lt
    have e2 := cutN_trm T lt (by rw [HLT.out]; omega)
    have e3 := cutN_len T lt (by rw [HLT.out]; omega)
    rw [hcut] at e1 e2 e3
    rw [List.take_of_length_le (show T.length ≤ lt by rw [HLT.out]; omega)] at e1
    have := val_pos e2 (by omega)
    omega)
  have hal := (Below.refl w3.heap.size w3).alloc (Nat.le_refl _) (.cells #[.bool nr, .slice ro cr rc] 28)
  have hb23 := hb3.trans (hal.mono hb3.size)
  have HB23 := hidden hb23
  have HN1c := hidden (HN1b.out.below hb23)
  have HN2b := hidden (HN2.out.below hal)
  have HK9b := hidden (HK9.out.below hb23 HK9.out.lt)
  have HK10 := hidden (blk_new w3 (.bool nr) (.slice ro cr rc))
  have hw23 : W2.heap.size ≤ w3.heap.size := hb3.size
  have hi9 : i9 < W2.heap.size := HK9.out.lt
  have hw02 : W0.heap.size ≤ W2.heap.size := HB01.out.size
  have HNR := hidden hnr
  clear HN2 hcut hnr hb3 hal hb23 HN1b HK9 k0 k1 k2 k3
  have HBX3 := hidden (HBX1.out.more HB23.out (Nat.le_trans HBX0.out.size hw02))
  obtain ⟨k0, k1, k2, k3, _, _⟩ := HBX3.out.cells _ (Below.refl _ _)
  obtain ⟨f0, f1, _, _⟩ := HK10.out.facts
  go_upto_region 6 with fail
  generalize w3.alloc (.cells #[.bool nr, .slice ro cr rc] 28) = W5 at HB23 HN1c HN2b HK9b HK10 HBX3 k0 k1 k2 k3 f0 f1 ⊢
  obtain ⟨iT, hiT⟩ : ∃ i, w3.heap.size = i := ⟨_, rfl⟩
  rw [hiT] at HK10 hw23 f0 f1 ⊢
  clear hiT
  have HSZ := HBX0.out.size
  have hiTl : iT < W5.heap.size := HK10.out.lt
  have HBW := hidden HBX3.out.below
  have HNB5 := hidden (HNB.out.below HBW.out)
  obtain ⟨g0, g1, _, _⟩ := HK9b.out.facts
  obtain ⟨q0, q1, q2, q3⟩ := HBX3.out.q.facts
  obtain ⟨r0, r1, r2, r3⟩ := HBX3.out.r.facts
  by_cases hc0 : cr = 0
  · subst hc0
    have hz := hcr0.out rfl
    have HDM := hidden (dm_plain (na := na) (nb := nb) (a := val la) HVB.out (.inr (by rw [← HVT.out]; exact hz)))
    clear hz
    have HB5 := hidden (show Bx4 w (((((W5.setCell ⟨w.heap.size + 1 + 1, 0, none⟩ (.bool n1)).setCell ⟨w.heap.size + 1 + 1, 1, none⟩ (.slice a1 l1.length c1)).setCell ⟨w.heap.size + 1 + 1 + 1, 0, none⟩ (.bool nr)).setCell ⟨w.heap.size + 1 + 1 + 1, 1, none⟩ (.slice ro 0 rc)).drew) (.bool na) (.slice ao n ac) (.bool nb) (.slice bo n2 bc) (.bool n1) (.slice a1 l1.length c1) (.bool nr) (.slice ro 0 rc) from (HBX3.out.store (.bool n1) (.slice a1 l1.length c1) (.bool nr) (.slice ro 0 rc)).drew)
    have HV15 := hidden (show NumAt (((((W5.setCell ⟨w.heap.size + 1 + 1, 0, none⟩ (.bool n1)).setCell ⟨w.heap.size + 1 + 1, 1, none⟩ (.slice a1 l1.length c1)).setCell ⟨w.heap.size + 1 + 1 + 1, 0, none⟩ (.bool nr)).setCell ⟨w.heap.size + 1 + 1 + 1, 1, none⟩ (.slice ro 0 rc)).drew) (.agg #[.bool n1, .slice a1 l1.length c1]) _ _ from (numAt_two4 HBX3.out HN1c.out).drew)
    have HV25 := hidden (show NumAt (((((W5.setCell ⟨w.heap.size + 1 + 1, 0, none⟩ (.bool n1)).setCell ⟨w.heap.size + 1 + 1, 1, none⟩ (.slice a1 l1.length c1)).setCell ⟨w.heap.size + 1 + 1 + 1, 0, none⟩ (.bool nr)).setCell ⟨w.heap.size + 1 + 1 + 1, 1, none⟩ (.slice ro 0 rc)).drew) (.agg #[.bool nr, .slice ro 0 rc]) _ _ from (numAt_two4 HBX3.out HN2b.out).drew)
    go_wp2
    go_region
    go_wp2
    clear f0 f1 g0 g1 q0 q1 q2 q3 r0 r1 r2 r3 k0 k1 k2 k3
    generalize ((((W5.setCell ⟨w.heap.size + 1 + 1, 0, none⟩ (.bool n1)).setCell ⟨w.heap.size + 1 + 1, 1, none⟩ (.slice a1 l1.length c1)).setCell ⟨w.heap.size + 1 + 1 + 1, 0, none⟩ (.bool nr)).setCell ⟨w.heap.size + 1 + 1 + 1, 1, none⟩ (.slice ro 0 rc)).drew = W6 at HB5 HV15 HV25 ⊢
    obtain ⟨f0, f1, _, _⟩ := HB5.out.q.facts
    obtain ⟨g0, g1, _, _⟩ := HB5.out.r.facts
    refine bodyPost_ret (v := .tuple #[(.agg #[.bool n1, .slice a1 l1.length c1]), (.agg #[.bool nr, .slice ro 0 rc]), .bool true]) (by simp [results, Tryd.results12, go_sem, f0, f1, g0, g1]) rfl ⟨_, _, _, _, rfl, HV15.out.mono (by omega), HV25.out.mono (by omega), ?_, HB5.out.below⟩
    rw [HVQ.out, HVT.out]
    exact HDM.out
  · have hnrv : nr = na := by rw [HNR.out, decide_eq_true (show 0 < cr by omega), Bool.and_true]
    have hc1 : 0 < cr := by omega
    subst hnrv
    clear hc0
    by_cases hs : nr = nb
    · have hsb : (nr == nb) = true := by rw [hs]; exact beq_self_eq_true nb
      have HDM := hidden (dm_plain (na := nr) (nb := nb) (a := val la) HVB.out (.inl hs))
      clear hs
      have HB5 := hidden (show Bx4 w (((((W5.setCell ⟨w.heap.size + 1 + 1, 0, none⟩ (.bool n1)).setCell ⟨w.heap.size + 1 + 1, 1, none⟩ (.slice a1 l1.length c1)).setCell ⟨w.heap.size + 1 + 1 + 1, 0, none⟩ (.bool nr)).setCell ⟨w.heap.size + 1 + 1 + 1, 1, none⟩ (.slice ro cr rc)).drew) (.bool nr) (.slice ao n ac) (.bool nb) (.slice bo n2 bc) (.bool n1) (.slice a1 l1.length c1) (.bool nr) (.slice ro cr rc) from (HBX3.out.store (.bool n1) (.slice a1 l1.length c1) (.bool nr) (.slice ro cr rc)).drew)
      have HV15 := hidden (show NumAt (((((W5.setCell ⟨w.heap.size + 1 + 1, 0, none⟩ (.bool n1)).setCell ⟨w.heap.size + 1 + 1, 1, none⟩ (.slice a1 l1.length c1)).setCell ⟨w.heap.size + 1 + 1 + 1, 0, none⟩ (.bool nr)).setCell ⟨w.heap.size + 1 + 1 + 1, 1, none⟩ (.slice ro cr rc)).drew) (.agg #[.bool n1, .slice a1 l1.length c1]) _ _ from (numAt_two4 HBX3.out HN1c.out).drew)
      have HV25 := hidden (show NumAt (((((W5.setCell ⟨w.heap.size + 1 + 1, 0, none⟩ (.bool n1)).setCell ⟨w.heap.size + 1 + 1, 1, none⟩ (.slice a1 l1.length c1)).setCell ⟨w.heap.size + 1 + 1 + 1, 0, none⟩ (.bool nr)).setCell ⟨w.heap.size + 1 + 1 + 1, 1, none⟩ (.slice ro cr rc)).drew) (.agg #[.bool nr, .slice ro cr rc]) _ _ from (numAt_two4 HBX3.out HN2b.out).drew)
      go_wp2
      go_region
      go_wp2
      clear f0 f1 g0 g1 q0 q1 q2 q3 r0 r1 r2 r3 k0 k1 k2 k3
      generalize ((((W5.setCell ⟨w.heap.size + 1 + 1, 0, none⟩ (.bool n1)).setCell ⟨w.heap.size + 1 + 1, 1, none⟩ (.slice a1 l1.length c1)).setCell ⟨w.heap.size + 1 + 1 + 1, 0, none⟩ (.bool nr)).setCell ⟨w.heap.size + 1 + 1 + 1, 1, none⟩ (.slice ro cr rc)).drew = W6 at HB5 HV15 HV25 ⊢
      obtain ⟨f0, f1, _, _⟩ := HB5.out.q.facts
      obtain ⟨g0, g1, _, _⟩ := HB5.out.r.facts
      refine bodyPost_ret (v := .tuple #[(.agg #[.bool n1, .slice a1 l1.length c1]), (.agg #[.bool nr, .slice ro cr rc]), .bool true]) (by simp [results, Tryd.results12, go_sem, f0, f1, g0, g1]) rfl ⟨_, _, _, _, rfl, HV15.out.mono (by omega), HV25.out.mono (by omega), ?_, HB5.out.below⟩
      rw [HVQ.out, HVT.out]
      exact HDM.out
    · have hsb : (nr == nb) = false := beq_eq_false_iff_ne.2 hs
      have HDM := hidden (dm_turned (na := nr) (nb := nb) (a := val la) HVB.out hs (by rw [← HVT.out]; exact hcr1.out hc1))
      clear hs
      have HOF := hidden (fun W => of_any 1 W (by omega) (by omega))
      have HSUB := hidden (fun W one (h : NumAt W one 1 5) (hb : Below W5.heap.size W5 W) => sub_any (.agg #[.bool n1, .slice a1 l1.length c1]) one _ 1 lq 5 W (HN1c.out.below hb) h (by omega) (by omega))
      go_upto_region 7 with fail
      refine wp_region_held_drew (S := fun _ => True) (by kernel_rfl) trivial (fun hH0 => ?_)
      refine wpAnyH_ready (rs := [0, 1]) (by kernel_rfl) (by simp) ?_
      refine AllReadyH.cons rfl (fun K hK => ?_) (AllReadyH.cons rfl (fun K hK => ?_) AllReadyH.nil)
      · obtain ⟨g0, g1, _, _⟩ := (show Blk W5.drew i9 _ _ from HK9b.out).facts
        go_simp
        clear g0 g1
        refine hK.out _ _ trivial (fun hH1 => ?_)
        clear hK K
        try simp only [Act.put, List.setIfInBounds_toArray, List.set_cons_zero, List.set_cons_succ]
        refine wpAnyH_ready (rs := [1]) (by kernel_rfl) (by simp) ?_
        refine AllReadyH.cons rfl (fun K hK => ?_) AllReadyH.nil
        go_simp
        refine (HOF.out _).mono ?_
        rintro e w6 ⟨vo, rfl, hvo, hb6⟩
        have HB6 := hidden (show Below W5.heap.size W5 w6 from (Below.refl _ _).drew.trans hb6)
        have HVO := hidden hvo
        clear hb6 hvo
        refine hK.out _ _ trivial (fun hH2 => ?_)
        clear hK K
        try simp only [Act.put, List.setIfInBounds_toArray, List.set_cons_zero, List.set_cons_succ]
        refine wpAnyH_ready (rs := [2]) (by kernel_rfl) (by simp) ?_
        refine AllReadyH.cons rfl (fun K hK => ?_) AllReadyH.nil
        go_simp
        refine (HSUB.out _ vo HVO.out HB6.out).mono ?_
        rintro e w7 ⟨vs, rfl, hvs, hb7⟩
        have HB7 := hidden (HB6.out.trans (hb7.mono HB6.out.size))
        have HVS := hidden hvs
        obtain ⟨n4, a4, c4, l4, rfl, _⟩ := hvs
        clear hb7
        refine hK.out _ _ trivial (fun hH3 => ?_)
        clear hK K
        try simp only [Act.put, List.setIfInBounds_toArray, List.set_cons_zero, List.set_cons_succ]
        refine wpAnyH_ready (rs := [3]) (by kernel_rfl) (by simp) ?_
        refine AllReadyH.cons rfl (fun K hK => ?_) AllReadyH.nil
        have HK97 := hidden (HK9b.out.below HB7.out HK9b.out.lt)
        obtain ⟨g0, g1, g2, g3⟩ := HK97.out.facts
        go_simp
        clear g0 g1 g2 g3
        refine hK.out _ _ trivial (fun hH4 => ?_)
        clear hK K
        try simp only [Act.put, List.setIfInBounds_toArray, List.set_cons_zero, List.set_cons_succ]
        have HKT7 := hidden (HK10.out.below HB7.out HK10.out.lt)
        have HBX7 := hidden (HBX3.out.more HB7.out (by omega))
        have HN27 := hidden (HN2b.out.below HB7.out)
        have HNB7 := hidden (HNB5.out.below HB7.out)
        have hw7 : W5.heap.size ≤ w7.heap.size := HB7.out.size
        have HV8 := hidden (show NumAt ((w7.setCell ⟨i9, 0, none⟩ (.bool n4)).setCell ⟨i9, 1, none⟩ (.slice a4 l4.length c4)) (.agg #[.bool n4, .slice a4 l4.length c4]) (sgnv (!(nr == nb)) (val Q) - 1) (max lq 5 + 1) from HVS.out.turn HK97.out (((Turn.refl i9 w7).setCell 0 (.bool n4)).setCell 1 (.slice a4 l4.length c4)))
        have HN28 := hidden (show NumAt ((w7.setCell ⟨i9, 0, none⟩ (.bool n4)).setCell ⟨i9, 1, none⟩ (.slice a4 l4.length c4)) (.agg #[.bool nr, .slice ro cr rc]) (sgnv nr (val T)) lt from HN27.out.turn HK97.out (((Turn.refl i9 w7).setCell 0 (.bool n4)).setCell 1 (.slice a4 l4.length c4)))
        have HNB8 := hidden (show NumAt ((w7.setCell ⟨i9, 0, none⟩ (.bool n4)).setCell ⟨i9, 1, none⟩ (.slice a4 l4.length c4)) (.agg #[.bool nb, .slice bo n2 bc]) (sgnv nb (val lb)) m from HNB7.out.turn HK97.out (((Turn.refl i9 w7).setCell 0 (.bool n4)).setCell 1 (.slice a4 l4.length c4)))
        have HK98 := hidden (show Blk ((w7.setCell ⟨i9, 0, none⟩ (.bool n4)).setCell ⟨i9, 1, none⟩ (.slice a4 l4.length c4)) i9 (.bool n4) (.slice a4 l4.length c4) from HK97.out.set _ _)
        have HKT8 := hidden (show Blk ((w7.setCell ⟨i9, 0, none⟩ (.bool n4)).setCell ⟨i9, 1, none⟩ (.slice a4 l4.length c4)) iT (.bool nr) (.slice ro cr rc) from (heap_setCell_other _ _ _ _ (by simp; omega)).trans ((heap_setCell_other _ _ _ _ (by simp; omega)).trans HKT7.out))
        have hb8 : Below W0.heap.size w7 ((w7.setCell ⟨i9, 0, none⟩ (.bool n4)).setCell ⟨i9, 1, none⟩ (.slice a4 l4.length c4)) := ((Below.refl W0.heap.size w7).setCell (p := ⟨i9, 0, none⟩) (show W0.heap.size ≤ i9 by omega) (.bool n4)).setCell (p := ⟨i9, 1, none⟩) (show W0.heap.size ≤ i9 by omega) (.slice a4 l4.length c4)
        have HBX8 := hidden (HBX7.out.more hb8 (by omega))
        have hw8 : w7.heap.size ≤ (((w7.setCell ⟨i9, 0, none⟩ (.bool n4)).setCell ⟨i9, 1, none⟩ (.slice a4 l4.length c4))).heap.size := hb8.size
        clear hb8 HB6 HB7 HVO HVS HK97 HKT7 HBX7 HN27 HNB7 HOF HSUB f0 f1 g0 g1 q0 q1 q2 q3 r0 r1 r2 r3 k0 k1 k2 k3
        refine wpAnyH_done (by kernel_rfl) ?_ _
        generalize ((w7.setCell ⟨i9, 0, none⟩ (.bool n4)).setCell ⟨i9, 1, none⟩ (.slice a4 l4.length c4)) = W8 at HV8 HN28 HNB8 HK98 HKT8 HBX8 hw8 ⊢
        obtain ⟨k0, k1, k2, k3, _, _⟩ := HBX8.out.cells W8 (Below.refl _ _)
        obtain ⟨f0, f1, f2, f3⟩ := HKT8.out.facts
        go_wp2_with fail
        refine (add_any (.agg #[.bool nr, .slice ro cr rc]) (.agg #[.bool nb, .slice bo n2 bc]) _ _ lt m W8 HN28.out HNB8.out (by omega) (by omega)).mono ?_
        rintro e w9 ⟨va, rfl, hva, hb9⟩
        have HVA := hidden hva
        obtain ⟨n5, a5, c5, l5, rfl, _⟩ := hva
        have HKT9 := hidden (HKT8.out.below hb9 HKT8.out.lt)
        have HK99 := hidden (HK98.out.below hb9 HK98.out.lt)
        have HV9 := hidden (HV8.out.below hb9)
        have HBX9 := hidden (HBX8.out.more hb9 (by omega))
        clear k0 k1 k2 k3 f0 f1 f2 f3
        obtain ⟨f0, f1, f2, f3⟩ := HKT9.out.facts
        go_upto_region 9 with fail
        have hw9 : W8.heap.size ≤ w9.heap.size := hb9.size
        have HVA2 := hidden (show NumAt ((w9.setCell ⟨iT, 0, none⟩ (.bool n5)).setCell ⟨iT, 1, none⟩ (.slice a5 l5.length c5)) (.agg #[.bool n5, .slice a5 l5.length c5]) (sgnv nr (val T) + sgnv nb (val lb)) (max lt m + 1) from HVA.out.turn HKT9.out (((Turn.refl iT w9).setCell 0 (.bool n5)).setCell 1 (.slice a5 l5.length c5)))
        have HV10 := hidden (show NumAt ((w9.setCell ⟨iT, 0, none⟩ (.bool n5)).setCell ⟨iT, 1, none⟩ (.slice a5 l5.length c5)) (.agg #[.bool n4, .slice a4 l4.length c4]) (sgnv (!(nr == nb)) (val Q) - 1) (max lq 5 + 1) from HV9.out.turn HKT9.out (((Turn.refl iT w9).setCell 0 (.bool n5)).setCell 1 (.slice a5 l5.length c5)))
        have HKT10 := hidden (show Blk ((w9.setCell ⟨iT, 0, none⟩ (.bool n5)).setCell ⟨iT, 1, none⟩ (.slice a5 l5.length c5)) iT (.bool n5) (.slice a5 l5.length c5) from HKT9.out.set _ _)
        have HK910 := hidden (show Blk ((w9.setCell ⟨iT, 0, none⟩ (.bool n5)).setCell ⟨iT, 1, none⟩ (.slice a5 l5.length c5)) i9 (.bool n4) (.slice a4 l4.length c4) from (heap_setCell_other _ _ _ _ (by simp; omega)).trans ((heap_setCell_other _ _ _ _ (by simp; omega)).trans HK99.out))
        have hb10 : Below W0.heap.size w9 ((w9.setCell ⟨iT, 0, none⟩ (.bool n5)).setCell ⟨iT, 1, none⟩ (.slice a5 l5.length c5)) := ((Below.refl W0.heap.size w9).setCell (p := ⟨iT, 0, none⟩) (show W0.heap.size ≤ iT by omega) (.bool n5)).setCell (p := ⟨iT, 1, none⟩) (show W0.heap.size ≤ iT by omega) (.slice a5 l5.length c5)
        have HBX10 := hidden (HBX9.out.more hb10 (by omega))
        clear hb10 hb9 HVA HV9 HKT9 HK99 HBX9 f0 f1 f2 f3
        generalize ((w9.setCell ⟨iT, 0, none⟩ (.bool n5)).setCell ⟨iT, 1, none⟩ (.slice a5 l5.length c5)) = W10 at HVA2 HV10 HKT10 HK910 HBX10 ⊢
        obtain ⟨f0, f1, _, _⟩ := HKT10.out.facts
        obtain ⟨g0, g1, _, _⟩ := HK910.out.facts
        obtain ⟨q0, q1, q2, q3⟩ := HBX10.out.q.facts
        obtain ⟨r0, r1, r2, r3⟩ := HBX10.out.r.facts
        have HB5 := hidden (show Bx4 w (((((W10.setCell ⟨w.heap.size + 1 + 1, 0, none⟩ (.bool n4)).setCell ⟨w.heap.size + 1 + 1, 1, none⟩ (.slice a4 l4.length c4)).setCell ⟨w.heap.size + 1 + 1 + 1, 0, none⟩ (.bool n5)).setCell ⟨w.heap.size + 1 + 1 + 1, 1, none⟩ (.slice a5 l5.length c5)).drew) (.bool nr) (.slice ao n ac) (.bool nb) (.slice bo n2 bc) (.bool n4) (.slice a4 l4.length c4) (.bool n5) (.slice a5 l5.length c5) from (HBX10.out.store (.bool n4) (.slice a4 l4.length c4) (.bool n5) (.slice a5 l5.length c5)).drew)
        have HV15 := hidden (show NumAt (((((W10.setCell ⟨w.heap.size + 1 + 1, 0, none⟩ (.bool n4)).setCell ⟨w.heap.size + 1 + 1, 1, none⟩ (.slice a4 l4.length c4)).setCell ⟨w.heap.size + 1 + 1 + 1, 0, none⟩ (.bool n5)).setCell ⟨w.heap.size + 1 + 1 + 1, 1, none⟩ (.slice a5 l5.length c5)).drew) (.agg #[.bool n4, .slice a4 l4.length c4]) _ _ from (numAt_two4 HBX10.out HV10.out).drew)
        have HV25 := hidden (show NumAt (((((W10.setCell ⟨w.heap.size + 1 + 1, 0, none⟩ (.bool n4)).setCell ⟨w.heap.size + 1 + 1, 1, none⟩ (.slice a4 l4.length c4)).setCell ⟨w.heap.size + 1 + 1 + 1, 0, none⟩ (.bool n5)).setCell ⟨w.heap.size + 1 + 1 + 1, 1, none⟩ (.slice a5 l5.length c5)).drew) (.agg #[.bool n5, .slice a5 l5.length c5]) _ _ from (numAt_two4 HBX10.out HVA2.out).drew)
        go_wp2
        go_region
        go_wp2
        clear f0 f1 g0 g1 q0 q1 q2 q3 r0 r1 r2 r3
        generalize ((((W10.setCell ⟨w.heap.size + 1 + 1, 0, none⟩ (.bool n4)).setCell ⟨w.heap.size + 1 + 1, 1, none⟩ (.slice a4 l4.length c4)).setCell ⟨w.heap.size + 1 + 1 + 1, 0, none⟩ (.bool n5)).setCell ⟨w.heap.size + 1 + 1 + 1, 1, none⟩ (.slice a5 l5.length c5)).drew = W6 at HB5 HV15 HV25 ⊢
        obtain ⟨f0, f1, _, _⟩ := HB5.out.q.facts
        obtain ⟨g0, g1, _, _⟩ := HB5.out.r.facts
        refine bodyPost_ret (v := .tuple #[(.agg #[.bool n4, .slice a4 l4.length c4]), (.agg #[.bool n5, .slice a5 l5.length c5]), .bool true]) (by simp [results, Tryd.results12, go_sem, f0, f1, g0, g1]) rfl ⟨_, _, _, _, rfl, HV15.out.mono (by omega), HV25.out.mono (by omega), ?_, HB5.out.below⟩
        rw [HVQ.out, HVT.out]
        exact HDM.out
      · go_simp
        refine (HOF.out _).mono ?_
        rintro e w6 ⟨vo, rfl, hvo, hb6⟩
        have HB6 := hidden (show Below W5.heap.size W5 w6 from (Below.refl _ _).drew.trans hb6)
        have HVO := hidden hvo
        clear hb6 hvo
        refine hK.out _ _ trivial (fun hH1 => ?_)
        clear hK K
        try simp only [Act.put, List.setIfInBounds_toArray, List.set_cons_zero, List.set_cons_succ]
        refine wpAnyH_ready (rs := [0]) (by kernel_rfl) (by simp) ?_
        refine AllReadyH.cons rfl (fun K hK => ?_) AllReadyH.nil
        obtain ⟨g0, g1, _, _⟩ := (HK9b.out.below HB6.out HK9b.out.lt).facts
        go_simp
        clear g0 g1
        refine hK.out _ _ trivial (fun hH2 => ?_)
        clear hK K
        try simp only [Act.put, List.setIfInBounds_toArray, List.set_cons_zero, List.set_cons_succ]
        refine wpAnyH_ready (rs := [2]) (by kernel_rfl) (by simp) ?_
        refine AllReadyH.cons rfl (fun K hK => ?_) AllReadyH.nil
        go_simp
        refine (HSUB.out _ vo HVO.out HB6.out).mono ?_
        rintro e w7 ⟨vs, rfl, hvs, hb7⟩
        have HB7 := hidden (HB6.out.trans (hb7.mono HB6.out.size))
        have HVS := hidden hvs
        obtain ⟨n4, a4, c4, l4, rfl, _⟩ := hvs
        clear hb7
        refine hK.out _ _ trivial (fun hH3 => ?_)
        clear hK K
        try simp only [Act.put, List.setIfInBounds_toArray, List.set_cons_zero, List.set_cons_succ]
        refine wpAnyH_ready (rs := [3]) (by kernel_rfl) (by simp) ?_
        refine AllReadyH.cons rfl (fun K hK => ?_) AllReadyH.nil
        have HK97 := hidden (HK9b.out.below HB7.out HK9b.out.lt)
        obtain ⟨g0, g1, g2, g3⟩ := HK97.out.facts
        go_simp
        clear g0 g1 g2 g3
        refine hK.out _ _ trivial (fun hH4 => ?_)
        clear hK K
        try simp only [Act.put, List.setIfInBounds_toArray, List.set_cons_zero, List.set_cons_succ]
        have HKT7 := hidden (HK10.out.below HB7.out HK10.out.lt)
        have HBX7 := hidden (HBX3.out.more HB7.out (by omega))
        have HN27 := hidden (HN2b.out.below HB7.out)
        have HNB7 := hidden (HNB5.out.below HB7.out)
        have hw7 : W5.heap.size ≤ w7.heap.size := HB7.out.size
        have HV8 := hidden (show NumAt ((w7.setCell ⟨i9, 0, none⟩ (.bool n4)).setCell ⟨i9, 1, none⟩ (.slice a4 l4.length c4)) (.agg #[.bool n4, .slice a4 l4.length c4]) (sgnv (!(nr == nb)) (val Q) - 1) (max lq 5 + 1) from HVS.out.turn HK97.out (((Turn.refl i9 w7).setCell 0 (.bool n4)).setCell 1 (.slice a4 l4.length c4)))
        have HN28 := hidden (show NumAt ((w7.setCell ⟨i9, 0, none⟩ (.bool n4)).setCell ⟨i9, 1, none⟩ (.slice a4 l4.length c4)) (.agg #[.bool nr, .slice ro cr rc]) (sgnv nr (val T)) lt from HN27.out.turn HK97.out (((Turn.refl i9 w7).setCell 0 (.bool n4)).setCell 1 (.slice a4 l4.length c4)))
        have HNB8 := hidden (show NumAt ((w7.setCell ⟨i9, 0, none⟩ (.bool n4)).setCell ⟨i9, 1, none⟩ (.slice a4 l4.length c4)) (.agg #[.bool nb, .slice bo n2 bc]) (sgnv nb (val lb)) m from HNB7.out.turn HK97.out (((Turn.refl i9 w7).setCell 0 (.bool n4)).setCell 1 (.slice a4 l4.length c4)))
        have HK98 := hidden (show Blk ((w7.setCell ⟨i9, 0, none⟩ (.bool n4)).setCell ⟨i9, 1, none⟩ (.slice a4 l4.length c4)) i9 (.bool n4) (.slice a4 l4.length c4) from HK97.out.set _ _)
        have HKT8 := hidden (show Blk ((w7.setCell ⟨i9, 0, none⟩ (.bool n4)).setCell ⟨i9, 1, none⟩ (.slice a4 l4.length c4)) iT (.bool nr) (.slice ro cr rc) from (heap_setCell_other _ _ _ _ (by simp; omega)).trans ((heap_setCell_other _ _ _ _ (by simp; omega)).trans HKT7.out))
        have hb8 : Below W0.heap.size w7 ((w7.setCell ⟨i9, 0, none⟩ (.bool n4)).setCell ⟨i9, 1, none⟩ (.slice a4 l4.length c4)) := ((Below.refl W0.heap.size w7).setCell (p := ⟨i9, 0, none⟩) (show W0.heap.size ≤ i9 by omega) (.bool n4)).setCell (p := ⟨i9, 1, none⟩) (show W0.heap.size ≤ i9 by omega) (.slice a4 l4.length c4)
        have HBX8 := hidden (HBX7.out.more hb8 (by omega))
        have hw8 : w7.heap.size ≤ (((w7.setCell ⟨i9, 0, none⟩ (.bool n4)).setCell ⟨i9, 1, none⟩ (.slice a4 l4.length c4))).heap.size := hb8.size
        clear hb8 HB6 HB7 HVO HVS HK97 HKT7 HBX7 HN27 HNB7 HOF HSUB f0 f1 g0 g1 q0 q1 q2 q3 r0 r1 r2 r3 k0 k1 k2 k3
        refine wpAnyH_done (by kernel_rfl) ?_ _
        generalize ((w7.setCell ⟨i9, 0, none⟩ (.bool n4)).setCell ⟨i9, 1, none⟩ (.slice a4 l4.length c4)) = W8 at HV8 HN28 HNB8 HK98 HKT8 HBX8 hw8 ⊢
        obtain ⟨k0, k1, k2, k3, _, _⟩ := HBX8.out.cells W8 (Below.refl _ _)
        obtain ⟨f0, f1, f2, f3⟩ := HKT8.out.facts
        go_wp2_with fail
        refine (add_any (.agg #[.bool nr, .slice ro cr rc]) (.agg #[.bool nb, .slice bo n2 bc]) _ _ lt m W8 HN28.out HNB8.out (by omega) (by omega)).mono ?_
        rintro e w9 ⟨va, rfl, hva, hb9⟩
        have HVA := hidden hva
        obtain ⟨n5, a5, c5, l5, rfl, _⟩ := hva
        have HKT9 := hidden (HKT8.out.below hb9 HKT8.out.lt)
        have HK99 := hidden (HK98.out.below hb9 HK98.out.lt)
        have HV9 := hidden (HV8.out.below hb9)
        have HBX9 := hidden (HBX8.out.more hb9 (by omega))
        clear k0 k1 k2 k3 f0 f1 f2 f3
        obtain ⟨f0, f1, f2, f3⟩ := HKT9.out.facts
        go_upto_region 9 with fail
        have hw9 : W8.heap.size ≤ w9.heap.size := hb9.size
        have HVA2 := hidden (show NumAt ((w9.setCell ⟨iT, 0, none⟩ (.bool n5)).setCell ⟨iT, 1, none⟩ (.slice a5 l5.length c5)) (.agg #[.bool n5, .slice a5 l5.length c5]) (sgnv nr (val T) + sgnv nb (val lb)) (max lt m + 1) from HVA.out.turn HKT9.out (((Turn.refl iT w9).setCell 0 (.bool n5)).setCell 1 (.slice a5 l5.length c5)))
        have HV10 := hidden (show NumAt ((w9.setCell ⟨iT, 0, none⟩ (.bool n5)).setCell ⟨iT, 1, none⟩ (.slice a5 l5.length c5)) (.agg #[.bool n4, .slice a4 l4.length c4]) (sgnv (!(nr == nb)) (val Q) - 1) (max lq 5 + 1) from HV9.out.turn HKT9.out (((Turn.refl iT w9).setCell 0 (.bool n5)).setCell 1 (.slice a5 l5.length c5)))
        have HKT10 := hidden (show Blk ((w9.setCell ⟨iT, 0, none⟩ (.bool n5)).setCell ⟨iT, 1, none⟩ (.slice a5 l5.length c5)) iT (.bool n5) (.slice a5 l5.length c5) from HKT9.out.set _ _)
        have HK910 := hidden (show Blk ((w9.setCell ⟨iT, 0, none⟩ (.bool n5)).setCell ⟨iT, 1, none⟩ (.slice a5 l5.length c5)) i9 (.bool n4) (.slice a4 l4.length c4) from (heap_setCell_other _ _ _ _ (by simp; omega)).trans ((heap_setCell_other _ _ _ _ (by simp; omega)).trans HK99.out))
        have hb10 : Below W0.heap.size w9 ((w9.setCell ⟨iT, 0, none⟩ (.bool n5)).setCell ⟨iT, 1, none⟩ (.slice a5 l5.length c5)) := ((Below.refl W0.heap.size w9).setCell (p := ⟨iT, 0, none⟩) (show W0.heap.size ≤ iT by omega) (.bool n5)).setCell (p := ⟨iT, 1, none⟩) (show W0.heap.size ≤ iT by omega) (.slice a5 l5.length c5)
        have HBX10 := hidden (HBX9.out.more hb10 (by omega))
        clear hb10 hb9 HVA HV9 HKT9 HK99 HBX9 f0 f1 f2 f3
        generalize ((w9.setCell ⟨iT, 0, none⟩ (.bool n5)).setCell ⟨iT, 1, none⟩ (.slice a5 l5.length c5)) = W10 at HVA2 HV10 HKT10 HK910 HBX10 ⊢
        obtain ⟨f0, f1, _, _⟩ := HKT10.out.facts
        obtain ⟨g0, g1, _, _⟩ := HK910.out.facts
        obtain ⟨q0, q1, q2, q3⟩ := HBX10.out.q.facts
        obtain ⟨r0, r1, r2, r3⟩ := HBX10.out.r.facts
        have HB5 := hidden (show Bx4 w (((((W10.setCell ⟨w.heap.size + 1 + 1, 0, none⟩ (.bool n4)).setCell ⟨w.heap.size + 1 + 1, 1, none⟩ (.slice a4 l4.length c4)).setCell ⟨w.heap.size + 1 + 1 + 1, 0, none⟩ (.bool n5)).setCell ⟨w.heap.size + 1 + 1 + 1, 1, none⟩ (.slice a5 l5.length c5)).drew) (.bool nr) (.slice ao n ac) (.bool nb) (.slice bo n2 bc) (.bool n4) (.slice a4 l4.length c4) (.bool n5) (.slice a5 l5.length c5) from (HBX10.out.store (.bool n4) (.slice a4 l4.length c4) (.bool n5) (.slice a5 l5.length c5)).drew)
        have HV15 := hidden (show NumAt (((((W10.setCell ⟨w.heap.size + 1 + 1, 0, none⟩ (.bool n4)).setCell ⟨w.heap.size + 1 + 1, 1, none⟩ (.slice a4 l4.length c4)).setCell ⟨w.heap.size + 1 + 1 + 1, 0, none⟩ (.bool n5)).setCell ⟨w.heap.size + 1 + 1 + 1, 1, none⟩ (.slice a5 l5.length c5)).drew) (.agg #[.bool n4, .slice a4 l4.length c4]) _ _ from (numAt_two4 HBX10.out HV10.out).drew)
        have HV25 := hidden (show NumAt (((((W10.setCell ⟨w.heap.size + 1 + 1, 0, none⟩ (.bool n4)).setCell ⟨w.heap.size + 1 + 1, 1, none⟩ (.slice a4 l4.length c4)).setCell ⟨w.heap.size + 1 + 1 + 1, 0, none⟩ (.bool n5)).setCell ⟨w.heap.size + 1 + 1 + 1, 1, none⟩ (.slice a5 l5.length c5)).drew) (.agg #[.bool n5, .slice a5 l5.length c5]) _ _ from (numAt_two4 HBX10.out HVA2.out).drew)
        go_wp2
        go_region
        go_wp2
        clear f0 f1 g0 g1 q0 q1 q2 q3 r0 r1 r2 r3
        generalize ((((W10.setCell ⟨w.heap.size + 1 + 1, 0, none⟩ (.bool n4)).setCell ⟨w.heap.size + 1 + 1, 1, none⟩ (.slice a4 l4.length c4)).setCell ⟨w.heap.size + 1 + 1 + 1, 0, none⟩ (.bool n5)).setCell ⟨w.heap.size + 1 + 1 + 1, 1, none⟩ (.slice a5 l5.length c5)).drew = W6 at HB5 HV15 HV25 ⊢
        obtain ⟨f0, f1, _, _⟩ := HB5.out.q.facts
        obtain ⟨g0, g1, _, _⟩ := HB5.out.r.facts
        refine bodyPost_ret (v := .tuple #[(.agg #[.bool n4, .slice a4 l4.length c4]), (.agg #[.bool n5, .slice a5 l5.length c5]), .bool true]) (by simp [results, Tryd.results12, go_sem, f0, f1, g0, g1]) rfl ⟨_, _, _, _, rfl, HV15.out.mono (by omega), HV25.out.mono (by omega), ?_, HB5.out.below⟩
        rw [HVQ.out, HVT.out]
        exact HDM.out
end Rv
end Go.Proofs.YtapdkibiegeijaaDoor
