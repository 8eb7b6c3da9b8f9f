/- Num's divide, Div, Mod. Conditions: as each states. -/
import Derived.Test.YtapdkibiegeijaaDoorNumG
import Derived.Deep.RegionWith
namespace Go.Proofs.YtapdkibiegeijaaDoor
open Go.RowKit
namespace Nm

/-- Quotient and rest: the rest has the sign of what is divided by, and is less. -/
def DM (x y q r : Int) : Prop := x = q * y + r ∧ (0 ≤ r ∧ r < y ∨ y < r ∧ r ≤ 0)
theorem dm_plain {na nb : Bool} {a b : Nat} (hb : 0 < b) (h : na = nb ∨ a % b = 0) : DM (sgnv na a) (sgnv nb b) (sgnv (!(na == nb)) (a / b)) (sgnv nb (a % b)) := by
  have e := Nat.div_add_mod a b
  have hm := Nat.mod_lt a hb
  generalize a / b = q at *
  generalize a % b = r at *
  obtain rfl := e
  unfold DM
  cases na <;> cases nb <;> simp [sgnv] at * <;> first | (subst h; refine ⟨by grind, by omega⟩) | (refine ⟨by grind, by omega⟩)
theorem dm_turned {na nb : Bool} {a b : Nat} (hb : 0 < b) (hne : na ≠ nb) (hr : a % b ≠ 0) : DM (sgnv na a) (sgnv nb b) (sgnv (!(na == nb)) (a / b) - 1) (sgnv nb b - sgnv nb (a % b)) := by
  have e := Nat.div_add_mod a b
  have hm := Nat.mod_lt a hb
  generalize a / b = q at *
  generalize a % b = r at *
  obtain rfl := e
  unfold DM
  cases na <;> cases nb <;> simp [sgnv] at * <;> exact ⟨by grind, by omega⟩
theorem dm_unique {x y q r q' r' : Int} (h : DM x y q r) (h' : DM x y q' r') : q = q' ∧ r = r' := by
  obtain ⟨h1, h2⟩ := h
  obtain ⟨h3, h4⟩ := h'
  have e : (q - q') * y = r' - r := by rw [Int.sub_mul]; omega
  have hq : q = q' := by
    by_cases hlt : q < q'
    · exfalso
      rcases h2 with ⟨a1, a2⟩ | ⟨a1, a2⟩ <;> rcases h4 with ⟨b1, b2⟩ | ⟨b1, b2⟩ <;> try omega
      · have := Int.mul_le_mul_of_nonneg_right (show q - q' ≤ -1 by omega) (show 0 ≤ y by omega)
        omega
      · have := Int.mul_le_mul_of_nonpos_right (show q - q' ≤ -1 by omega) (show y ≤ 0 by omega)
        omega
    · by_cases hgt : q' < q
      · exfalso
        rcases h2 with ⟨a1, a2⟩ | ⟨a1, a2⟩ <;> rcases h4 with ⟨b1, b2⟩ | ⟨b1, b2⟩ <;> try omega
        · have := Int.mul_le_mul_of_nonneg_right (show 1 ≤ q - q' by omega) (show 0 ≤ y by omega)
          omega
        · have := Int.mul_le_mul_of_nonpos_right (show 1 ≤ q - q' by omega) (show y ≤ 0 by omega)
          omega
      · omega
  subst hq
  exact ⟨rfl, by omega⟩

/-- The boxes of divide. -/
structure Bx4 (w W : World) (c0 c1 d0 d1 q0 q1 r0 r1 : Value) : Prop where
  a : Blk W w.heap.size c0 c1
  b : Blk W (w.heap.size + 1) d0 d1
  q : Blk W (w.heap.size + 2) q0 q1
  r : Blk W (w.heap.size + 3) r0 r1
  size : w.heap.size + 4 ≤ W.heap.size
  below : Below w.heap.size w W
theorem bx4_new (w : World) (c0 c1 d0 d1 : Value) : Bx4 w ((((w.alloc (.cells #[c0, c1] 25)).alloc (.cells #[d0, d1] 25)).alloc (.cells #[.bool false, .slice none 0 0] 25)).alloc (.cells #[.bool false, .slice none 0 0] 25)) c0 c1 d0 d1 (.bool false) (.slice none 0 0) (.bool false) (.slice none 0 0) := by
  have h := boxes_new w c0 c1 d0 d1
  have hb := (Below.refl _ (((w.alloc (.cells #[c0, c1] 25)).alloc (.cells #[d0, d1] 25)).alloc (.cells #[.bool false, .slice none 0 0] 25))).alloc (Nat.le_refl _) (.cells #[.bool false, .slice none 0 0] 25)
  have h2 := h.more hb
  refine ⟨h2.a, h2.b, h2.r, ?_, by simp, h2.below⟩
  have := blk_new (((w.alloc (.cells #[c0, c1] 25)).alloc (.cells #[d0, d1] 25)).alloc (.cells #[.bool false, .slice none 0 0] 25)) (.bool false) (.slice none 0 0)
  rwa [World.size_alloc, World.size_alloc, World.size_alloc] at this
theorem Bx4.more {w W W' : World} {c0 c1 d0 d1 q0 q1 r0 r1 : Value} (h : Bx4 w W c0 c1 d0 d1 q0 q1 r0 r1) {B : Nat} (hb : Below B W W') (hB : w.heap.size + 4 ≤ B) : Bx4 w W' c0 c1 d0 d1 q0 q1 r0 r1 where
  a := h.a.below hb (by omega)
  b := h.b.below hb (by omega)
  q := h.q.below hb (by omega)
  r := h.r.below hb (by omega)
  size := Nat.le_trans h.size hb.size
  below := h.below.trans (hb.mono (by omega))
theorem Bx4.cells {w W : World} {c0 c1 d0 d1 q0 q1 r0 r1 : Value} (h : Bx4 w W c0 c1 d0 d1 q0 q1 r0 r1) (W' : World) (hb : Below (w.heap.size + 2) W W') : W'.cell? ⟨w.heap.size, 0, none⟩ = some c0 ∧ W'.cell? ⟨w.heap.size, 1, none⟩ = some c1 ∧
    W'.cell? ⟨w.heap.size + 1, 0, none⟩ = some d0 ∧ W'.cell? ⟨w.heap.size + 1, 1, none⟩ = some d1 ∧ True ∧ True :=
  ⟨(h.a.below hb (by omega)).facts.1, (h.a.below hb (by omega)).facts.2.1, (h.b.below hb (by omega)).facts.1, (h.b.below hb (by omega)).facts.2.1, trivial, trivial⟩
/-- Both results stored. -/
def two4 (w W : World) (x0 x1 y0 y1 : Value) : World := (((W.setCell ⟨w.heap.size + 2, 0, none⟩ x0).setCell ⟨w.heap.size + 2, 1, none⟩ x1).setCell ⟨w.heap.size + 3, 0, none⟩ y0).setCell ⟨w.heap.size + 3, 1, none⟩ y1
theorem Bx4.store {w W : World} {c0 c1 d0 d1 q0 q1 r0 r1 : Value} (h : Bx4 w W c0 c1 d0 d1 q0 q1 r0 r1) (x0 x1 y0 y1 : Value) : Bx4 w (two4 w W x0 x1 y0 y1) c0 c1 d0 d1 x0 x1 y0 y1 where
  a := (heap_setCell_other _ _ _ _ (by simp)).trans ((heap_setCell_other _ _ _ _ (by simp)).trans ((heap_setCell_other _ _ _ _ (by simp)).trans ((heap_setCell_other _ _ _ _ (by simp)).trans h.a)))
  b := (heap_setCell_other _ _ _ _ (by simp)).trans ((heap_setCell_other _ _ _ _ (by simp)).trans ((heap_setCell_other _ _ _ _ (by simp)).trans ((heap_setCell_other _ _ _ _ (by simp)).trans h.b)))
  q := (heap_setCell_other _ _ _ _ (by simp)).trans ((heap_setCell_other _ _ _ _ (by simp)).trans (h.q.set x0 x1))
  r := by
    have e : Blk ((W.setCell ⟨w.heap.size + 2, 0, none⟩ x0).setCell ⟨w.heap.size + 2, 1, none⟩ x1) (w.heap.size + 3) r0 r1 := (heap_setCell_other _ _ _ _ (by simp)).trans ((heap_setCell_other _ _ _ _ (by simp)).trans h.r)
    exact e.set y0 y1
  size := by unfold two4; simp only [World.size_setCell]; exact h.size
  below := (((h.below.setCell (show w.heap.size ≤ w.heap.size + 2 by omega) _).setCell (show w.heap.size ≤ w.heap.size + 2 by omega) _).setCell (show w.heap.size ≤ w.heap.size + 3 by omega) _).setCell (show w.heap.size ≤ w.heap.size + 3 by omega) _
theorem Bx4.drew {w W : World} {c0 c1 d0 d1 q0 q1 r0 r1 : Value} (h : Bx4 w W c0 c1 d0 d1 q0 q1 r0 r1) : Bx4 w W.drew c0 c1 d0 d1 q0 q1 r0 r1 := ⟨h.a, h.b, h.q, h.r, h.size, h.below.drew⟩
theorem NumAt.drew {W : World} {v : Value} {z : Int} {k : Nat} (h : NumAt W v z k) : NumAt W.drew v z k := h.below (Below.refl _ _).drew
theorem numAt_two4 {w W : World} {c0 c1 d0 d1 x0 x1 y0 y1 v : Value} {b0 b1 : Bool} {p p' : Option Addr} {s t s' t' : Nat} {z : Int} {k : Nat} (h : Bx4 w W c0 c1 d0 d1 (.bool b0) (.slice p s t) (.bool b1) (.slice p' s' t')) (hv : NumAt W v z k) : NumAt (two4 w W x0 x1 y0 y1) v z k := by
  have h1 := hv.turn h.q (((Turn.refl _ W).setCell 0 x0).setCell 1 x1)
  have e : Blk ((W.setCell ⟨w.heap.size + 2, 0, none⟩ x0).setCell ⟨w.heap.size + 2, 1, none⟩ x1) (w.heap.size + 3) (.bool b1) (.slice p' s' t') := (heap_setCell_other _ _ _ _ (by simp)).trans ((heap_setCell_other _ _ _ _ (by simp)).trans h.r)
  exact h1.turn e (((Turn.refl _ _).setCell 0 y0).setCell 1 y1)
theorem turn_below {g B : Nat} {w w' : World} (h : Turn g w w') (hB : B ≤ g) (hw : B ≤ w.heap.size) : Below B w w' := ⟨h.os, h.tape, h.output, h.size, fun k hk => h.block k (by omega) (by omega)⟩
/-- What divide answers. -/
def Divided (w w' : World) (e : Ending) (x y : Int) (k m : Nat) : Prop := ∃ (v1 v2 : Value) (q r : Int), e = .returned (.tuple #[v1, v2, .bool true]) ∧ NumAt w' v1 q k ∧ NumAt w' v2 r m ∧ DM x y q r ∧ Below w.heap.size w w'
set_option maxHeartbeats 3200000 in
theorem divide_zero (a b : Value) (x : Int) (k m : Nat) (w : World) (ha : NumAt w a x k) (hb : NumAt w b 0 m) :
    Calls Tryd.prog 41 #[a, b] w fun e w' => e = .returned (.tuple #[.agg #[.bool false, .slice none 0 0], .agg #[.bool false, .slice none 0 0], .bool false]) ∧ Below w.heap.size w w' := by
  obtain ⟨na, ao, ac, la, rfl, hac, hsa, hda, hta, hla, hpa, rfl⟩ := ha
  obtain ⟨nb, bo, bc, lb, rfl, hbc, hsb, hdb, htb, hlb, hpb, hz⟩ := hb
  obtain rfl : lb = [] := by
    cases lb with
    | nil => rfl
    | cons t l =>
      have := val_pos htb (by simp)
      unfold sgnv at hz
      split at hz <;> omega
  have hbx := (bx4_new w (.bool na) (.slice ao la.length ac) (.bool nb) (.slice bo 0 bc)).below
  obtain ⟨n, hn⟩ : ∃ n, la.length = n := ⟨_, rfl⟩
  rw [hn] at hbx ⊢
  rw [show ([] : List Nat).length = 0 from rfl]
  clear hsa hsb hda hdb hta htb hpa hpb hn hz hac hbc hla hlb
  have HBX := hidden hbx
  clear hbx
  go_enter Tryd.func41, Tryd.ntmps41
  go_wp2
  refine bodyPost_ret (v := .tuple #[.agg #[.bool false, .slice none 0 0], .agg #[.bool false, .slice none 0 0], .bool false]) (by simp [results, Tryd.results41, go_sem]) rfl ⟨rfl, HBX.out⟩
set_option maxRecDepth 100000 in
set_option maxHeartbeats 6400000 in
theorem divide_any (a b : Value) (x y : Int) (k m : Nat) (w : World) (ha : NumAt w a x k) (hb : NumAt w b y m) (hk : k < 90000000) (hm : m < 90000000) (hy : y ≠ 0) :
    Calls Tryd.prog 41 #[a, b] w fun e w' => Divided w w' e x y (max k 3 + 1) (m + 1) := by
  have HNB := hidden hb
  obtain ⟨na, ao, ac, la, rfl, hac, hsa, hda, hta, hla, hpa, rfl⟩ := ha
  obtain ⟨nb, bo, bc, lb, rfl, hbc, hsb, hdb, htb, hlb, hpb, rfl⟩ := hb
  have hlb0 : 0 < lb.length := by
    cases lb with
    | nil => exact absurd (by cases nb <;> rfl) hy
    | cons t l => simp
  have hvb : 0 < val lb := val_pos htb hlb0
  have hbx := bx4_new w (.bool na) (.slice ao la.length ac) (.bool nb) (.slice bo lb.length bc)
  have HSA := hidden hsa
  have HSB := hidden hsb
  have hdv := fun W (h1 : SrcN W ao la) (h2 : SrcN W bo lb) => divided_any ao bo ac bc la lb W (by omega) (by omega) hac hlb0 h1 h2 hda hdb hta htb
  obtain ⟨n, hn⟩ : ∃ n, la.length = n := ⟨_, rfl⟩
  obtain ⟨n2, hn2⟩ : ∃ n, lb.length = n := ⟨_, rfl⟩
  rw [hn] at hbx hdv hla hac ⊢
  rw [hn2] at hbx hdv hlb hbc hlb0 HNB ⊢
  have HDV := hidden hdv
  have HVB := hidden hvb
  have h0b : ((n2 : Int) == 0) = false := by rw [beq_eq_false_iff_ne]; omega
  clear hsa hsb hda hdb hta htb hpa hpb hn hn2 hdv hvb hy
  obtain ⟨mk, hmk2⟩ : ∃ mx, max k 3 = mx := ⟨_, rfl⟩
  have hmkl : mk < 100000000 := by omega
  have hmx : n ≤ mk := by omega
  have hmx3 : 3 ≤ mk := by omega
  rw [hmk2]
  clear hmk2
  go_enter Tryd.func41, Tryd.ntmps41
  go_wp2_with fail
  have HBX := hidden hbx
  clear hbx
  generalize (((w.alloc (.cells #[.bool na, .slice ao n ac] 25)).alloc (.cells #[.bool nb, .slice bo n2 bc] 25)).alloc (.cells #[.bool false, .slice none 0 0] 25)).alloc (.cells #[.bool false, .slice none 0 0] 25) = W1 at HBX ⊢
  refine (HDV.out _ (HSA.out.below HBX.out.below) (HSB.out.below HBX.out.below)).mono ?_
  rintro e W0 ⟨qo, qc, Q, ro, rc, T, rfl, hsq, hst, hdq, hdt, hvq, hvt, hlq, hlt, hqc, hrc, hb2⟩
  have HBX0 := hidden (HBX.out.more hb2 HBX.out.size)
  obtain ⟨lq, hlq2⟩ : ∃ n, Q.length = n := ⟨_, rfl⟩
  obtain ⟨lt, hlt2⟩ : ∃ n, T.length = n := ⟨_, rfl⟩
  rw [hlq2] at hlq hqc ⊢
  rw [hlt2] at hlt hrc ⊢
  have HLQ := hidden hlq2
  have HLT := hidden hlt2
  have HSQ := hidden hsq
  have HST := hidden hst
  have HDQ := hidden hdq
  have HDT := hidden hdt
  have HVQ := hidden hvq
  have HVT := hidden hvt
  have HNB0 := hidden (HNB.out.below HBX0.out.below)
  clear hlq2 hlt2 hsq hst hdq hdt hvq hvt hb2 HBX HSA HSB HDV
  go_wp2_with fail
  refine wp_region_held_drew (S := fun W => Below (w.heap.size + 2) W0 W) (by kernel_rfl) (Below.refl _ _).drew (fun hH0 => ?_)
  refine take_val' (i := 0) (v := (.pointer (some ⟨w.heap.size, 0, none⟩))) rfl (by kernel_rfl) (by kernel_rfl) (by kernel_rfl) (some 23) rfl (fun _ _ _ h => h) (Or.inl ⟨by rfl, fun W hW => by go_simp⟩) hH0 ?_
  try simp only [Act.put, List.setIfInBounds_toArray, List.set_cons_zero, List.set_cons_succ]
  refine take_val' (i := 1) (v := (.bool na)) rfl (by kernel_rfl) (by kernel_rfl) (by kernel_rfl) (some 24) rfl (fun _ _ _ h => h) (Or.inl ⟨by rfl, fun W hW => by obtain ⟨k0, k1, k2, k3, k4, k5⟩ := HBX0.out.cells W hW; go_simp⟩) hH0 ?_
  try simp only [Act.put, List.setIfInBounds_toArray, List.set_cons_zero, List.set_cons_succ]
  refine take_val' (i := 2) (v := (.pointer (some ⟨w.heap.size + 1, 0, none⟩))) rfl (by kernel_rfl) (by kernel_rfl) (by kernel_rfl) (some 25) rfl (fun _ _ _ h => h) (Or.inl ⟨by rfl, fun W hW => by go_simp⟩) hH0 ?_
  try simp only [Act.put, List.setIfInBounds_toArray, List.set_cons_zero, List.set_cons_succ]
  refine take_val' (i := 3) (v := (.bool nb)) rfl (by kernel_rfl) (by kernel_rfl) (by kernel_rfl) (some 26) rfl (fun _ _ _ h => h) (Or.inl ⟨by rfl, fun W hW => by obtain ⟨k0, k1, k2, k3, k4, k5⟩ := HBX0.out.cells W hW; go_simp⟩) hH0 ?_
  try simp only [Act.put, List.setIfInBounds_toArray, List.set_cons_zero, List.set_cons_succ]
  refine take_val' (i := 4) (v := (.bool (!(na == nb)))) rfl (by kernel_rfl) (by kernel_rfl) (by kernel_rfl) (some 27) rfl (fun _ _ _ h => h) (Or.inl ⟨by rfl, fun W hW => by go_simp⟩) hH0 ?_
  try simp only [Act.put, List.setIfInBounds_toArray, List.set_cons_zero, List.set_cons_succ]
  refine take_val' (i := 5) (v := (.slice qo lq qc)) rfl (by kernel_rfl) (by kernel_rfl) (by kernel_rfl) (some 28) rfl (fun _ _ _ h => h) (Or.inl ⟨by rfl, fun W hW => by go_simp⟩) hH0 ?_
  try simp only [Act.put, List.setIfInBounds_toArray, List.set_cons_zero, List.set_cons_succ]
  refine take_val' (i := 7) (v := (.pointer (some ⟨w.heap.size + 1, 0, none⟩))) rfl (by kernel_rfl) (by kernel_rfl) (by kernel_rfl) (some 30) rfl (fun _ _ _ h => h) (Or.inl ⟨by rfl, fun W hW => by go_simp⟩) hH0 ?_
  try simp only [Act.put, List.setIfInBounds_toArray, List.set_cons_zero, List.set_cons_succ]
  refine take_val' (i := 8) (v := (.bool nb)) rfl (by kernel_rfl) (by kernel_rfl) (by kernel_rfl) (some 31) rfl (fun _ _ _ h => h) (Or.inl ⟨by rfl, fun W hW => by obtain ⟨k0, k1, k2, k3, k4, k5⟩ := HBX0.out.cells W hW; go_simp⟩) hH0 ?_
  try simp only [Act.put, List.setIfInBounds_toArray, List.set_cons_zero, List.set_cons_succ]
  refine take_val' (i := 9) (v := (.slice ro lt rc)) rfl (by kernel_rfl) (by kernel_rfl) (by kernel_rfl) (some 32) rfl (fun _ _ _ h => h) (Or.inl ⟨by rfl, fun W hW => by go_simp⟩) hH0 ?_
  try simp only [Act.put, List.setIfInBounds_toArray, List.set_cons_zero, List.set_cons_succ]
  refine wpAnyH_ready (rs := [6]) (by kernel_rfl) (by simp) ?_
  refine AllReadyH.cons rfl (fun K hK => ?_) AllReadyH.nil
  go_simp
  refine (made_any (!(na == nb)) qo lq qc Q W0.drew HLQ.out (by omega) hqc (HSQ.out.below (Below.refl _ _).drew) HDQ.out).mono ?_
  rintro e w1 ⟨v1, rfl, hN1, hb1⟩
  have HN1 := hidden hN1
  have hb0 : Below (w.heap.size + 4) W0 w1 := (Below.refl _ _).drew.trans (hb1.mono HBX0.out.size)
  have HB0 := hidden hb0
  have hB1 := hidden (hb0.mono (show w.heap.size + 2 ≤ w.heap.size + 4 by omega))
  have hz1 : W0.heap.size ≤ w1.heap.size := hb0.size
  have HST1 := hidden ((HST.out.below ((Below.refl _ _).drew (w := W0))).below hb1)
  clear hN1 hb1 hb0
  refine hK.out _ _ (hB1.out) (fun hH1 => ?_)
  clear hK K
  try simp only [Act.put, List.setIfInBounds_toArray, List.set_cons_zero, List.set_cons_succ]
  refine wpAnyH_ready (rs := [10]) (by kernel_rfl) (by simp) ?_
  refine AllReadyH.cons rfl (fun K hK => ?_) AllReadyH.nil
  go_simp
  refine (made_any nb ro lt rc T w1 HLT.out (by omega) hrc HST1.out HDT.out).mono ?_
  rintro e w2 ⟨v2, rfl, hN2, hb2⟩
  have hN1b := HN1.out.below hb2
  have HN2 := hidden hN2
  have hb0 : Below (w.heap.size + 4) W0 w2 := HB0.out.trans (hb2.mono (Nat.le_trans HBX0.out.size hz1))
  have hB2 := hidden (hb0.mono (show w.heap.size + 2 ≤ w.heap.size + 4 by omega))
  have HBX2 := hidden (HBX0.out.more hb0 (Nat.le_refl _))
  have HNB2 := hidden (HNB.out.below HBX2.out.below)
  have HN1b := hidden hN1b
  obtain ⟨n1, a1, c1, l1, rfl, _⟩ := hN1b
  obtain ⟨n3, a3, c3, l3, rfl, _, _, _, ht3, hl3, _, hv3⟩ := hN2
  have HR3 := hidden (fun h => val_pos ht3 h)
  have HV3 := hidden hv3
  obtain ⟨f0, f1, f2, f3⟩ := HBX2.out.q.facts
  obtain ⟨g0, g1, g2, g3⟩ := HBX2.out.r.facts
  clear hb2 hb0 hv3 ht3
  refine hK.out _ _ (hB2.out) (fun hH2 => ?_)
  clear hK K
  try simp only [Act.put, List.setIfInBounds_toArray, List.set_cons_zero, List.set_cons_succ]
  refine wpAnyH_ready (rs := [11]) (by kernel_rfl) (by simp) ?_
  refine AllReadyH.cons rfl (fun K hK => ?_) AllReadyH.nil
  go_simp
  refine hK.out _ _ ((hB2.out.setCell (show w.heap.size + 2 ≤ w.heap.size + 1 + 1 by omega) _).setCell (show w.heap.size + 2 ≤ w.heap.size + 1 + 1 by omega) _) (fun hH3 => ?_)
  clear hK K
  try simp only [Act.put, List.setIfInBounds_toArray, List.set_cons_zero, List.set_cons_succ]
  refine wpAnyH_ready (rs := [12]) (by kernel_rfl) (by simp) ?_
  refine AllReadyH.cons rfl (fun K hK => ?_) AllReadyH.nil
  go_simp
  refine hK.out _ _ ((((hB2.out.setCell (show w.heap.size + 2 ≤ w.heap.size + 1 + 1 by omega) _).setCell (show w.heap.size + 2 ≤ w.heap.size + 1 + 1 by omega) _).setCell (show w.heap.size + 2 ≤ w.heap.size + 1 + 1 + 1 by omega) _).setCell (show w.heap.size + 2 ≤ w.heap.size + 1 + 1 + 1 by omega) _) (fun hH4 => ?_)
  clear hK K
  try simp only [Act.put, List.setIfInBounds_toArray, List.set_cons_zero, List.set_cons_succ]
  refine wpAnyH_done (by kernel_rfl) ?_ _
  have HB4 := hidden (show Bx4 w ((((w2.setCell ⟨w.heap.size + 1 + 1, 0, none⟩ (.bool n1)).setCell ⟨w.heap.size + 1 + 1, 1, none⟩ (.slice a1 l1.length c1)).setCell ⟨w.heap.size + 1 + 1 + 1, 0, none⟩ (.bool n3)).setCell ⟨w.heap.size + 1 + 1 + 1, 1, none⟩ (.slice a3 l3.length c3)) (.bool na) (.slice ao n ac) (.bool nb) (.slice bo n2 bc) (.bool n1) (.slice a1 l1.length c1) (.bool n3) (.slice a3 l3.length c3) from HBX2.out.store (.bool n1) (.slice a1 l1.length c1) (.bool n3) (.slice a3 l3.length c3))
  have HV1 := hidden (show NumAt ((((w2.setCell ⟨w.heap.size + 1 + 1, 0, none⟩ (.bool n1)).setCell ⟨w.heap.size + 1 + 1, 1, none⟩ (.slice a1 l1.length c1)).setCell ⟨w.heap.size + 1 + 1 + 1, 0, none⟩ (.bool n3)).setCell ⟨w.heap.size + 1 + 1 + 1, 1, none⟩ (.slice a3 l3.length c3)) (.agg #[.bool n1, .slice a1 l1.length c1]) (sgnv (!(na == nb)) (val Q)) lq from numAt_two4 HBX2.out HN1b.out)
  have HV2 := hidden (show NumAt ((((w2.setCell ⟨w.heap.size + 1 + 1, 0, none⟩ (.bool n1)).setCell ⟨w.heap.size + 1 + 1, 1, none⟩ (.slice a1 l1.length c1)).setCell ⟨w.heap.size + 1 + 1 + 1, 0, none⟩ (.bool n3)).setCell ⟨w.heap.size + 1 + 1 + 1, 1, none⟩ (.slice a3 l3.length c3)) (.agg #[.bool n3, .slice a3 l3.length c3]) (sgnv nb (val T)) lt from numAt_two4 HBX2.out HN2.out)
  have HVB4 := hidden (show NumAt ((((w2.setCell ⟨w.heap.size + 1 + 1, 0, none⟩ (.bool n1)).setCell ⟨w.heap.size + 1 + 1, 1, none⟩ (.slice a1 l1.length c1)).setCell ⟨w.heap.size + 1 + 1 + 1, 0, none⟩ (.bool n3)).setCell ⟨w.heap.size + 1 + 1 + 1, 1, none⟩ (.slice a3 l3.length c3)) (.agg #[.bool nb, .slice bo n2 bc]) (sgnv nb (val lb)) m from numAt_two4 HBX2.out HNB2.out)
  clear HBX2 HNB2 HN1b HN2 f0 f1 f2 f3 g0 g1 g2 g3
  generalize ((((w2.setCell ⟨w.heap.size + 1 + 1, 0, none⟩ (.bool n1)).setCell ⟨w.heap.size + 1 + 1, 1, none⟩ (.slice a1 l1.length c1)).setCell ⟨w.heap.size + 1 + 1 + 1, 0, none⟩ (.bool n3)).setCell ⟨w.heap.size + 1 + 1 + 1, 1, none⟩ (.slice a3 l3.length c3)) = W4 at HB4 HV1 HV2 HVB4 ⊢
  obtain ⟨k0, k1, k2, k3, _, _⟩ := HB4.out.cells W4 (Below.refl _ _)
  obtain ⟨f0, f1, f2, f3⟩ := HB4.out.q.facts
  obtain ⟨g0, g1, g2, g3⟩ := HB4.out.r.facts
  by_cases hs : na = nb
  · have hsb : (na == nb) = true := by rw [hs]; exact beq_self_eq_true nb
    have HDM := hidden (dm_plain (na := na) (nb := nb) (a := val la) HVB.out (.inl hs))
    clear hs
    have HB5 := hidden (show Bx4 w ((((W4.setCell ⟨w.heap.size + 1 + 1, 0, none⟩ (.bool n1)).setCell ⟨w.heap.size + 1 + 1, 1, none⟩ (.slice a1 l1.length c1)).setCell ⟨w.heap.size + 1 + 1 + 1, 0, none⟩ (.bool n3)).setCell ⟨w.heap.size + 1 + 1 + 1, 1, none⟩ (.slice a3 l3.length c3)).drew (.bool na) (.slice ao n ac) (.bool nb) (.slice bo n2 bc) (.bool n1) (.slice a1 l1.length c1) (.bool n3) (.slice a3 l3.length c3) from (HB4.out.store (.bool n1) (.slice a1 l1.length c1) (.bool n3) (.slice a3 l3.length c3)).drew)
    have HV15 := hidden (show NumAt ((((W4.setCell ⟨w.heap.size + 1 + 1, 0, none⟩ (.bool n1)).setCell ⟨w.heap.size + 1 + 1, 1, none⟩ (.slice a1 l1.length c1)).setCell ⟨w.heap.size + 1 + 1 + 1, 0, none⟩ (.bool n3)).setCell ⟨w.heap.size + 1 + 1 + 1, 1, none⟩ (.slice a3 l3.length c3)).drew (.agg #[.bool n1, .slice a1 l1.length c1]) (sgnv (!(na == nb)) (val Q)) (lq) from (numAt_two4 HB4.out HV1.out).drew)
    have HV25 := hidden (show NumAt ((((W4.setCell ⟨w.heap.size + 1 + 1, 0, none⟩ (.bool n1)).setCell ⟨w.heap.size + 1 + 1, 1, none⟩ (.slice a1 l1.length c1)).setCell ⟨w.heap.size + 1 + 1 + 1, 0, none⟩ (.bool n3)).setCell ⟨w.heap.size + 1 + 1 + 1, 1, none⟩ (.slice a3 l3.length c3)).drew (.agg #[.bool n3, .slice a3 l3.length c3]) (sgnv nb (val T)) (lt) from (numAt_two4 HB4.out HV2.out).drew)
    go_wp2
    go_region
    go_wp2
    clear f0 f1 f2 f3 g0 g1 g2 g3
    generalize ((((W4.setCell ⟨w.heap.size + 1 + 1, 0, none⟩ (.bool n1)).setCell ⟨w.heap.size + 1 + 1, 1, none⟩ (.slice a1 l1.length c1)).setCell ⟨w.heap.size + 1 + 1 + 1, 0, none⟩ (.bool n3)).setCell ⟨w.heap.size + 1 + 1 + 1, 1, none⟩ (.slice a3 l3.length c3)).drew = W5 at HB5 HV15 HV25 ⊢
    obtain ⟨f0, f1, _, _⟩ := HB5.out.q.facts
    obtain ⟨g0, g1, _, _⟩ := HB5.out.r.facts
    refine bodyPost_ret (v := .tuple #[(.agg #[.bool n1, .slice a1 l1.length c1]), (.agg #[.bool n3, .slice a3 l3.length c3]), .bool true]) (by simp [results, Tryd.results41, go_sem, f0, f1, g0, g1]) rfl ⟨_, _, _, _, rfl, HV15.out.mono (by omega), HV25.out.mono (by omega), ?_, HB5.out.below⟩
    rw [HVQ.out, HVT.out]
    exact HDM.out
  · have hsb : (na == nb) = false := beq_eq_false_iff_ne.2 hs
    have HNE := hidden hs
    clear hs
    by_cases hr0' : l3.length = 0
    · have hz : Hid (val la % val lb = 0) := hidden (by
        rw [← HVT.out]
        have e := HV3.out
        rw [List.length_eq_zero_iff.1 hr0'] at e
        unfold sgnv at e
        simp only [val] at e
        split at e <;> split at e <;> omega)
      have HDM := hidden (dm_plain (na := na) (nb := nb) (a := val la) HVB.out (.inr hz.out))
      obtain rfl : l3 = [] := List.length_eq_zero_iff.1 hr0'
      simp only [List.length_nil] at HB4 HV2 g1 ⊢
      clear hr0'
      have HB5 := hidden (show Bx4 w ((((W4.setCell ⟨w.heap.size + 1 + 1, 0, none⟩ (.bool n1)).setCell ⟨w.heap.size + 1 + 1, 1, none⟩ (.slice a1 l1.length c1)).setCell ⟨w.heap.size + 1 + 1 + 1, 0, none⟩ (.bool n3)).setCell ⟨w.heap.size + 1 + 1 + 1, 1, none⟩ (.slice a3 0 c3)).drew (.bool na) (.slice ao n ac) (.bool nb) (.slice bo n2 bc) (.bool n1) (.slice a1 l1.length c1) (.bool n3) (.slice a3 0 c3) from (HB4.out.store (.bool n1) (.slice a1 l1.length c1) (.bool n3) (.slice a3 0 c3)).drew)
      have HV15 := hidden (show NumAt ((((W4.setCell ⟨w.heap.size + 1 + 1, 0, none⟩ (.bool n1)).setCell ⟨w.heap.size + 1 + 1, 1, none⟩ (.slice a1 l1.length c1)).setCell ⟨w.heap.size + 1 + 1 + 1, 0, none⟩ (.bool n3)).setCell ⟨w.heap.size + 1 + 1 + 1, 1, none⟩ (.slice a3 0 c3)).drew (.agg #[.bool n1, .slice a1 l1.length c1]) (sgnv (!(na == nb)) (val Q)) (lq) from (numAt_two4 HB4.out HV1.out).drew)
      have HV25 := hidden (show NumAt ((((W4.setCell ⟨w.heap.size + 1 + 1, 0, none⟩ (.bool n1)).setCell ⟨w.heap.size + 1 + 1, 1, none⟩ (.slice a1 l1.length c1)).setCell ⟨w.heap.size + 1 + 1 + 1, 0, none⟩ (.bool n3)).setCell ⟨w.heap.size + 1 + 1 + 1, 1, none⟩ (.slice a3 0 c3)).drew (.agg #[.bool n3, .slice a3 0 c3]) (sgnv nb (val T)) (lt) from (numAt_two4 HB4.out HV2.out).drew)
      go_wp2
      go_region
      go_wp2
      clear f0 f1 f2 f3 g0 g1 g2 g3
      generalize ((((W4.setCell ⟨w.heap.size + 1 + 1, 0, none⟩ (.bool n1)).setCell ⟨w.heap.size + 1 + 1, 1, none⟩ (.slice a1 l1.length c1)).setCell ⟨w.heap.size + 1 + 1 + 1, 0, none⟩ (.bool n3)).setCell ⟨w.heap.size + 1 + 1 + 1, 1, none⟩ (.slice a3 0 c3)).drew = W5 at HB5 HV15 HV25 ⊢
      obtain ⟨f0, f1, _, _⟩ := HB5.out.q.facts
      obtain ⟨g0, g1, _, _⟩ := HB5.out.r.facts
      refine bodyPost_ret (v := .tuple #[(.agg #[.bool n1, .slice a1 l1.length c1]), (.agg #[.bool n3, .slice a3 0 c3]), .bool true]) (by simp [results, Tryd.results41, go_sem, f0, f1, g0, g1]) rfl ⟨_, _, _, _, rfl, HV15.out.mono (by omega), HV25.out.mono (by omega), ?_, HB5.out.below⟩
      rw [HVQ.out, HVT.out]
      exact HDM.out
    · have hr1 : 0 < l3.length := by omega
      clear hr0'
      have hz : Hid (val la % val lb ≠ 0) := hidden (by
        rw [← HVT.out]
        have e := HV3.out
        have e2 := HR3.out hr1
        unfold sgnv at e
        split at e <;> split at e <;> omega)
      have HDM := hidden (dm_turned (na := na) (nb := nb) (a := val la) HVB.out HNE.out hz.out)
      have HS1 := hidden (fun W one (h : NumAt W one 1 3) (hb : Below W4.heap.size W4 W) => sub_any (.agg #[.bool n1, .slice a1 l1.length c1]) one _ 1 lq 3 W (HV1.out.below hb) h (by omega) (by omega))
      have HS2 := hidden (fun W (hb : Below W4.heap.size W4 W) => sub_any (.agg #[.bool nb, .slice bo n2 bc]) (.agg #[.bool n3, .slice a3 l3.length c3]) _ _ m lt W (HVB4.out.below hb) (HV2.out.below hb) (by omega) (by omega))
      have HCELL := hidden (fun W (hb : Below W4.heap.size W4 W) => (show W.cell? ⟨w.heap.size + 1, 0, none⟩ = some (.bool nb) ∧ W.cell? ⟨w.heap.size + 1, 1, none⟩ = some (.slice bo n2 bc) ∧ W.cell? ⟨w.heap.size + 1 + 1, 0, none⟩ = some (.bool n1) ∧ W.cell? ⟨w.heap.size + 1 + 1, 1, none⟩ = some (.slice a1 l1.length c1) ∧ W.cell? ⟨w.heap.size + 1 + 1 + 1, 0, none⟩ = some (.bool n3) ∧ W.cell? ⟨w.heap.size + 1 + 1 + 1, 1, none⟩ = some (.slice a3 l3.length c3) from by
        have h := HB4.out.more hb HB4.out.size
        exact ⟨h.b.facts.1, h.b.facts.2.1, h.q.facts.1, h.q.facts.2.1, h.r.facts.1, h.r.facts.2.1⟩))
      have hC4 := hidden (show Below W4.heap.size W4 W4.drew from (Below.refl _ _).drew)
      go_wp2_with fail
      refine wp_region_held_drew (S := fun W => Below (w.heap.size + 2) W4 W) (by kernel_rfl) (Below.refl _ _).drew (fun hH0 => ?_)
      refine take_val' (i := 3) (v := (.agg #[.bool nb, .slice bo n2 bc])) rfl (by kernel_rfl) (by kernel_rfl) (by kernel_rfl) (some 48) rfl (fun _ _ _ h => h) (Or.inl ⟨by rfl, fun W hW => by obtain ⟨k0, k1, k2, k3, _, _⟩ := HB4.out.cells W hW; go_simp⟩) hH0 ?_
      try simp only [Act.put, List.setIfInBounds_toArray, List.set_cons_zero, List.set_cons_succ]
      refine wpAnyH_ready (rs := [0, 1, 4]) (by kernel_rfl) (by simp) ?_
      refine (AllReadyH.cons rfl (fun K hK => ?_) (AllReadyH.cons rfl (fun K hK => ?_) (AllReadyH.cons rfl (fun K hK => ?_) AllReadyH.nil)))
      · go_simp
        refine hK.out _ _ (hC4.out.mono (show w.heap.size + 2 ≤ W4.heap.size by have := HB4.out.size; omega)) (fun _ => ?_)
        clear hK K
        try simp only [Act.put, List.setIfInBounds_toArray, List.set_cons_zero, List.set_cons_succ]
        refine wpAnyH_ready (rs := [1, 4]) (by kernel_rfl) (by simp) ?_
        refine (AllReadyH.cons rfl (fun K hK => ?_) (AllReadyH.cons rfl (fun K hK => ?_) AllReadyH.nil))
        · go_simp
          refine (of_any 1 _ (by omega) (by omega)).mono ?_
          rintro e w5 ⟨v5, rfl, h5, hb5⟩
          have hC5 := hidden (show Below W4.heap.size W4 w5 from (Below.refl _ _).drew.trans hb5)
          have H5 := hidden h5
          obtain ⟨s0, s1, s2, s3, s4, s5⟩ := HCELL.out w5 hC5.out
          clear h5 hb5
          refine hK.out _ _ (hC5.out.mono (show w.heap.size + 2 ≤ W4.heap.size by have := HB4.out.size; omega)) (fun _ => ?_)
          clear hK K
          try simp only [Act.put, List.setIfInBounds_toArray, List.set_cons_zero, List.set_cons_succ]
          refine wpAnyH_ready (rs := [2, 4]) (by kernel_rfl) (by simp) ?_
          refine (AllReadyH.cons rfl (fun K hK => ?_) (AllReadyH.cons rfl (fun K hK => ?_) AllReadyH.nil))
          · go_simp
            refine (HS1.out _ _ H5.out hC5.out).mono ?_
            rintro e w6 ⟨v6, rfl, h6, hb6⟩
            have hC6 := hidden (show Below W4.heap.size W4 w6 from hC5.out.trans (hb6.mono hC5.out.size))
            have H6 := hidden h6
            obtain ⟨n6, a6, c6, l6, rfl, _⟩ := h6
            obtain ⟨t0, t1, t2, t3, t4, t5⟩ := HCELL.out w6 hC6.out
            clear hb6
            refine hK.out _ _ (hC6.out.mono (show w.heap.size + 2 ≤ W4.heap.size by have := HB4.out.size; omega)) (fun _ => ?_)
            clear hK K
            try simp only [Act.put, List.setIfInBounds_toArray, List.set_cons_zero, List.set_cons_succ]
            refine wpAnyH_ready (rs := [4]) (by kernel_rfl) (by simp) ?_
            refine (AllReadyH.cons rfl (fun K hK => ?_) AllReadyH.nil)
            go_simp
            refine hK.out _ _ (hC6.out.mono (show w.heap.size + 2 ≤ W4.heap.size by have := HB4.out.size; omega)) (fun _ => ?_)
            clear hK K
            try simp only [Act.put, List.setIfInBounds_toArray, List.set_cons_zero, List.set_cons_succ]
            refine wpAnyH_ready (rs := [5]) (by kernel_rfl) (by simp) ?_
            refine (AllReadyH.cons rfl (fun K hK => ?_) AllReadyH.nil)
            go_simp
            refine (HS2.out _ hC6.out).mono ?_
            rintro e w7 ⟨v7, rfl, h7, hb7⟩
            have hC7 := hidden (show Below W4.heap.size W4 w7 from hC6.out.trans (hb7.mono hC6.out.size))
            have H67 := hidden (H6.out.below hb7)
            have H7 := hidden h7
            obtain ⟨n7, a7, c7, l7, rfl, _⟩ := h7
            have HB7 := hidden (HB4.out.more hC7.out HB4.out.size)
            obtain ⟨p0, p1, p2, p3⟩ := HB7.out.q.facts
            obtain ⟨q0, q1, q2, q3⟩ := HB7.out.r.facts
            clear hb7
            refine hK.out _ _ (hC7.out.mono (show w.heap.size + 2 ≤ W4.heap.size by have := HB4.out.size; omega)) (fun _ => ?_)
            clear hK K
            try simp only [Act.put, List.setIfInBounds_toArray, List.set_cons_zero, List.set_cons_succ]
            refine wpAnyH_ready (rs := [6]) (by kernel_rfl) (by simp) ?_
            refine AllReadyH.cons rfl (fun K hK => ?_) AllReadyH.nil
            go_simp
            refine hK.out _ _ (((hC7.out.mono (show w.heap.size + 2 ≤ W4.heap.size by have := HB4.out.size; omega)).setCell (show w.heap.size + 2 ≤ w.heap.size + 1 + 1 by omega) _).setCell (show w.heap.size + 2 ≤ w.heap.size + 1 + 1 by omega) _) (fun _ => ?_)
            clear hK K
            try simp only [Act.put, List.setIfInBounds_toArray, List.set_cons_zero, List.set_cons_succ]
            refine wpAnyH_ready (rs := [7]) (by kernel_rfl) (by simp) ?_
            refine AllReadyH.cons rfl (fun K hK => ?_) AllReadyH.nil
            go_simp
            refine hK.out _ _ (((((hC7.out.mono (show w.heap.size + 2 ≤ W4.heap.size by have := HB4.out.size; omega)).setCell (show w.heap.size + 2 ≤ w.heap.size + 1 + 1 by omega) _).setCell (show w.heap.size + 2 ≤ w.heap.size + 1 + 1 by omega) _).setCell (show w.heap.size + 2 ≤ w.heap.size + 1 + 1 + 1 by omega) _).setCell (show w.heap.size + 2 ≤ w.heap.size + 1 + 1 + 1 by omega) _) (fun _ => ?_)
            clear hK K
            try simp only [Act.put, List.setIfInBounds_toArray, List.set_cons_zero, List.set_cons_succ]
            refine wpAnyH_done (by kernel_rfl) ?_ _
            have HB8 := hidden (show Bx4 w ((((w7.setCell ⟨w.heap.size + 1 + 1, 0, none⟩ (.bool n6)).setCell ⟨w.heap.size + 1 + 1, 1, none⟩ (.slice a6 l6.length c6)).setCell ⟨w.heap.size + 1 + 1 + 1, 0, none⟩ (.bool n7)).setCell ⟨w.heap.size + 1 + 1 + 1, 1, none⟩ (.slice a7 l7.length c7)) (.bool na) (.slice ao n ac) (.bool nb) (.slice bo n2 bc) (.bool n6) (.slice a6 l6.length c6) (.bool n7) (.slice a7 l7.length c7) from HB7.out.store (.bool n6) (.slice a6 l6.length c6) (.bool n7) (.slice a7 l7.length c7))
            have HV18 := hidden (show NumAt ((((w7.setCell ⟨w.heap.size + 1 + 1, 0, none⟩ (.bool n6)).setCell ⟨w.heap.size + 1 + 1, 1, none⟩ (.slice a6 l6.length c6)).setCell ⟨w.heap.size + 1 + 1 + 1, 0, none⟩ (.bool n7)).setCell ⟨w.heap.size + 1 + 1 + 1, 1, none⟩ (.slice a7 l7.length c7)) (.agg #[.bool n6, .slice a6 l6.length c6]) (sgnv (!(na == nb)) (val Q) - 1) (max lq 3 + 1) from numAt_two4 HB7.out H67.out)
            have HV28 := hidden (show NumAt ((((w7.setCell ⟨w.heap.size + 1 + 1, 0, none⟩ (.bool n6)).setCell ⟨w.heap.size + 1 + 1, 1, none⟩ (.slice a6 l6.length c6)).setCell ⟨w.heap.size + 1 + 1 + 1, 0, none⟩ (.bool n7)).setCell ⟨w.heap.size + 1 + 1 + 1, 1, none⟩ (.slice a7 l7.length c7)) (.agg #[.bool n7, .slice a7 l7.length c7]) (sgnv nb (val lb) - sgnv nb (val T)) (max m lt + 1) from numAt_two4 HB7.out H7.out)
            clear p0 p1 p2 p3 q0 q1 q2 q3 f0 f1 f2 f3 g0 g1 g2 g3 k0 k1 k2 k3 s0 s1 s2 s3 s4 s5 t0 t1 t2 t3 t4 t5
            generalize ((((w7.setCell ⟨w.heap.size + 1 + 1, 0, none⟩ (.bool n6)).setCell ⟨w.heap.size + 1 + 1, 1, none⟩ (.slice a6 l6.length c6)).setCell ⟨w.heap.size + 1 + 1 + 1, 0, none⟩ (.bool n7)).setCell ⟨w.heap.size + 1 + 1 + 1, 1, none⟩ (.slice a7 l7.length c7)) = W8 at HB8 HV18 HV28 ⊢
            obtain ⟨f0, f1, f2, f3⟩ := HB8.out.q.facts
            obtain ⟨g0, g1, g2, g3⟩ := HB8.out.r.facts
            have HB9 := hidden (show Bx4 w ((((W8.setCell ⟨w.heap.size + 1 + 1, 0, none⟩ (.bool n6)).setCell ⟨w.heap.size + 1 + 1, 1, none⟩ (.slice a6 l6.length c6)).setCell ⟨w.heap.size + 1 + 1 + 1, 0, none⟩ (.bool n7)).setCell ⟨w.heap.size + 1 + 1 + 1, 1, none⟩ (.slice a7 l7.length c7)).drew (.bool na) (.slice ao n ac) (.bool nb) (.slice bo n2 bc) (.bool n6) (.slice a6 l6.length c6) (.bool n7) (.slice a7 l7.length c7) from (HB8.out.store (.bool n6) (.slice a6 l6.length c6) (.bool n7) (.slice a7 l7.length c7)).drew)
            have HV19 := hidden (show NumAt ((((W8.setCell ⟨w.heap.size + 1 + 1, 0, none⟩ (.bool n6)).setCell ⟨w.heap.size + 1 + 1, 1, none⟩ (.slice a6 l6.length c6)).setCell ⟨w.heap.size + 1 + 1 + 1, 0, none⟩ (.bool n7)).setCell ⟨w.heap.size + 1 + 1 + 1, 1, none⟩ (.slice a7 l7.length c7)).drew (.agg #[.bool n6, .slice a6 l6.length c6]) (sgnv (!(na == nb)) (val Q) - 1) (max lq 3 + 1) from (numAt_two4 HB8.out HV18.out).drew)
            have HV29 := hidden (show NumAt ((((W8.setCell ⟨w.heap.size + 1 + 1, 0, none⟩ (.bool n6)).setCell ⟨w.heap.size + 1 + 1, 1, none⟩ (.slice a6 l6.length c6)).setCell ⟨w.heap.size + 1 + 1 + 1, 0, none⟩ (.bool n7)).setCell ⟨w.heap.size + 1 + 1 + 1, 1, none⟩ (.slice a7 l7.length c7)).drew (.agg #[.bool n7, .slice a7 l7.length c7]) (sgnv nb (val lb) - sgnv nb (val T)) (max m lt + 1) from (numAt_two4 HB8.out HV28.out).drew)
            go_wp2
            go_region
            go_wp2
            clear f0 f1 f2 f3 g0 g1 g2 g3
            generalize ((((W8.setCell ⟨w.heap.size + 1 + 1, 0, none⟩ (.bool n6)).setCell ⟨w.heap.size + 1 + 1, 1, none⟩ (.slice a6 l6.length c6)).setCell ⟨w.heap.size + 1 + 1 + 1, 0, none⟩ (.bool n7)).setCell ⟨w.heap.size + 1 + 1 + 1, 1, none⟩ (.slice a7 l7.length c7)).drew = W9 at HB9 HV19 HV29 ⊢
            obtain ⟨f0, f1, _, _⟩ := HB9.out.q.facts
            obtain ⟨g0, g1, _, _⟩ := HB9.out.r.facts
            refine bodyPost_ret (v := .tuple #[(.agg #[.bool n6, .slice a6 l6.length c6]), (.agg #[.bool n7, .slice a7 l7.length c7]), .bool true]) (by simp [results, Tryd.results41, go_sem, f0, f1, g0, g1]) rfl ⟨_, _, _, _, rfl, HV19.out.mono (by omega), HV29.out.mono (by omega), ?_, HB9.out.below⟩
            rw [HVQ.out, HVT.out]
            exact HDM.out
          · go_simp
            refine hK.out _ _ (hC5.out.mono (show w.heap.size + 2 ≤ W4.heap.size by have := HB4.out.size; omega)) (fun _ => ?_)
            clear hK K
            try simp only [Act.put, List.setIfInBounds_toArray, List.set_cons_zero, List.set_cons_succ]
            refine wpAnyH_ready (rs := [2]) (by kernel_rfl) (by simp) ?_
            refine (AllReadyH.cons rfl (fun K hK => ?_) AllReadyH.nil)
            go_simp
            refine (HS1.out _ _ H5.out hC5.out).mono ?_
            rintro e w6 ⟨v6, rfl, h6, hb6⟩
            have hC6 := hidden (show Below W4.heap.size W4 w6 from hC5.out.trans (hb6.mono hC5.out.size))
            have H6 := hidden h6
            obtain ⟨n6, a6, c6, l6, rfl, _⟩ := h6
            obtain ⟨t0, t1, t2, t3, t4, t5⟩ := HCELL.out w6 hC6.out
            clear hb6
            refine hK.out _ _ (hC6.out.mono (show w.heap.size + 2 ≤ W4.heap.size by have := HB4.out.size; omega)) (fun _ => ?_)
            clear hK K
            try simp only [Act.put, List.setIfInBounds_toArray, List.set_cons_zero, List.set_cons_succ]
            refine wpAnyH_ready (rs := [5]) (by kernel_rfl) (by simp) ?_
            refine (AllReadyH.cons rfl (fun K hK => ?_) AllReadyH.nil)
            go_simp
            refine (HS2.out _ hC6.out).mono ?_
            rintro e w7 ⟨v7, rfl, h7, hb7⟩
            have hC7 := hidden (show Below W4.heap.size W4 w7 from hC6.out.trans (hb7.mono hC6.out.size))
            have H67 := hidden (H6.out.below hb7)
            have H7 := hidden h7
            obtain ⟨n7, a7, c7, l7, rfl, _⟩ := h7
            have HB7 := hidden (HB4.out.more hC7.out HB4.out.size)
            obtain ⟨p0, p1, p2, p3⟩ := HB7.out.q.facts
            obtain ⟨q0, q1, q2, q3⟩ := HB7.out.r.facts
            clear hb7
            refine hK.out _ _ (hC7.out.mono (show w.heap.size + 2 ≤ W4.heap.size by have := HB4.out.size; omega)) (fun _ => ?_)
            clear hK K
            try simp only [Act.put, List.setIfInBounds_toArray, List.set_cons_zero, List.set_cons_succ]
            refine wpAnyH_ready (rs := [6]) (by kernel_rfl) (by simp) ?_
            refine AllReadyH.cons rfl (fun K hK => ?_) AllReadyH.nil
            go_simp
            refine hK.out _ _ (((hC7.out.mono (show w.heap.size + 2 ≤ W4.heap.size by have := HB4.out.size; omega)).setCell (show w.heap.size + 2 ≤ w.heap.size + 1 + 1 by omega) _).setCell (show w.heap.size + 2 ≤ w.heap.size + 1 + 1 by omega) _) (fun _ => ?_)
            clear hK K
            try simp only [Act.put, List.setIfInBounds_toArray, List.set_cons_zero, List.set_cons_succ]
            refine wpAnyH_ready (rs := [7]) (by kernel_rfl) (by simp) ?_
            refine AllReadyH.cons rfl (fun K hK => ?_) AllReadyH.nil
            go_simp
            refine hK.out _ _ (((((hC7.out.mono (show w.heap.size + 2 ≤ W4.heap.size by have := HB4.out.size; omega)).setCell (show w.heap.size + 2 ≤ w.heap.size + 1 + 1 by omega) _).setCell (show w.heap.size + 2 ≤ w.heap.size + 1 + 1 by omega) _).setCell (show w.heap.size + 2 ≤ w.heap.size + 1 + 1 + 1 by omega) _).setCell (show w.heap.size + 2 ≤ w.heap.size + 1 + 1 + 1 by omega) _) (fun _ => ?_)
            clear hK K
            try simp only [Act.put, List.setIfInBounds_toArray, List.set_cons_zero, List.set_cons_succ]
            refine wpAnyH_done (by kernel_rfl) ?_ _
            have HB8 := hidden (show Bx4 w ((((w7.setCell ⟨w.heap.size + 1 + 1, 0, none⟩ (.bool n6)).setCell ⟨w.heap.size + 1 + 1, 1, none⟩ (.slice a6 l6.length c6)).setCell ⟨w.heap.size + 1 + 1 + 1, 0, none⟩ (.bool n7)).setCell ⟨w.heap.size + 1 + 1 + 1, 1, none⟩ (.slice a7 l7.length c7)) (.bool na) (.slice ao n ac) (.bool nb) (.slice bo n2 bc) (.bool n6) (.slice a6 l6.length c6) (.bool n7) (.slice a7 l7.length c7) from HB7.out.store (.bool n6) (.slice a6 l6.length c6) (.bool n7) (.slice a7 l7.length c7))
            have HV18 := hidden (show NumAt ((((w7.setCell ⟨w.heap.size + 1 + 1, 0, none⟩ (.bool n6)).setCell ⟨w.heap.size + 1 + 1, 1, none⟩ (.slice a6 l6.length c6)).setCell ⟨w.heap.size + 1 + 1 + 1, 0, none⟩ (.bool n7)).setCell ⟨w.heap.size + 1 + 1 + 1, 1, none⟩ (.slice a7 l7.length c7)) (.agg #[.bool n6, .slice a6 l6.length c6]) (sgnv (!(na == nb)) (val Q) - 1) (max lq 3 + 1) from numAt_two4 HB7.out H67.out)
            have HV28 := hidden (show NumAt ((((w7.setCell ⟨w.heap.size + 1 + 1, 0, none⟩ (.bool n6)).setCell ⟨w.heap.size + 1 + 1, 1, none⟩ (.slice a6 l6.length c6)).setCell ⟨w.heap.size + 1 + 1 + 1, 0, none⟩ (.bool n7)).setCell ⟨w.heap.size + 1 + 1 + 1, 1, none⟩ (.slice a7 l7.length c7)) (.agg #[.bool n7, .slice a7 l7.length c7]) (sgnv nb (val lb) - sgnv nb (val T)) (max m lt + 1) from numAt_two4 HB7.out H7.out)
            clear p0 p1 p2 p3 q0 q1 q2 q3 f0 f1 f2 f3 g0 g1 g2 g3 k0 k1 k2 k3 s0 s1 s2 s3 s4 s5 t0 t1 t2 t3 t4 t5
            generalize ((((w7.setCell ⟨w.heap.size + 1 + 1, 0, none⟩ (.bool n6)).setCell ⟨w.heap.size + 1 + 1, 1, none⟩ (.slice a6 l6.length c6)).setCell ⟨w.heap.size + 1 + 1 + 1, 0, none⟩ (.bool n7)).setCell ⟨w.heap.size + 1 + 1 + 1, 1, none⟩ (.slice a7 l7.length c7)) = W8 at HB8 HV18 HV28 ⊢
            obtain ⟨f0, f1, f2, f3⟩ := HB8.out.q.facts
            obtain ⟨g0, g1, g2, g3⟩ := HB8.out.r.facts
            have HB9 := hidden (show Bx4 w ((((W8.setCell ⟨w.heap.size + 1 + 1, 0, none⟩ (.bool n6)).setCell ⟨w.heap.size + 1 + 1, 1, none⟩ (.slice a6 l6.length c6)).setCell ⟨w.heap.size + 1 + 1 + 1, 0, none⟩ (.bool n7)).setCell ⟨w.heap.size + 1 + 1 + 1, 1, none⟩ (.slice a7 l7.length c7)).drew (.bool na) (.slice ao n ac) (.bool nb) (.slice bo n2 bc) (.bool n6) (.slice a6 l6.length c6) (.bool n7) (.slice a7 l7.length c7) from (HB8.out.store (.bool n6) (.slice a6 l6.length c6) (.bool n7) (.slice a7 l7.length c7)).drew)
            have HV19 := hidden (show NumAt ((((W8.setCell ⟨w.heap.size + 1 + 1, 0, none⟩ (.bool n6)).setCell ⟨w.heap.size + 1 + 1, 1, none⟩ (.slice a6 l6.length c6)).setCell ⟨w.heap.size + 1 + 1 + 1, 0, none⟩ (.bool n7)).setCell ⟨w.heap.size + 1 + 1 + 1, 1, none⟩ (.slice a7 l7.length c7)).drew (.agg #[.bool n6, .slice a6 l6.length c6]) (sgnv (!(na == nb)) (val Q) - 1) (max lq 3 + 1) from (numAt_two4 HB8.out HV18.out).drew)
            have HV29 := hidden (show NumAt ((((W8.setCell ⟨w.heap.size + 1 + 1, 0, none⟩ (.bool n6)).setCell ⟨w.heap.size + 1 + 1, 1, none⟩ (.slice a6 l6.length c6)).setCell ⟨w.heap.size + 1 + 1 + 1, 0, none⟩ (.bool n7)).setCell ⟨w.heap.size + 1 + 1 + 1, 1, none⟩ (.slice a7 l7.length c7)).drew (.agg #[.bool n7, .slice a7 l7.length c7]) (sgnv nb (val lb) - sgnv nb (val T)) (max m lt + 1) from (numAt_two4 HB8.out HV28.out).drew)
            go_wp2
            go_region
            go_wp2
            clear f0 f1 f2 f3 g0 g1 g2 g3
            generalize ((((W8.setCell ⟨w.heap.size + 1 + 1, 0, none⟩ (.bool n6)).setCell ⟨w.heap.size + 1 + 1, 1, none⟩ (.slice a6 l6.length c6)).setCell ⟨w.heap.size + 1 + 1 + 1, 0, none⟩ (.bool n7)).setCell ⟨w.heap.size + 1 + 1 + 1, 1, none⟩ (.slice a7 l7.length c7)).drew = W9 at HB9 HV19 HV29 ⊢
            obtain ⟨f0, f1, _, _⟩ := HB9.out.q.facts
            obtain ⟨g0, g1, _, _⟩ := HB9.out.r.facts
            refine bodyPost_ret (v := .tuple #[(.agg #[.bool n6, .slice a6 l6.length c6]), (.agg #[.bool n7, .slice a7 l7.length c7]), .bool true]) (by simp [results, Tryd.results41, go_sem, f0, f1, g0, g1]) rfl ⟨_, _, _, _, rfl, HV19.out.mono (by omega), HV29.out.mono (by omega), ?_, HB9.out.below⟩
            rw [HVQ.out, HVT.out]
            exact HDM.out
        · go_simp
          refine hK.out _ _ (hC4.out.mono (show w.heap.size + 2 ≤ W4.heap.size by have := HB4.out.size; omega)) (fun _ => ?_)
          clear hK K
          try simp only [Act.put, List.setIfInBounds_toArray, List.set_cons_zero, List.set_cons_succ]
          refine wpAnyH_ready (rs := [1]) (by kernel_rfl) (by simp) ?_
          refine (AllReadyH.cons rfl (fun K hK => ?_) AllReadyH.nil)
          go_simp
          refine (of_any 1 _ (by omega) (by omega)).mono ?_
          rintro e w5 ⟨v5, rfl, h5, hb5⟩
          have hC5 := hidden (show Below W4.heap.size W4 w5 from (Below.refl _ _).drew.trans hb5)
          have H5 := hidden h5
          obtain ⟨s0, s1, s2, s3, s4, s5⟩ := HCELL.out w5 hC5.out
          clear h5 hb5
          refine hK.out _ _ (hC5.out.mono (show w.heap.size + 2 ≤ W4.heap.size by have := HB4.out.size; omega)) (fun _ => ?_)
          clear hK K
          try simp only [Act.put, List.setIfInBounds_toArray, List.set_cons_zero, List.set_cons_succ]
          refine wpAnyH_ready (rs := [2]) (by kernel_rfl) (by simp) ?_
          refine (AllReadyH.cons rfl (fun K hK => ?_) AllReadyH.nil)
          go_simp
          refine (HS1.out _ _ H5.out hC5.out).mono ?_
          rintro e w6 ⟨v6, rfl, h6, hb6⟩
          have hC6 := hidden (show Below W4.heap.size W4 w6 from hC5.out.trans (hb6.mono hC5.out.size))
          have H6 := hidden h6
          obtain ⟨n6, a6, c6, l6, rfl, _⟩ := h6
          obtain ⟨t0, t1, t2, t3, t4, t5⟩ := HCELL.out w6 hC6.out
          clear hb6
          refine hK.out _ _ (hC6.out.mono (show w.heap.size + 2 ≤ W4.heap.size by have := HB4.out.size; omega)) (fun _ => ?_)
          clear hK K
          try simp only [Act.put, List.setIfInBounds_toArray, List.set_cons_zero, List.set_cons_succ]
          refine wpAnyH_ready (rs := [5]) (by kernel_rfl) (by simp) ?_
          refine (AllReadyH.cons rfl (fun K hK => ?_) AllReadyH.nil)
          go_simp
          refine (HS2.out _ hC6.out).mono ?_
          rintro e w7 ⟨v7, rfl, h7, hb7⟩
          have hC7 := hidden (show Below W4.heap.size W4 w7 from hC6.out.trans (hb7.mono hC6.out.size))
          have H67 := hidden (H6.out.below hb7)
          have H7 := hidden h7
          obtain ⟨n7, a7, c7, l7, rfl, _⟩ := h7
          have HB7 := hidden (HB4.out.more hC7.out HB4.out.size)
          obtain ⟨p0, p1, p2, p3⟩ := HB7.out.q.facts
          obtain ⟨q0, q1, q2, q3⟩ := HB7.out.r.facts
          clear hb7
          refine hK.out _ _ (hC7.out.mono (show w.heap.size + 2 ≤ W4.heap.size by have := HB4.out.size; omega)) (fun _ => ?_)
          clear hK K
          try simp only [Act.put, List.setIfInBounds_toArray, List.set_cons_zero, List.set_cons_succ]
          refine wpAnyH_ready (rs := [6]) (by kernel_rfl) (by simp) ?_
          refine AllReadyH.cons rfl (fun K hK => ?_) AllReadyH.nil
          go_simp
          refine hK.out _ _ (((hC7.out.mono (show w.heap.size + 2 ≤ W4.heap.size by have := HB4.out.size; omega)).setCell (show w.heap.size + 2 ≤ w.heap.size + 1 + 1 by omega) _).setCell (show w.heap.size + 2 ≤ w.heap.size + 1 + 1 by omega) _) (fun _ => ?_)
          clear hK K
          try simp only [Act.put, List.setIfInBounds_toArray, List.set_cons_zero, List.set_cons_succ]
          refine wpAnyH_ready (rs := [7]) (by kernel_rfl) (by simp) ?_
          refine AllReadyH.cons rfl (fun K hK => ?_) AllReadyH.nil
          go_simp
          refine hK.out _ _ (((((hC7.out.mono (show w.heap.size + 2 ≤ W4.heap.size by have := HB4.out.size; omega)).setCell (show w.heap.size + 2 ≤ w.heap.size + 1 + 1 by omega) _).setCell (show w.heap.size + 2 ≤ w.heap.size + 1 + 1 by omega) _).setCell (show w.heap.size + 2 ≤ w.heap.size + 1 + 1 + 1 by omega) _).setCell (show w.heap.size + 2 ≤ w.heap.size + 1 + 1 + 1 by omega) _) (fun _ => ?_)
          clear hK K
          try simp only [Act.put, List.setIfInBounds_toArray, List.set_cons_zero, List.set_cons_succ]
          refine wpAnyH_done (by kernel_rfl) ?_ _
          have HB8 := hidden (show Bx4 w ((((w7.setCell ⟨w.heap.size + 1 + 1, 0, none⟩ (.bool n6)).setCell ⟨w.heap.size + 1 + 1, 1, none⟩ (.slice a6 l6.length c6)).setCell ⟨w.heap.size + 1 + 1 + 1, 0, none⟩ (.bool n7)).setCell ⟨w.heap.size + 1 + 1 + 1, 1, none⟩ (.slice a7 l7.length c7)) (.bool na) (.slice ao n ac) (.bool nb) (.slice bo n2 bc) (.bool n6) (.slice a6 l6.length c6) (.bool n7) (.slice a7 l7.length c7) from HB7.out.store (.bool n6) (.slice a6 l6.length c6) (.bool n7) (.slice a7 l7.length c7))
          have HV18 := hidden (show NumAt ((((w7.setCell ⟨w.heap.size + 1 + 1, 0, none⟩ (.bool n6)).setCell ⟨w.heap.size + 1 + 1, 1, none⟩ (.slice a6 l6.length c6)).setCell ⟨w.heap.size + 1 + 1 + 1, 0, none⟩ (.bool n7)).setCell ⟨w.heap.size + 1 + 1 + 1, 1, none⟩ (.slice a7 l7.length c7)) (.agg #[.bool n6, .slice a6 l6.length c6]) (sgnv (!(na == nb)) (val Q) - 1) (max lq 3 + 1) from numAt_two4 HB7.out H67.out)
          have HV28 := hidden (show NumAt ((((w7.setCell ⟨w.heap.size + 1 + 1, 0, none⟩ (.bool n6)).setCell ⟨w.heap.size + 1 + 1, 1, none⟩ (.slice a6 l6.length c6)).setCell ⟨w.heap.size + 1 + 1 + 1, 0, none⟩ (.bool n7)).setCell ⟨w.heap.size + 1 + 1 + 1, 1, none⟩ (.slice a7 l7.length c7)) (.agg #[.bool n7, .slice a7 l7.length c7]) (sgnv nb (val lb) - sgnv nb (val T)) (max m lt + 1) from numAt_two4 HB7.out H7.out)
          clear p0 p1 p2 p3 q0 q1 q2 q3 f0 f1 f2 f3 g0 g1 g2 g3 k0 k1 k2 k3 s0 s1 s2 s3 s4 s5 t0 t1 t2 t3 t4 t5
          generalize ((((w7.setCell ⟨w.heap.size + 1 + 1, 0, none⟩ (.bool n6)).setCell ⟨w.heap.size + 1 + 1, 1, none⟩ (.slice a6 l6.length c6)).setCell ⟨w.heap.size + 1 + 1 + 1, 0, none⟩ (.bool n7)).setCell ⟨w.heap.size + 1 + 1 + 1, 1, none⟩ (.slice a7 l7.length c7)) = W8 at HB8 HV18 HV28 ⊢
          obtain ⟨f0, f1, f2, f3⟩ := HB8.out.q.facts
          obtain ⟨g0, g1, g2, g3⟩ := HB8.out.r.facts
          have HB9 := hidden (show Bx4 w ((((W8.setCell ⟨w.heap.size + 1 + 1, 0, none⟩ (.bool n6)).setCell ⟨w.heap.size + 1 + 1, 1, none⟩ (.slice a6 l6.length c6)).setCell ⟨w.heap.size + 1 + 1 + 1, 0, none⟩ (.bool n7)).setCell ⟨w.heap.size + 1 + 1 + 1, 1, none⟩ (.slice a7 l7.length c7)).drew (.bool na) (.slice ao n ac) (.bool nb) (.slice bo n2 bc) (.bool n6) (.slice a6 l6.length c6) (.bool n7) (.slice a7 l7.length c7) from (HB8.out.store (.bool n6) (.slice a6 l6.length c6) (.bool n7) (.slice a7 l7.length c7)).drew)
          have HV19 := hidden (show NumAt ((((W8.setCell ⟨w.heap.size + 1 + 1, 0, none⟩ (.bool n6)).setCell ⟨w.heap.size + 1 + 1, 1, none⟩ (.slice a6 l6.length c6)).setCell ⟨w.heap.size + 1 + 1 + 1, 0, none⟩ (.bool n7)).setCell ⟨w.heap.size + 1 + 1 + 1, 1, none⟩ (.slice a7 l7.length c7)).drew (.agg #[.bool n6, .slice a6 l6.length c6]) (sgnv (!(na == nb)) (val Q) - 1) (max lq 3 + 1) from (numAt_two4 HB8.out HV18.out).drew)
          have HV29 := hidden (show NumAt ((((W8.setCell ⟨w.heap.size + 1 + 1, 0, none⟩ (.bool n6)).setCell ⟨w.heap.size + 1 + 1, 1, none⟩ (.slice a6 l6.length c6)).setCell ⟨w.heap.size + 1 + 1 + 1, 0, none⟩ (.bool n7)).setCell ⟨w.heap.size + 1 + 1 + 1, 1, none⟩ (.slice a7 l7.length c7)).drew (.agg #[.bool n7, .slice a7 l7.length c7]) (sgnv nb (val lb) - sgnv nb (val T)) (max m lt + 1) from (numAt_two4 HB8.out HV28.out).drew)
          go_wp2
          go_region
          go_wp2
          clear f0 f1 f2 f3 g0 g1 g2 g3
          generalize ((((W8.setCell ⟨w.heap.size + 1 + 1, 0, none⟩ (.bool n6)).setCell ⟨w.heap.size + 1 + 1, 1, none⟩ (.slice a6 l6.length c6)).setCell ⟨w.heap.size + 1 + 1 + 1, 0, none⟩ (.bool n7)).setCell ⟨w.heap.size + 1 + 1 + 1, 1, none⟩ (.slice a7 l7.length c7)).drew = W9 at HB9 HV19 HV29 ⊢
          obtain ⟨f0, f1, _, _⟩ := HB9.out.q.facts
          obtain ⟨g0, g1, _, _⟩ := HB9.out.r.facts
          refine bodyPost_ret (v := .tuple #[(.agg #[.bool n6, .slice a6 l6.length c6]), (.agg #[.bool n7, .slice a7 l7.length c7]), .bool true]) (by simp [results, Tryd.results41, go_sem, f0, f1, g0, g1]) rfl ⟨_, _, _, _, rfl, HV19.out.mono (by omega), HV29.out.mono (by omega), ?_, HB9.out.below⟩
          rw [HVQ.out, HVT.out]
          exact HDM.out
      · go_simp
        refine (of_any 1 _ (by omega) (by omega)).mono ?_
        rintro e w5 ⟨v5, rfl, h5, hb5⟩
        have hC5 := hidden (show Below W4.heap.size W4 w5 from (Below.refl _ _).drew.trans hb5)
        have H5 := hidden h5
        obtain ⟨s0, s1, s2, s3, s4, s5⟩ := HCELL.out w5 hC5.out
        clear h5 hb5
        refine hK.out _ _ (hC5.out.mono (show w.heap.size + 2 ≤ W4.heap.size by have := HB4.out.size; omega)) (fun _ => ?_)
        clear hK K
        try simp only [Act.put, List.setIfInBounds_toArray, List.set_cons_zero, List.set_cons_succ]
        refine wpAnyH_ready (rs := [0, 4]) (by kernel_rfl) (by simp) ?_
        refine (AllReadyH.cons rfl (fun K hK => ?_) (AllReadyH.cons rfl (fun K hK => ?_) AllReadyH.nil))
        · go_simp
          refine hK.out _ _ (hC5.out.mono (show w.heap.size + 2 ≤ W4.heap.size by have := HB4.out.size; omega)) (fun _ => ?_)
          clear hK K
          try simp only [Act.put, List.setIfInBounds_toArray, List.set_cons_zero, List.set_cons_succ]
          refine wpAnyH_ready (rs := [2, 4]) (by kernel_rfl) (by simp) ?_
          refine (AllReadyH.cons rfl (fun K hK => ?_) (AllReadyH.cons rfl (fun K hK => ?_) AllReadyH.nil))
          · go_simp
            refine (HS1.out _ _ H5.out hC5.out).mono ?_
            rintro e w6 ⟨v6, rfl, h6, hb6⟩
            have hC6 := hidden (show Below W4.heap.size W4 w6 from hC5.out.trans (hb6.mono hC5.out.size))
            have H6 := hidden h6
            obtain ⟨n6, a6, c6, l6, rfl, _⟩ := h6
            obtain ⟨t0, t1, t2, t3, t4, t5⟩ := HCELL.out w6 hC6.out
            clear hb6
            refine hK.out _ _ (hC6.out.mono (show w.heap.size + 2 ≤ W4.heap.size by have := HB4.out.size; omega)) (fun _ => ?_)
            clear hK K
            try simp only [Act.put, List.setIfInBounds_toArray, List.set_cons_zero, List.set_cons_succ]
            refine wpAnyH_ready (rs := [4]) (by kernel_rfl) (by simp) ?_
            refine (AllReadyH.cons rfl (fun K hK => ?_) AllReadyH.nil)
            go_simp
            refine hK.out _ _ (hC6.out.mono (show w.heap.size + 2 ≤ W4.heap.size by have := HB4.out.size; omega)) (fun _ => ?_)
            clear hK K
            try simp only [Act.put, List.setIfInBounds_toArray, List.set_cons_zero, List.set_cons_succ]
            refine wpAnyH_ready (rs := [5]) (by kernel_rfl) (by simp) ?_
            refine (AllReadyH.cons rfl (fun K hK => ?_) AllReadyH.nil)
            go_simp
            refine (HS2.out _ hC6.out).mono ?_
            rintro e w7 ⟨v7, rfl, h7, hb7⟩
            have hC7 := hidden (show Below W4.heap.size W4 w7 from hC6.out.trans (hb7.mono hC6.out.size))
            have H67 := hidden (H6.out.below hb7)
            have H7 := hidden h7
            obtain ⟨n7, a7, c7, l7, rfl, _⟩ := h7
            have HB7 := hidden (HB4.out.more hC7.out HB4.out.size)
            obtain ⟨p0, p1, p2, p3⟩ := HB7.out.q.facts
            obtain ⟨q0, q1, q2, q3⟩ := HB7.out.r.facts
            clear hb7
            refine hK.out _ _ (hC7.out.mono (show w.heap.size + 2 ≤ W4.heap.size by have := HB4.out.size; omega)) (fun _ => ?_)
            clear hK K
            try simp only [Act.put, List.setIfInBounds_toArray, List.set_cons_zero, List.set_cons_succ]
            refine wpAnyH_ready (rs := [6]) (by kernel_rfl) (by simp) ?_
            refine AllReadyH.cons rfl (fun K hK => ?_) AllReadyH.nil
            go_simp
            refine hK.out _ _ (((hC7.out.mono (show w.heap.size + 2 ≤ W4.heap.size by have := HB4.out.size; omega)).setCell (show w.heap.size + 2 ≤ w.heap.size + 1 + 1 by omega) _).setCell (show w.heap.size + 2 ≤ w.heap.size + 1 + 1 by omega) _) (fun _ => ?_)
            clear hK K
            try simp only [Act.put, List.setIfInBounds_toArray, List.set_cons_zero, List.set_cons_succ]
            refine wpAnyH_ready (rs := [7]) (by kernel_rfl) (by simp) ?_
            refine AllReadyH.cons rfl (fun K hK => ?_) AllReadyH.nil
            go_simp
            refine hK.out _ _ (((((hC7.out.mono (show w.heap.size + 2 ≤ W4.heap.size by have := HB4.out.size; omega)).setCell (show w.heap.size + 2 ≤ w.heap.size + 1 + 1 by omega) _).setCell (show w.heap.size + 2 ≤ w.heap.size + 1 + 1 by omega) _).setCell (show w.heap.size + 2 ≤ w.heap.size + 1 + 1 + 1 by omega) _).setCell (show w.heap.size + 2 ≤ w.heap.size + 1 + 1 + 1 by omega) _) (fun _ => ?_)
            clear hK K
            try simp only [Act.put, List.setIfInBounds_toArray, List.set_cons_zero, List.set_cons_succ]
            refine wpAnyH_done (by kernel_rfl) ?_ _
            have HB8 := hidden (show Bx4 w ((((w7.setCell ⟨w.heap.size + 1 + 1, 0, none⟩ (.bool n6)).setCell ⟨w.heap.size + 1 + 1, 1, none⟩ (.slice a6 l6.length c6)).setCell ⟨w.heap.size + 1 + 1 + 1, 0, none⟩ (.bool n7)).setCell ⟨w.heap.size + 1 + 1 + 1, 1, none⟩ (.slice a7 l7.length c7)) (.bool na) (.slice ao n ac) (.bool nb) (.slice bo n2 bc) (.bool n6) (.slice a6 l6.length c6) (.bool n7) (.slice a7 l7.length c7) from HB7.out.store (.bool n6) (.slice a6 l6.length c6) (.bool n7) (.slice a7 l7.length c7))
            have HV18 := hidden (show NumAt ((((w7.setCell ⟨w.heap.size + 1 + 1, 0, none⟩ (.bool n6)).setCell ⟨w.heap.size + 1 + 1, 1, none⟩ (.slice a6 l6.length c6)).setCell ⟨w.heap.size + 1 + 1 + 1, 0, none⟩ (.bool n7)).setCell ⟨w.heap.size + 1 + 1 + 1, 1, none⟩ (.slice a7 l7.length c7)) (.agg #[.bool n6, .slice a6 l6.length c6]) (sgnv (!(na == nb)) (val Q) - 1) (max lq 3 + 1) from numAt_two4 HB7.out H67.out)
            have HV28 := hidden (show NumAt ((((w7.setCell ⟨w.heap.size + 1 + 1, 0, none⟩ (.bool n6)).setCell ⟨w.heap.size + 1 + 1, 1, none⟩ (.slice a6 l6.length c6)).setCell ⟨w.heap.size + 1 + 1 + 1, 0, none⟩ (.bool n7)).setCell ⟨w.heap.size + 1 + 1 + 1, 1, none⟩ (.slice a7 l7.length c7)) (.agg #[.bool n7, .slice a7 l7.length c7]) (sgnv nb (val lb) - sgnv nb (val T)) (max m lt + 1) from numAt_two4 HB7.out H7.out)
            clear p0 p1 p2 p3 q0 q1 q2 q3 f0 f1 f2 f3 g0 g1 g2 g3 k0 k1 k2 k3 s0 s1 s2 s3 s4 s5 t0 t1 t2 t3 t4 t5
            generalize ((((w7.setCell ⟨w.heap.size + 1 + 1, 0, none⟩ (.bool n6)).setCell ⟨w.heap.size + 1 + 1, 1, none⟩ (.slice a6 l6.length c6)).setCell ⟨w.heap.size + 1 + 1 + 1, 0, none⟩ (.bool n7)).setCell ⟨w.heap.size + 1 + 1 + 1, 1, none⟩ (.slice a7 l7.length c7)) = W8 at HB8 HV18 HV28 ⊢
            obtain ⟨f0, f1, f2, f3⟩ := HB8.out.q.facts
            obtain ⟨g0, g1, g2, g3⟩ := HB8.out.r.facts
            have HB9 := hidden (show Bx4 w ((((W8.setCell ⟨w.heap.size + 1 + 1, 0, none⟩ (.bool n6)).setCell ⟨w.heap.size + 1 + 1, 1, none⟩ (.slice a6 l6.length c6)).setCell ⟨w.heap.size + 1 + 1 + 1, 0, none⟩ (.bool n7)).setCell ⟨w.heap.size + 1 + 1 + 1, 1, none⟩ (.slice a7 l7.length c7)).drew (.bool na) (.slice ao n ac) (.bool nb) (.slice bo n2 bc) (.bool n6) (.slice a6 l6.length c6) (.bool n7) (.slice a7 l7.length c7) from (HB8.out.store (.bool n6) (.slice a6 l6.length c6) (.bool n7) (.slice a7 l7.length c7)).drew)
            have HV19 := hidden (show NumAt ((((W8.setCell ⟨w.heap.size + 1 + 1, 0, none⟩ (.bool n6)).setCell ⟨w.heap.size + 1 + 1, 1, none⟩ (.slice a6 l6.length c6)).setCell ⟨w.heap.size + 1 + 1 + 1, 0, none⟩ (.bool n7)).setCell ⟨w.heap.size + 1 + 1 + 1, 1, none⟩ (.slice a7 l7.length c7)).drew (.agg #[.bool n6, .slice a6 l6.length c6]) (sgnv (!(na == nb)) (val Q) - 1) (max lq 3 + 1) from (numAt_two4 HB8.out HV18.out).drew)
            have HV29 := hidden (show NumAt ((((W8.setCell ⟨w.heap.size + 1 + 1, 0, none⟩ (.bool n6)).setCell ⟨w.heap.size + 1 + 1, 1, none⟩ (.slice a6 l6.length c6)).setCell ⟨w.heap.size + 1 + 1 + 1, 0, none⟩ (.bool n7)).setCell ⟨w.heap.size + 1 + 1 + 1, 1, none⟩ (.slice a7 l7.length c7)).drew (.agg #[.bool n7, .slice a7 l7.length c7]) (sgnv nb (val lb) - sgnv nb (val T)) (max m lt + 1) from (numAt_two4 HB8.out HV28.out).drew)
            go_wp2
            go_region
            go_wp2
            clear f0 f1 f2 f3 g0 g1 g2 g3
            generalize ((((W8.setCell ⟨w.heap.size + 1 + 1, 0, none⟩ (.bool n6)).setCell ⟨w.heap.size + 1 + 1, 1, none⟩ (.slice a6 l6.length c6)).setCell ⟨w.heap.size + 1 + 1 + 1, 0, none⟩ (.bool n7)).setCell ⟨w.heap.size + 1 + 1 + 1, 1, none⟩ (.slice a7 l7.length c7)).drew = W9 at HB9 HV19 HV29 ⊢
            obtain ⟨f0, f1, _, _⟩ := HB9.out.q.facts
            obtain ⟨g0, g1, _, _⟩ := HB9.out.r.facts
            refine bodyPost_ret (v := .tuple #[(.agg #[.bool n6, .slice a6 l6.length c6]), (.agg #[.bool n7, .slice a7 l7.length c7]), .bool true]) (by simp [results, Tryd.results41, go_sem, f0, f1, g0, g1]) rfl ⟨_, _, _, _, rfl, HV19.out.mono (by omega), HV29.out.mono (by omega), ?_, HB9.out.below⟩
            rw [HVQ.out, HVT.out]
            exact HDM.out
          · go_simp
            refine hK.out _ _ (hC5.out.mono (show w.heap.size + 2 ≤ W4.heap.size by have := HB4.out.size; omega)) (fun _ => ?_)
            clear hK K
            try simp only [Act.put, List.setIfInBounds_toArray, List.set_cons_zero, List.set_cons_succ]
            refine wpAnyH_ready (rs := [2]) (by kernel_rfl) (by simp) ?_
            refine (AllReadyH.cons rfl (fun K hK => ?_) AllReadyH.nil)
            go_simp
            refine (HS1.out _ _ H5.out hC5.out).mono ?_
            rintro e w6 ⟨v6, rfl, h6, hb6⟩
            have hC6 := hidden (show Below W4.heap.size W4 w6 from hC5.out.trans (hb6.mono hC5.out.size))
            have H6 := hidden h6
            obtain ⟨n6, a6, c6, l6, rfl, _⟩ := h6
            obtain ⟨t0, t1, t2, t3, t4, t5⟩ := HCELL.out w6 hC6.out
            clear hb6
            refine hK.out _ _ (hC6.out.mono (show w.heap.size + 2 ≤ W4.heap.size by have := HB4.out.size; omega)) (fun _ => ?_)
            clear hK K
            try simp only [Act.put, List.setIfInBounds_toArray, List.set_cons_zero, List.set_cons_succ]
            refine wpAnyH_ready (rs := [5]) (by kernel_rfl) (by simp) ?_
            refine (AllReadyH.cons rfl (fun K hK => ?_) AllReadyH.nil)
            go_simp
            refine (HS2.out _ hC6.out).mono ?_
            rintro e w7 ⟨v7, rfl, h7, hb7⟩
            have hC7 := hidden (show Below W4.heap.size W4 w7 from hC6.out.trans (hb7.mono hC6.out.size))
            have H67 := hidden (H6.out.below hb7)
            have H7 := hidden h7
            obtain ⟨n7, a7, c7, l7, rfl, _⟩ := h7
            have HB7 := hidden (HB4.out.more hC7.out HB4.out.size)
            obtain ⟨p0, p1, p2, p3⟩ := HB7.out.q.facts
            obtain ⟨q0, q1, q2, q3⟩ := HB7.out.r.facts
            clear hb7
            refine hK.out _ _ (hC7.out.mono (show w.heap.size + 2 ≤ W4.heap.size by have := HB4.out.size; omega)) (fun _ => ?_)
            clear hK K
            try simp only [Act.put, List.setIfInBounds_toArray, List.set_cons_zero, List.set_cons_succ]
            refine wpAnyH_ready (rs := [6]) (by kernel_rfl) (by simp) ?_
            refine AllReadyH.cons rfl (fun K hK => ?_) AllReadyH.nil
            go_simp
            refine hK.out _ _ (((hC7.out.mono (show w.heap.size + 2 ≤ W4.heap.size by have := HB4.out.size; omega)).setCell (show w.heap.size + 2 ≤ w.heap.size + 1 + 1 by omega) _).setCell (show w.heap.size + 2 ≤ w.heap.size + 1 + 1 by omega) _) (fun _ => ?_)
            clear hK K
            try simp only [Act.put, List.setIfInBounds_toArray, List.set_cons_zero, List.set_cons_succ]
            refine wpAnyH_ready (rs := [7]) (by kernel_rfl) (by simp) ?_
            refine AllReadyH.cons rfl (fun K hK => ?_) AllReadyH.nil
            go_simp
            refine hK.out _ _ (((((hC7.out.mono (show w.heap.size + 2 ≤ W4.heap.size by have := HB4.out.size; omega)).setCell (show w.heap.size + 2 ≤ w.heap.size + 1 + 1 by omega) _).setCell (show w.heap.size + 2 ≤ w.heap.size + 1 + 1 by omega) _).setCell (show w.heap.size + 2 ≤ w.heap.size + 1 + 1 + 1 by omega) _).setCell (show w.heap.size + 2 ≤ w.heap.size + 1 + 1 + 1 by omega) _) (fun _ => ?_)
            clear hK K
            try simp only [Act.put, List.setIfInBounds_toArray, List.set_cons_zero, List.set_cons_succ]
            refine wpAnyH_done (by kernel_rfl) ?_ _
            have HB8 := hidden (show Bx4 w ((((w7.setCell ⟨w.heap.size + 1 + 1, 0, none⟩ (.bool n6)).setCell ⟨w.heap.size + 1 + 1, 1, none⟩ (.slice a6 l6.length c6)).setCell ⟨w.heap.size + 1 + 1 + 1, 0, none⟩ (.bool n7)).setCell ⟨w.heap.size + 1 + 1 + 1, 1, none⟩ (.slice a7 l7.length c7)) (.bool na) (.slice ao n ac) (.bool nb) (.slice bo n2 bc) (.bool n6) (.slice a6 l6.length c6) (.bool n7) (.slice a7 l7.length c7) from HB7.out.store (.bool n6) (.slice a6 l6.length c6) (.bool n7) (.slice a7 l7.length c7))
            have HV18 := hidden (show NumAt ((((w7.setCell ⟨w.heap.size + 1 + 1, 0, none⟩ (.bool n6)).setCell ⟨w.heap.size + 1 + 1, 1, none⟩ (.slice a6 l6.length c6)).setCell ⟨w.heap.size + 1 + 1 + 1, 0, none⟩ (.bool n7)).setCell ⟨w.heap.size + 1 + 1 + 1, 1, none⟩ (.slice a7 l7.length c7)) (.agg #[.bool n6, .slice a6 l6.length c6]) (sgnv (!(na == nb)) (val Q) - 1) (max lq 3 + 1) from numAt_two4 HB7.out H67.out)
            have HV28 := hidden (show NumAt ((((w7.setCell ⟨w.heap.size + 1 + 1, 0, none⟩ (.bool n6)).setCell ⟨w.heap.size + 1 + 1, 1, none⟩ (.slice a6 l6.length c6)).setCell ⟨w.heap.size + 1 + 1 + 1, 0, none⟩ (.bool n7)).setCell ⟨w.heap.size + 1 + 1 + 1, 1, none⟩ (.slice a7 l7.length c7)) (.agg #[.bool n7, .slice a7 l7.length c7]) (sgnv nb (val lb) - sgnv nb (val T)) (max m lt + 1) from numAt_two4 HB7.out H7.out)
            clear p0 p1 p2 p3 q0 q1 q2 q3 f0 f1 f2 f3 g0 g1 g2 g3 k0 k1 k2 k3 s0 s1 s2 s3 s4 s5 t0 t1 t2 t3 t4 t5
            generalize ((((w7.setCell ⟨w.heap.size + 1 + 1, 0, none⟩ (.bool n6)).setCell ⟨w.heap.size + 1 + 1, 1, none⟩ (.slice a6 l6.length c6)).setCell ⟨w.heap.size + 1 + 1 + 1, 0, none⟩ (.bool n7)).setCell ⟨w.heap.size + 1 + 1 + 1, 1, none⟩ (.slice a7 l7.length c7)) = W8 at HB8 HV18 HV28 ⊢
            obtain ⟨f0, f1, f2, f3⟩ := HB8.out.q.facts
            obtain ⟨g0, g1, g2, g3⟩ := HB8.out.r.facts
            have HB9 := hidden (show Bx4 w ((((W8.setCell ⟨w.heap.size + 1 + 1, 0, none⟩ (.bool n6)).setCell ⟨w.heap.size + 1 + 1, 1, none⟩ (.slice a6 l6.length c6)).setCell ⟨w.heap.size + 1 + 1 + 1, 0, none⟩ (.bool n7)).setCell ⟨w.heap.size + 1 + 1 + 1, 1, none⟩ (.slice a7 l7.length c7)).drew (.bool na) (.slice ao n ac) (.bool nb) (.slice bo n2 bc) (.bool n6) (.slice a6 l6.length c6) (.bool n7) (.slice a7 l7.length c7) from (HB8.out.store (.bool n6) (.slice a6 l6.length c6) (.bool n7) (.slice a7 l7.length c7)).drew)
            have HV19 := hidden (show NumAt ((((W8.setCell ⟨w.heap.size + 1 + 1, 0, none⟩ (.bool n6)).setCell ⟨w.heap.size + 1 + 1, 1, none⟩ (.slice a6 l6.length c6)).setCell ⟨w.heap.size + 1 + 1 + 1, 0, none⟩ (.bool n7)).setCell ⟨w.heap.size + 1 + 1 + 1, 1, none⟩ (.slice a7 l7.length c7)).drew (.agg #[.bool n6, .slice a6 l6.length c6]) (sgnv (!(na == nb)) (val Q) - 1) (max lq 3 + 1) from (numAt_two4 HB8.out HV18.out).drew)
            have HV29 := hidden (show NumAt ((((W8.setCell ⟨w.heap.size + 1 + 1, 0, none⟩ (.bool n6)).setCell ⟨w.heap.size + 1 + 1, 1, none⟩ (.slice a6 l6.length c6)).setCell ⟨w.heap.size + 1 + 1 + 1, 0, none⟩ (.bool n7)).setCell ⟨w.heap.size + 1 + 1 + 1, 1, none⟩ (.slice a7 l7.length c7)).drew (.agg #[.bool n7, .slice a7 l7.length c7]) (sgnv nb (val lb) - sgnv nb (val T)) (max m lt + 1) from (numAt_two4 HB8.out HV28.out).drew)
            go_wp2
            go_region
            go_wp2
            clear f0 f1 f2 f3 g0 g1 g2 g3
            generalize ((((W8.setCell ⟨w.heap.size + 1 + 1, 0, none⟩ (.bool n6)).setCell ⟨w.heap.size + 1 + 1, 1, none⟩ (.slice a6 l6.length c6)).setCell ⟨w.heap.size + 1 + 1 + 1, 0, none⟩ (.bool n7)).setCell ⟨w.heap.size + 1 + 1 + 1, 1, none⟩ (.slice a7 l7.length c7)).drew = W9 at HB9 HV19 HV29 ⊢
            obtain ⟨f0, f1, _, _⟩ := HB9.out.q.facts
            obtain ⟨g0, g1, _, _⟩ := HB9.out.r.facts
            refine bodyPost_ret (v := .tuple #[(.agg #[.bool n6, .slice a6 l6.length c6]), (.agg #[.bool n7, .slice a7 l7.length c7]), .bool true]) (by simp [results, Tryd.results41, go_sem, f0, f1, g0, g1]) rfl ⟨_, _, _, _, rfl, HV19.out.mono (by omega), HV29.out.mono (by omega), ?_, HB9.out.below⟩
            rw [HVQ.out, HVT.out]
            exact HDM.out
        · go_simp
          refine hK.out _ _ (hC5.out.mono (show w.heap.size + 2 ≤ W4.heap.size by have := HB4.out.size; omega)) (fun _ => ?_)
          clear hK K
          try simp only [Act.put, List.setIfInBounds_toArray, List.set_cons_zero, List.set_cons_succ]
          refine wpAnyH_ready (rs := [0]) (by kernel_rfl) (by simp) ?_
          refine (AllReadyH.cons rfl (fun K hK => ?_) AllReadyH.nil)
          go_simp
          refine hK.out _ _ (hC5.out.mono (show w.heap.size + 2 ≤ W4.heap.size by have := HB4.out.size; omega)) (fun _ => ?_)
          clear hK K
          try simp only [Act.put, List.setIfInBounds_toArray, List.set_cons_zero, List.set_cons_succ]
          refine wpAnyH_ready (rs := [2]) (by kernel_rfl) (by simp) ?_
          refine (AllReadyH.cons rfl (fun K hK => ?_) AllReadyH.nil)
          go_simp
          refine (HS1.out _ _ H5.out hC5.out).mono ?_
          rintro e w6 ⟨v6, rfl, h6, hb6⟩
          have hC6 := hidden (show Below W4.heap.size W4 w6 from hC5.out.trans (hb6.mono hC5.out.size))
          have H6 := hidden h6
          obtain ⟨n6, a6, c6, l6, rfl, _⟩ := h6
          obtain ⟨t0, t1, t2, t3, t4, t5⟩ := HCELL.out w6 hC6.out
          clear hb6
          refine hK.out _ _ (hC6.out.mono (show w.heap.size + 2 ≤ W4.heap.size by have := HB4.out.size; omega)) (fun _ => ?_)
          clear hK K
          try simp only [Act.put, List.setIfInBounds_toArray, List.set_cons_zero, List.set_cons_succ]
          refine wpAnyH_ready (rs := [5]) (by kernel_rfl) (by simp) ?_
          refine (AllReadyH.cons rfl (fun K hK => ?_) AllReadyH.nil)
          go_simp
          refine (HS2.out _ hC6.out).mono ?_
          rintro e w7 ⟨v7, rfl, h7, hb7⟩
          have hC7 := hidden (show Below W4.heap.size W4 w7 from hC6.out.trans (hb7.mono hC6.out.size))
          have H67 := hidden (H6.out.below hb7)
          have H7 := hidden h7
          obtain ⟨n7, a7, c7, l7, rfl, _⟩ := h7
          have HB7 := hidden (HB4.out.more hC7.out HB4.out.size)
          obtain ⟨p0, p1, p2, p3⟩ := HB7.out.q.facts
          obtain ⟨q0, q1, q2, q3⟩ := HB7.out.r.facts
          clear hb7
          refine hK.out _ _ (hC7.out.mono (show w.heap.size + 2 ≤ W4.heap.size by have := HB4.out.size; omega)) (fun _ => ?_)
          clear hK K
          try simp only [Act.put, List.setIfInBounds_toArray, List.set_cons_zero, List.set_cons_succ]
          refine wpAnyH_ready (rs := [6]) (by kernel_rfl) (by simp) ?_
          refine AllReadyH.cons rfl (fun K hK => ?_) AllReadyH.nil
          go_simp
          refine hK.out _ _ (((hC7.out.mono (show w.heap.size + 2 ≤ W4.heap.size by have := HB4.out.size; omega)).setCell (show w.heap.size + 2 ≤ w.heap.size + 1 + 1 by omega) _).setCell (show w.heap.size + 2 ≤ w.heap.size + 1 + 1 by omega) _) (fun _ => ?_)
          clear hK K
          try simp only [Act.put, List.setIfInBounds_toArray, List.set_cons_zero, List.set_cons_succ]
          refine wpAnyH_ready (rs := [7]) (by kernel_rfl) (by simp) ?_
          refine AllReadyH.cons rfl (fun K hK => ?_) AllReadyH.nil
          go_simp
          refine hK.out _ _ (((((hC7.out.mono (show w.heap.size + 2 ≤ W4.heap.size by have := HB4.out.size; omega)).setCell (show w.heap.size + 2 ≤ w.heap.size + 1 + 1 by omega) _).setCell (show w.heap.size + 2 ≤ w.heap.size + 1 + 1 by omega) _).setCell (show w.heap.size + 2 ≤ w.heap.size + 1 + 1 + 1 by omega) _).setCell (show w.heap.size + 2 ≤ w.heap.size + 1 + 1 + 1 by omega) _) (fun _ => ?_)
          clear hK K
          try simp only [Act.put, List.setIfInBounds_toArray, List.set_cons_zero, List.set_cons_succ]
          refine wpAnyH_done (by kernel_rfl) ?_ _
          have HB8 := hidden (show Bx4 w ((((w7.setCell ⟨w.heap.size + 1 + 1, 0, none⟩ (.bool n6)).setCell ⟨w.heap.size + 1 + 1, 1, none⟩ (.slice a6 l6.length c6)).setCell ⟨w.heap.size + 1 + 1 + 1, 0, none⟩ (.bool n7)).setCell ⟨w.heap.size + 1 + 1 + 1, 1, none⟩ (.slice a7 l7.length c7)) (.bool na) (.slice ao n ac) (.bool nb) (.slice bo n2 bc) (.bool n6) (.slice a6 l6.length c6) (.bool n7) (.slice a7 l7.length c7) from HB7.out.store (.bool n6) (.slice a6 l6.length c6) (.bool n7) (.slice a7 l7.length c7))
          have HV18 := hidden (show NumAt ((((w7.setCell ⟨w.heap.size + 1 + 1, 0, none⟩ (.bool n6)).setCell ⟨w.heap.size + 1 + 1, 1, none⟩ (.slice a6 l6.length c6)).setCell ⟨w.heap.size + 1 + 1 + 1, 0, none⟩ (.bool n7)).setCell ⟨w.heap.size + 1 + 1 + 1, 1, none⟩ (.slice a7 l7.length c7)) (.agg #[.bool n6, .slice a6 l6.length c6]) (sgnv (!(na == nb)) (val Q) - 1) (max lq 3 + 1) from numAt_two4 HB7.out H67.out)
          have HV28 := hidden (show NumAt ((((w7.setCell ⟨w.heap.size + 1 + 1, 0, none⟩ (.bool n6)).setCell ⟨w.heap.size + 1 + 1, 1, none⟩ (.slice a6 l6.length c6)).setCell ⟨w.heap.size + 1 + 1 + 1, 0, none⟩ (.bool n7)).setCell ⟨w.heap.size + 1 + 1 + 1, 1, none⟩ (.slice a7 l7.length c7)) (.agg #[.bool n7, .slice a7 l7.length c7]) (sgnv nb (val lb) - sgnv nb (val T)) (max m lt + 1) from numAt_two4 HB7.out H7.out)
          clear p0 p1 p2 p3 q0 q1 q2 q3 f0 f1 f2 f3 g0 g1 g2 g3 k0 k1 k2 k3 s0 s1 s2 s3 s4 s5 t0 t1 t2 t3 t4 t5
          generalize ((((w7.setCell ⟨w.heap.size + 1 + 1, 0, none⟩ (.bool n6)).setCell ⟨w.heap.size + 1 + 1, 1, none⟩ (.slice a6 l6.length c6)).setCell ⟨w.heap.size + 1 + 1 + 1, 0, none⟩ (.bool n7)).setCell ⟨w.heap.size + 1 + 1 + 1, 1, none⟩ (.slice a7 l7.length c7)) = W8 at HB8 HV18 HV28 ⊢
          obtain ⟨f0, f1, f2, f3⟩ := HB8.out.q.facts
          obtain ⟨g0, g1, g2, g3⟩ := HB8.out.r.facts
          have HB9 := hidden (show Bx4 w ((((W8.setCell ⟨w.heap.size + 1 + 1, 0, none⟩ (.bool n6)).setCell ⟨w.heap.size + 1 + 1, 1, none⟩ (.slice a6 l6.length c6)).setCell ⟨w.heap.size + 1 + 1 + 1, 0, none⟩ (.bool n7)).setCell ⟨w.heap.size + 1 + 1 + 1, 1, none⟩ (.slice a7 l7.length c7)).drew (.bool na) (.slice ao n ac) (.bool nb) (.slice bo n2 bc) (.bool n6) (.slice a6 l6.length c6) (.bool n7) (.slice a7 l7.length c7) from (HB8.out.store (.bool n6) (.slice a6 l6.length c6) (.bool n7) (.slice a7 l7.length c7)).drew)
          have HV19 := hidden (show NumAt ((((W8.setCell ⟨w.heap.size + 1 + 1, 0, none⟩ (.bool n6)).setCell ⟨w.heap.size + 1 + 1, 1, none⟩ (.slice a6 l6.length c6)).setCell ⟨w.heap.size + 1 + 1 + 1, 0, none⟩ (.bool n7)).setCell ⟨w.heap.size + 1 + 1 + 1, 1, none⟩ (.slice a7 l7.length c7)).drew (.agg #[.bool n6, .slice a6 l6.length c6]) (sgnv (!(na == nb)) (val Q) - 1) (max lq 3 + 1) from (numAt_two4 HB8.out HV18.out).drew)
          have HV29 := hidden (show NumAt ((((W8.setCell ⟨w.heap.size + 1 + 1, 0, none⟩ (.bool n6)).setCell ⟨w.heap.size + 1 + 1, 1, none⟩ (.slice a6 l6.length c6)).setCell ⟨w.heap.size + 1 + 1 + 1, 0, none⟩ (.bool n7)).setCell ⟨w.heap.size + 1 + 1 + 1, 1, none⟩ (.slice a7 l7.length c7)).drew (.agg #[.bool n7, .slice a7 l7.length c7]) (sgnv nb (val lb) - sgnv nb (val T)) (max m lt + 1) from (numAt_two4 HB8.out HV28.out).drew)
          go_wp2
          go_region
          go_wp2
          clear f0 f1 f2 f3 g0 g1 g2 g3
          generalize ((((W8.setCell ⟨w.heap.size + 1 + 1, 0, none⟩ (.bool n6)).setCell ⟨w.heap.size + 1 + 1, 1, none⟩ (.slice a6 l6.length c6)).setCell ⟨w.heap.size + 1 + 1 + 1, 0, none⟩ (.bool n7)).setCell ⟨w.heap.size + 1 + 1 + 1, 1, none⟩ (.slice a7 l7.length c7)).drew = W9 at HB9 HV19 HV29 ⊢
          obtain ⟨f0, f1, _, _⟩ := HB9.out.q.facts
          obtain ⟨g0, g1, _, _⟩ := HB9.out.r.facts
          refine bodyPost_ret (v := .tuple #[(.agg #[.bool n6, .slice a6 l6.length c6]), (.agg #[.bool n7, .slice a7 l7.length c7]), .bool true]) (by simp [results, Tryd.results41, go_sem, f0, f1, g0, g1]) rfl ⟨_, _, _, _, rfl, HV19.out.mono (by omega), HV29.out.mono (by omega), ?_, HB9.out.below⟩
          rw [HVQ.out, HVT.out]
          exact HDM.out
      · go_simp
        refine hK.out _ _ (hC4.out.mono (show w.heap.size + 2 ≤ W4.heap.size by have := HB4.out.size; omega)) (fun _ => ?_)
        clear hK K
        try simp only [Act.put, List.setIfInBounds_toArray, List.set_cons_zero, List.set_cons_succ]
        refine wpAnyH_ready (rs := [0, 1]) (by kernel_rfl) (by simp) ?_
        refine (AllReadyH.cons rfl (fun K hK => ?_) (AllReadyH.cons rfl (fun K hK => ?_) AllReadyH.nil))
        · go_simp
          refine hK.out _ _ (hC4.out.mono (show w.heap.size + 2 ≤ W4.heap.size by have := HB4.out.size; omega)) (fun _ => ?_)
          clear hK K
          try simp only [Act.put, List.setIfInBounds_toArray, List.set_cons_zero, List.set_cons_succ]
          refine wpAnyH_ready (rs := [1]) (by kernel_rfl) (by simp) ?_
          refine (AllReadyH.cons rfl (fun K hK => ?_) AllReadyH.nil)
          go_simp
          refine (of_any 1 _ (by omega) (by omega)).mono ?_
          rintro e w5 ⟨v5, rfl, h5, hb5⟩
          have hC5 := hidden (show Below W4.heap.size W4 w5 from (Below.refl _ _).drew.trans hb5)
          have H5 := hidden h5
          obtain ⟨s0, s1, s2, s3, s4, s5⟩ := HCELL.out w5 hC5.out
          clear h5 hb5
          refine hK.out _ _ (hC5.out.mono (show w.heap.size + 2 ≤ W4.heap.size by have := HB4.out.size; omega)) (fun _ => ?_)
          clear hK K
          try simp only [Act.put, List.setIfInBounds_toArray, List.set_cons_zero, List.set_cons_succ]
          refine wpAnyH_ready (rs := [2]) (by kernel_rfl) (by simp) ?_
          refine (AllReadyH.cons rfl (fun K hK => ?_) AllReadyH.nil)
          go_simp
          refine (HS1.out _ _ H5.out hC5.out).mono ?_
          rintro e w6 ⟨v6, rfl, h6, hb6⟩
          have hC6 := hidden (show Below W4.heap.size W4 w6 from hC5.out.trans (hb6.mono hC5.out.size))
          have H6 := hidden h6
          obtain ⟨n6, a6, c6, l6, rfl, _⟩ := h6
          obtain ⟨t0, t1, t2, t3, t4, t5⟩ := HCELL.out w6 hC6.out
          clear hb6
          refine hK.out _ _ (hC6.out.mono (show w.heap.size + 2 ≤ W4.heap.size by have := HB4.out.size; omega)) (fun _ => ?_)
          clear hK K
          try simp only [Act.put, List.setIfInBounds_toArray, List.set_cons_zero, List.set_cons_succ]
          refine wpAnyH_ready (rs := [5]) (by kernel_rfl) (by simp) ?_
          refine (AllReadyH.cons rfl (fun K hK => ?_) AllReadyH.nil)
          go_simp
          refine (HS2.out _ hC6.out).mono ?_
          rintro e w7 ⟨v7, rfl, h7, hb7⟩
          have hC7 := hidden (show Below W4.heap.size W4 w7 from hC6.out.trans (hb7.mono hC6.out.size))
          have H67 := hidden (H6.out.below hb7)
          have H7 := hidden h7
          obtain ⟨n7, a7, c7, l7, rfl, _⟩ := h7
          have HB7 := hidden (HB4.out.more hC7.out HB4.out.size)
          obtain ⟨p0, p1, p2, p3⟩ := HB7.out.q.facts
          obtain ⟨q0, q1, q2, q3⟩ := HB7.out.r.facts
          clear hb7
          refine hK.out _ _ (hC7.out.mono (show w.heap.size + 2 ≤ W4.heap.size by have := HB4.out.size; omega)) (fun _ => ?_)
          clear hK K
          try simp only [Act.put, List.setIfInBounds_toArray, List.set_cons_zero, List.set_cons_succ]
          refine wpAnyH_ready (rs := [6]) (by kernel_rfl) (by simp) ?_
          refine AllReadyH.cons rfl (fun K hK => ?_) AllReadyH.nil
          go_simp
          refine hK.out _ _ (((hC7.out.mono (show w.heap.size + 2 ≤ W4.heap.size by have := HB4.out.size; omega)).setCell (show w.heap.size + 2 ≤ w.heap.size + 1 + 1 by omega) _).setCell (show w.heap.size + 2 ≤ w.heap.size + 1 + 1 by omega) _) (fun _ => ?_)
          clear hK K
          try simp only [Act.put, List.setIfInBounds_toArray, List.set_cons_zero, List.set_cons_succ]
          refine wpAnyH_ready (rs := [7]) (by kernel_rfl) (by simp) ?_
          refine AllReadyH.cons rfl (fun K hK => ?_) AllReadyH.nil
          go_simp
          refine hK.out _ _ (((((hC7.out.mono (show w.heap.size + 2 ≤ W4.heap.size by have := HB4.out.size; omega)).setCell (show w.heap.size + 2 ≤ w.heap.size + 1 + 1 by omega) _).setCell (show w.heap.size + 2 ≤ w.heap.size + 1 + 1 by omega) _).setCell (show w.heap.size + 2 ≤ w.heap.size + 1 + 1 + 1 by omega) _).setCell (show w.heap.size + 2 ≤ w.heap.size + 1 + 1 + 1 by omega) _) (fun _ => ?_)
          clear hK K
          try simp only [Act.put, List.setIfInBounds_toArray, List.set_cons_zero, List.set_cons_succ]
          refine wpAnyH_done (by kernel_rfl) ?_ _
          have HB8 := hidden (show Bx4 w ((((w7.setCell ⟨w.heap.size + 1 + 1, 0, none⟩ (.bool n6)).setCell ⟨w.heap.size + 1 + 1, 1, none⟩ (.slice a6 l6.length c6)).setCell ⟨w.heap.size + 1 + 1 + 1, 0, none⟩ (.bool n7)).setCell ⟨w.heap.size + 1 + 1 + 1, 1, none⟩ (.slice a7 l7.length c7)) (.bool na) (.slice ao n ac) (.bool nb) (.slice bo n2 bc) (.bool n6) (.slice a6 l6.length c6) (.bool n7) (.slice a7 l7.length c7) from HB7.out.store (.bool n6) (.slice a6 l6.length c6) (.bool n7) (.slice a7 l7.length c7))
          have HV18 := hidden (show NumAt ((((w7.setCell ⟨w.heap.size + 1 + 1, 0, none⟩ (.bool n6)).setCell ⟨w.heap.size + 1 + 1, 1, none⟩ (.slice a6 l6.length c6)).setCell ⟨w.heap.size + 1 + 1 + 1, 0, none⟩ (.bool n7)).setCell ⟨w.heap.size + 1 + 1 + 1, 1, none⟩ (.slice a7 l7.length c7)) (.agg #[.bool n6, .slice a6 l6.length c6]) (sgnv (!(na == nb)) (val Q) - 1) (max lq 3 + 1) from numAt_two4 HB7.out H67.out)
          have HV28 := hidden (show NumAt ((((w7.setCell ⟨w.heap.size + 1 + 1, 0, none⟩ (.bool n6)).setCell ⟨w.heap.size + 1 + 1, 1, none⟩ (.slice a6 l6.length c6)).setCell ⟨w.heap.size + 1 + 1 + 1, 0, none⟩ (.bool n7)).setCell ⟨w.heap.size + 1 + 1 + 1, 1, none⟩ (.slice a7 l7.length c7)) (.agg #[.bool n7, .slice a7 l7.length c7]) (sgnv nb (val lb) - sgnv nb (val T)) (max m lt + 1) from numAt_two4 HB7.out H7.out)
          clear p0 p1 p2 p3 q0 q1 q2 q3 f0 f1 f2 f3 g0 g1 g2 g3 k0 k1 k2 k3 s0 s1 s2 s3 s4 s5 t0 t1 t2 t3 t4 t5
          generalize ((((w7.setCell ⟨w.heap.size + 1 + 1, 0, none⟩ (.bool n6)).setCell ⟨w.heap.size + 1 + 1, 1, none⟩ (.slice a6 l6.length c6)).setCell ⟨w.heap.size + 1 + 1 + 1, 0, none⟩ (.bool n7)).setCell ⟨w.heap.size + 1 + 1 + 1, 1, none⟩ (.slice a7 l7.length c7)) = W8 at HB8 HV18 HV28 ⊢
          obtain ⟨f0, f1, f2, f3⟩ := HB8.out.q.facts
          obtain ⟨g0, g1, g2, g3⟩ := HB8.out.r.facts
          have HB9 := hidden (show Bx4 w ((((W8.setCell ⟨w.heap.size + 1 + 1, 0, none⟩ (.bool n6)).setCell ⟨w.heap.size + 1 + 1, 1, none⟩ (.slice a6 l6.length c6)).setCell ⟨w.heap.size + 1 + 1 + 1, 0, none⟩ (.bool n7)).setCell ⟨w.heap.size + 1 + 1 + 1, 1, none⟩ (.slice a7 l7.length c7)).drew (.bool na) (.slice ao n ac) (.bool nb) (.slice bo n2 bc) (.bool n6) (.slice a6 l6.length c6) (.bool n7) (.slice a7 l7.length c7) from (HB8.out.store (.bool n6) (.slice a6 l6.length c6) (.bool n7) (.slice a7 l7.length c7)).drew)
          have HV19 := hidden (show NumAt ((((W8.setCell ⟨w.heap.size + 1 + 1, 0, none⟩ (.bool n6)).setCell ⟨w.heap.size + 1 + 1, 1, none⟩ (.slice a6 l6.length c6)).setCell ⟨w.heap.size + 1 + 1 + 1, 0, none⟩ (.bool n7)).setCell ⟨w.heap.size + 1 + 1 + 1, 1, none⟩ (.slice a7 l7.length c7)).drew (.agg #[.bool n6, .slice a6 l6.length c6]) (sgnv (!(na == nb)) (val Q) - 1) (max lq 3 + 1) from (numAt_two4 HB8.out HV18.out).drew)
          have HV29 := hidden (show NumAt ((((W8.setCell ⟨w.heap.size + 1 + 1, 0, none⟩ (.bool n6)).setCell ⟨w.heap.size + 1 + 1, 1, none⟩ (.slice a6 l6.length c6)).setCell ⟨w.heap.size + 1 + 1 + 1, 0, none⟩ (.bool n7)).setCell ⟨w.heap.size + 1 + 1 + 1, 1, none⟩ (.slice a7 l7.length c7)).drew (.agg #[.bool n7, .slice a7 l7.length c7]) (sgnv nb (val lb) - sgnv nb (val T)) (max m lt + 1) from (numAt_two4 HB8.out HV28.out).drew)
          go_wp2
          go_region
          go_wp2
          clear f0 f1 f2 f3 g0 g1 g2 g3
          generalize ((((W8.setCell ⟨w.heap.size + 1 + 1, 0, none⟩ (.bool n6)).setCell ⟨w.heap.size + 1 + 1, 1, none⟩ (.slice a6 l6.length c6)).setCell ⟨w.heap.size + 1 + 1 + 1, 0, none⟩ (.bool n7)).setCell ⟨w.heap.size + 1 + 1 + 1, 1, none⟩ (.slice a7 l7.length c7)).drew = W9 at HB9 HV19 HV29 ⊢
          obtain ⟨f0, f1, _, _⟩ := HB9.out.q.facts
          obtain ⟨g0, g1, _, _⟩ := HB9.out.r.facts
          refine bodyPost_ret (v := .tuple #[(.agg #[.bool n6, .slice a6 l6.length c6]), (.agg #[.bool n7, .slice a7 l7.length c7]), .bool true]) (by simp [results, Tryd.results41, go_sem, f0, f1, g0, g1]) rfl ⟨_, _, _, _, rfl, HV19.out.mono (by omega), HV29.out.mono (by omega), ?_, HB9.out.below⟩
          rw [HVQ.out, HVT.out]
          exact HDM.out
        · go_simp
          refine (of_any 1 _ (by omega) (by omega)).mono ?_
          rintro e w5 ⟨v5, rfl, h5, hb5⟩
          have hC5 := hidden (show Below W4.heap.size W4 w5 from (Below.refl _ _).drew.trans hb5)
          have H5 := hidden h5
          obtain ⟨s0, s1, s2, s3, s4, s5⟩ := HCELL.out w5 hC5.out
          clear h5 hb5
          refine hK.out _ _ (hC5.out.mono (show w.heap.size + 2 ≤ W4.heap.size by have := HB4.out.size; omega)) (fun _ => ?_)
          clear hK K
          try simp only [Act.put, List.setIfInBounds_toArray, List.set_cons_zero, List.set_cons_succ]
          refine wpAnyH_ready (rs := [0]) (by kernel_rfl) (by simp) ?_
          refine (AllReadyH.cons rfl (fun K hK => ?_) AllReadyH.nil)
          go_simp
          refine hK.out _ _ (hC5.out.mono (show w.heap.size + 2 ≤ W4.heap.size by have := HB4.out.size; omega)) (fun _ => ?_)
          clear hK K
          try simp only [Act.put, List.setIfInBounds_toArray, List.set_cons_zero, List.set_cons_succ]
          refine wpAnyH_ready (rs := [2]) (by kernel_rfl) (by simp) ?_
          refine (AllReadyH.cons rfl (fun K hK => ?_) AllReadyH.nil)
          go_simp
          refine (HS1.out _ _ H5.out hC5.out).mono ?_
          rintro e w6 ⟨v6, rfl, h6, hb6⟩
          have hC6 := hidden (show Below W4.heap.size W4 w6 from hC5.out.trans (hb6.mono hC5.out.size))
          have H6 := hidden h6
          obtain ⟨n6, a6, c6, l6, rfl, _⟩ := h6
          obtain ⟨t0, t1, t2, t3, t4, t5⟩ := HCELL.out w6 hC6.out
          clear hb6
          refine hK.out _ _ (hC6.out.mono (show w.heap.size + 2 ≤ W4.heap.size by have := HB4.out.size; omega)) (fun _ => ?_)
          clear hK K
          try simp only [Act.put, List.setIfInBounds_toArray, List.set_cons_zero, List.set_cons_succ]
          refine wpAnyH_ready (rs := [5]) (by kernel_rfl) (by simp) ?_
          refine (AllReadyH.cons rfl (fun K hK => ?_) AllReadyH.nil)
          go_simp
          refine (HS2.out _ hC6.out).mono ?_
          rintro e w7 ⟨v7, rfl, h7, hb7⟩
          have hC7 := hidden (show Below W4.heap.size W4 w7 from hC6.out.trans (hb7.mono hC6.out.size))
          have H67 := hidden (H6.out.below hb7)
          have H7 := hidden h7
          obtain ⟨n7, a7, c7, l7, rfl, _⟩ := h7
          have HB7 := hidden (HB4.out.more hC7.out HB4.out.size)
          obtain ⟨p0, p1, p2, p3⟩ := HB7.out.q.facts
          obtain ⟨q0, q1, q2, q3⟩ := HB7.out.r.facts
          clear hb7
          refine hK.out _ _ (hC7.out.mono (show w.heap.size + 2 ≤ W4.heap.size by have := HB4.out.size; omega)) (fun _ => ?_)
          clear hK K
          try simp only [Act.put, List.setIfInBounds_toArray, List.set_cons_zero, List.set_cons_succ]
          refine wpAnyH_ready (rs := [6]) (by kernel_rfl) (by simp) ?_
          refine AllReadyH.cons rfl (fun K hK => ?_) AllReadyH.nil
          go_simp
          refine hK.out _ _ (((hC7.out.mono (show w.heap.size + 2 ≤ W4.heap.size by have := HB4.out.size; omega)).setCell (show w.heap.size + 2 ≤ w.heap.size + 1 + 1 by omega) _).setCell (show w.heap.size + 2 ≤ w.heap.size + 1 + 1 by omega) _) (fun _ => ?_)
          clear hK K
          try simp only [Act.put, List.setIfInBounds_toArray, List.set_cons_zero, List.set_cons_succ]
          refine wpAnyH_ready (rs := [7]) (by kernel_rfl) (by simp) ?_
          refine AllReadyH.cons rfl (fun K hK => ?_) AllReadyH.nil
          go_simp
          refine hK.out _ _ (((((hC7.out.mono (show w.heap.size + 2 ≤ W4.heap.size by have := HB4.out.size; omega)).setCell (show w.heap.size + 2 ≤ w.heap.size + 1 + 1 by omega) _).setCell (show w.heap.size + 2 ≤ w.heap.size + 1 + 1 by omega) _).setCell (show w.heap.size + 2 ≤ w.heap.size + 1 + 1 + 1 by omega) _).setCell (show w.heap.size + 2 ≤ w.heap.size + 1 + 1 + 1 by omega) _) (fun _ => ?_)
          clear hK K
          try simp only [Act.put, List.setIfInBounds_toArray, List.set_cons_zero, List.set_cons_succ]
          refine wpAnyH_done (by kernel_rfl) ?_ _
          have HB8 := hidden (show Bx4 w ((((w7.setCell ⟨w.heap.size + 1 + 1, 0, none⟩ (.bool n6)).setCell ⟨w.heap.size + 1 + 1, 1, none⟩ (.slice a6 l6.length c6)).setCell ⟨w.heap.size + 1 + 1 + 1, 0, none⟩ (.bool n7)).setCell ⟨w.heap.size + 1 + 1 + 1, 1, none⟩ (.slice a7 l7.length c7)) (.bool na) (.slice ao n ac) (.bool nb) (.slice bo n2 bc) (.bool n6) (.slice a6 l6.length c6) (.bool n7) (.slice a7 l7.length c7) from HB7.out.store (.bool n6) (.slice a6 l6.length c6) (.bool n7) (.slice a7 l7.length c7))
          have HV18 := hidden (show NumAt ((((w7.setCell ⟨w.heap.size + 1 + 1, 0, none⟩ (.bool n6)).setCell ⟨w.heap.size + 1 + 1, 1, none⟩ (.slice a6 l6.length c6)).setCell ⟨w.heap.size + 1 + 1 + 1, 0, none⟩ (.bool n7)).setCell ⟨w.heap.size + 1 + 1 + 1, 1, none⟩ (.slice a7 l7.length c7)) (.agg #[.bool n6, .slice a6 l6.length c6]) (sgnv (!(na == nb)) (val Q) - 1) (max lq 3 + 1) from numAt_two4 HB7.out H67.out)
          have HV28 := hidden (show NumAt ((((w7.setCell ⟨w.heap.size + 1 + 1, 0, none⟩ (.bool n6)).setCell ⟨w.heap.size + 1 + 1, 1, none⟩ (.slice a6 l6.length c6)).setCell ⟨w.heap.size + 1 + 1 + 1, 0, none⟩ (.bool n7)).setCell ⟨w.heap.size + 1 + 1 + 1, 1, none⟩ (.slice a7 l7.length c7)) (.agg #[.bool n7, .slice a7 l7.length c7]) (sgnv nb (val lb) - sgnv nb (val T)) (max m lt + 1) from numAt_two4 HB7.out H7.out)
          clear p0 p1 p2 p3 q0 q1 q2 q3 f0 f1 f2 f3 g0 g1 g2 g3 k0 k1 k2 k3 s0 s1 s2 s3 s4 s5 t0 t1 t2 t3 t4 t5
          generalize ((((w7.setCell ⟨w.heap.size + 1 + 1, 0, none⟩ (.bool n6)).setCell ⟨w.heap.size + 1 + 1, 1, none⟩ (.slice a6 l6.length c6)).setCell ⟨w.heap.size + 1 + 1 + 1, 0, none⟩ (.bool n7)).setCell ⟨w.heap.size + 1 + 1 + 1, 1, none⟩ (.slice a7 l7.length c7)) = W8 at HB8 HV18 HV28 ⊢
          obtain ⟨f0, f1, f2, f3⟩ := HB8.out.q.facts
          obtain ⟨g0, g1, g2, g3⟩ := HB8.out.r.facts
          have HB9 := hidden (show Bx4 w ((((W8.setCell ⟨w.heap.size + 1 + 1, 0, none⟩ (.bool n6)).setCell ⟨w.heap.size + 1 + 1, 1, none⟩ (.slice a6 l6.length c6)).setCell ⟨w.heap.size + 1 + 1 + 1, 0, none⟩ (.bool n7)).setCell ⟨w.heap.size + 1 + 1 + 1, 1, none⟩ (.slice a7 l7.length c7)).drew (.bool na) (.slice ao n ac) (.bool nb) (.slice bo n2 bc) (.bool n6) (.slice a6 l6.length c6) (.bool n7) (.slice a7 l7.length c7) from (HB8.out.store (.bool n6) (.slice a6 l6.length c6) (.bool n7) (.slice a7 l7.length c7)).drew)
          have HV19 := hidden (show NumAt ((((W8.setCell ⟨w.heap.size + 1 + 1, 0, none⟩ (.bool n6)).setCell ⟨w.heap.size + 1 + 1, 1, none⟩ (.slice a6 l6.length c6)).setCell ⟨w.heap.size + 1 + 1 + 1, 0, none⟩ (.bool n7)).setCell ⟨w.heap.size + 1 + 1 + 1, 1, none⟩ (.slice a7 l7.length c7)).drew (.agg #[.bool n6, .slice a6 l6.length c6]) (sgnv (!(na == nb)) (val Q) - 1) (max lq 3 + 1) from (numAt_two4 HB8.out HV18.out).drew)
          have HV29 := hidden (show NumAt ((((W8.setCell ⟨w.heap.size + 1 + 1, 0, none⟩ (.bool n6)).setCell ⟨w.heap.size + 1 + 1, 1, none⟩ (.slice a6 l6.length c6)).setCell ⟨w.heap.size + 1 + 1 + 1, 0, none⟩ (.bool n7)).setCell ⟨w.heap.size + 1 + 1 + 1, 1, none⟩ (.slice a7 l7.length c7)).drew (.agg #[.bool n7, .slice a7 l7.length c7]) (sgnv nb (val lb) - sgnv nb (val T)) (max m lt + 1) from (numAt_two4 HB8.out HV28.out).drew)
          go_wp2
          go_region
          go_wp2
          clear f0 f1 f2 f3 g0 g1 g2 g3
          generalize ((((W8.setCell ⟨w.heap.size + 1 + 1, 0, none⟩ (.bool n6)).setCell ⟨w.heap.size + 1 + 1, 1, none⟩ (.slice a6 l6.length c6)).setCell ⟨w.heap.size + 1 + 1 + 1, 0, none⟩ (.bool n7)).setCell ⟨w.heap.size + 1 + 1 + 1, 1, none⟩ (.slice a7 l7.length c7)).drew = W9 at HB9 HV19 HV29 ⊢
          obtain ⟨f0, f1, _, _⟩ := HB9.out.q.facts
          obtain ⟨g0, g1, _, _⟩ := HB9.out.r.facts
          refine bodyPost_ret (v := .tuple #[(.agg #[.bool n6, .slice a6 l6.length c6]), (.agg #[.bool n7, .slice a7 l7.length c7]), .bool true]) (by simp [results, Tryd.results41, go_sem, f0, f1, g0, g1]) rfl ⟨_, _, _, _, rfl, HV19.out.mono (by omega), HV29.out.mono (by omega), ?_, HB9.out.below⟩
          rw [HVQ.out, HVT.out]
          exact HDM.out
end Nm
end Go.Proofs.YtapdkibiegeijaaDoor
