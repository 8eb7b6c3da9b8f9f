/- Num's Div and Mod. Conditions: as each states. -/
import Derived.Test.YtapdkibiegeijaaDoorNumV
namespace Go.Proofs.YtapdkibiegeijaaDoor
open Go.RowKit
namespace Nm

/-- What Div and Mod answer. -/
def Quo (w w' : World) (e : Ending) (x y : Int) (k : Nat) : Prop := ∃ (v : Value) (q r : Int), e = .returned (.tuple #[v, .bool true]) ∧ NumAt w' v q k ∧ DM x y q r ∧ Below w.heap.size w w'
def Rem (w w' : World) (e : Ending) (x y : Int) (k : Nat) : Prop := ∃ (v : Value) (q r : Int), e = .returned (.tuple #[v, .bool true]) ∧ NumAt w' v r k ∧ DM x y q r ∧ Below w.heap.size w w'
set_option maxHeartbeats 3200000 in
theorem div_zero (a b : Value) (x : Int) (k m : Nat) (w : World) (ha : NumAt w a x k) (hb : NumAt w b 0 m) :
    Calls Tryd.prog 13 #[a, b] w fun e w' => e = .returned (.tuple #[.agg #[.bool false, .slice none 0 0], .bool false]) ∧ Below w.heap.size w w' := by
  have HNA := hidden ha
  have HNB := hidden hb
  obtain ⟨na, ao, ac, la, rfl, _⟩ := ha
  obtain ⟨nb, bo, bc, lb, rfl, _⟩ := hb
  have hbx := hidden (boxes_new w (.bool na) (.slice ao la.length ac) (.bool nb) (.slice bo lb.length bc))
  obtain ⟨n, hn⟩ : ∃ n, la.length = n := ⟨_, rfl⟩
  obtain ⟨n2, hn2⟩ : ∃ n, lb.length = n := ⟨_, rfl⟩
  rw [hn] at hbx HNA ⊢
  rw [hn2] at hbx HNB ⊢
  clear hn hn2
  go_enter Tryd.func13, Tryd.ntmps13
  go_wp2_with fail
  have HBX := hbx
  clear hbx
  generalize ((w.alloc (.cells #[.bool na, .slice ao n ac] 25)).alloc (.cells #[.bool nb, .slice bo n2 bc] 25)).alloc (.cells #[.bool false, .slice none 0 0] 25) = W0 at HBX ⊢
  refine (divide_zero _ _ x k m _ (HNA.out.below HBX.out.below) (HNB.out.below HBX.out.below)).mono ?_
  rintro e w2 ⟨rfl, hb2⟩
  have hres := (show Blk w2 (w.heap.size + 1 + 1) _ _ from HBX.out.r.below hb2 (by have := HBX.out.size; omega))
  have HB2 := hidden (HBX.out.below.trans (hb2.mono HBX.out.below.size))
  have hz2 : w.heap.size + 3 ≤ w2.heap.size := Nat.le_trans HBX.out.size hb2.size
  have hres3 := hres.below (((Below.refl w2.heap.size w2).alloc (Nat.le_refl _) (.cells #[.bool false, .slice none 0 0] 25)).alloc (by simp) (.cells #[.bool false, .slice none 0 0] 25)) (by omega)
  obtain ⟨f0, f1, f2, f3⟩ := hres3.facts
  have HST := hidden (Blk.set hres3 (.bool false) (.slice none 0 0)).facts
  clear hb2 hres hres3
  go_wp2
  refine bodyPost_ret (v := .tuple #[.agg #[.bool false, .slice none 0 0], .bool false]) (by simp [results, Tryd.results13, go_sem, HST.out.1, HST.out.2.1]) rfl ⟨rfl, ?_⟩
  exact (((HB2.out.alloc (by omega) _).alloc (by simp; omega) _).setCell (show w.heap.size ≤ w.heap.size + 1 + 1 by omega) _).setCell (show w.heap.size ≤ w.heap.size + 1 + 1 by omega) _
set_option maxHeartbeats 3200000 in
theorem div_any (a b : Value) (x y : Int) (k m : Nat) (w : World) (ha : NumAt w a x k) (hb : NumAt w b y m) (hk : k < 90000000) (hm : m < 90000000) (hy : y ≠ 0) :
    Calls Tryd.prog 13 #[a, b] w fun e w' => Quo w w' e x y (max k 3 + 1) := by
  have HNA := hidden ha
  have HNB := hidden hb
  obtain ⟨na, ao, ac, la, rfl, _⟩ := ha
  obtain ⟨nb, bo, bc, lb, rfl, _⟩ := hb
  have hbx := hidden (boxes_new w (.bool na) (.slice ao la.length ac) (.bool nb) (.slice bo lb.length bc))
  obtain ⟨n, hn⟩ : ∃ n, la.length = n := ⟨_, rfl⟩
  obtain ⟨n2, hn2⟩ : ∃ n, lb.length = n := ⟨_, rfl⟩
  rw [hn] at hbx HNA ⊢
  rw [hn2] at hbx HNB ⊢
  have HY := hidden hy
  clear hn hn2 hy
  go_enter Tryd.func13, Tryd.ntmps13
  go_wp2_with fail
  have HBX := hbx
  clear hbx
  generalize ((w.alloc (.cells #[.bool na, .slice ao n ac] 25)).alloc (.cells #[.bool nb, .slice bo n2 bc] 25)).alloc (.cells #[.bool false, .slice none 0 0] 25) = W0 at HBX ⊢
  refine (divide_any _ _ x y k m _ (HNA.out.below HBX.out.below) (HNB.out.below HBX.out.below) hk hm HY.out).mono ?_
  rintro e w2 ⟨v1, v2, q, r, rfl, h1, h2, hdm, hb2⟩
  have hres := (show Blk w2 (w.heap.size + 1 + 1) _ _ from HBX.out.r.below hb2 (by have := HBX.out.size; omega))
  obtain ⟨f0, f1, f2, f3⟩ := hres.facts
  have HB2 := hidden (HBX.out.below.trans (hb2.mono HBX.out.below.size))
  have hz2 : w.heap.size + 3 ≤ w2.heap.size := Nat.le_trans HBX.out.size hb2.size
  have H1 := hidden h1
  have H2 := hidden h2
  have HDM := hidden hdm
  obtain ⟨n3, a3, c3, l3, rfl, _⟩ := h1
  obtain ⟨n4, a4, c4, l4, rfl, _⟩ := h2
  have HRES := hidden hres
  clear hb2 hdm hres f0 f1 f2 f3
  have HA2 := hidden (((Below.refl w2.heap.size w2).alloc (Nat.le_refl _) (.cells #[.bool n3, .slice a3 l3.length c3] 25)).alloc (by simp) (.cells #[.bool n4, .slice a4 l4.length c4] 25))
  have hr3 := HRES.out.below HA2.out (by omega)
  obtain ⟨f0, f1, f2, f3⟩ := hr3.facts
  obtain ⟨g1, g2⟩ := numAt_stored (w := w) (HB2.out.trans (HA2.out.mono (by omega))) (show w.heap.size ≤ w.heap.size + 1 + 1 by omega) hr3 (H1.out.below HA2.out)
  have HST := hidden (Blk.set hr3 (.bool n3) (.slice a3 l3.length c3)).facts
  have HG1 := hidden g1
  have HG2 := hidden g2
  clear g1 g2 hr3
  go_wp2
  refine bodyPost_ret (v := .tuple #[.agg #[.bool n3, .slice a3 l3.length c3], .bool true]) (by simp [results, Tryd.results13, go_sem, HST.out.1, HST.out.2.1]) rfl ⟨_, q, r, rfl, HG1.out, HDM.out, HG2.out⟩
set_option maxHeartbeats 3200000 in
theorem mod_zero (a b : Value) (x : Int) (k m : Nat) (w : World) (ha : NumAt w a x k) (hb : NumAt w b 0 m) :
    Calls Tryd.prog 14 #[a, b] w fun e w' => e = .returned (.tuple #[.agg #[.bool false, .slice none 0 0], .bool false]) ∧ Below w.heap.size w w' := by
  have HNA := hidden ha
  have HNB := hidden hb
  obtain ⟨na, ao, ac, la, rfl, _⟩ := ha
  obtain ⟨nb, bo, bc, lb, rfl, _⟩ := hb
  have hbx := hidden (boxes_new w (.bool na) (.slice ao la.length ac) (.bool nb) (.slice bo lb.length bc))
  obtain ⟨n, hn⟩ : ∃ n, la.length = n := ⟨_, rfl⟩
  obtain ⟨n2, hn2⟩ : ∃ n, lb.length = n := ⟨_, rfl⟩
  rw [hn] at hbx HNA ⊢
  rw [hn2] at hbx HNB ⊢
  clear hn hn2
  go_enter Tryd.func14, Tryd.ntmps14
  go_wp2_with fail
  have HBX := hbx
  clear hbx
  generalize ((w.alloc (.cells #[.bool na, .slice ao n ac] 25)).alloc (.cells #[.bool nb, .slice bo n2 bc] 25)).alloc (.cells #[.bool false, .slice none 0 0] 25) = W0 at HBX ⊢
  refine (divide_zero _ _ x k m _ (HNA.out.below HBX.out.below) (HNB.out.below HBX.out.below)).mono ?_
  rintro e w2 ⟨rfl, hb2⟩
  have hres := (show Blk w2 (w.heap.size + 1 + 1) _ _ from HBX.out.r.below hb2 (by have := HBX.out.size; omega))
  have HB2 := hidden (HBX.out.below.trans (hb2.mono HBX.out.below.size))
  have hz2 : w.heap.size + 3 ≤ w2.heap.size := Nat.le_trans HBX.out.size hb2.size
  have hres3 := hres.below (((Below.refl w2.heap.size w2).alloc (Nat.le_refl _) (.cells #[.bool false, .slice none 0 0] 25)).alloc (by simp) (.cells #[.bool false, .slice none 0 0] 25)) (by omega)
  obtain ⟨f0, f1, f2, f3⟩ := hres3.facts
  have HST := hidden (Blk.set hres3 (.bool false) (.slice none 0 0)).facts
  clear hb2 hres hres3
  go_wp2
  refine bodyPost_ret (v := .tuple #[.agg #[.bool false, .slice none 0 0], .bool false]) (by simp [results, Tryd.results14, go_sem, HST.out.1, HST.out.2.1]) rfl ⟨rfl, ?_⟩
  exact (((HB2.out.alloc (by omega) _).alloc (by simp; omega) _).setCell (show w.heap.size ≤ w.heap.size + 1 + 1 by omega) _).setCell (show w.heap.size ≤ w.heap.size + 1 + 1 by omega) _
set_option maxHeartbeats 3200000 in
theorem mod_any (a b : Value) (x y : Int) (k m : Nat) (w : World) (ha : NumAt w a x k) (hb : NumAt w b y m) (hk : k < 90000000) (hm : m < 90000000) (hy : y ≠ 0) :
    Calls Tryd.prog 14 #[a, b] w fun e w' => Rem w w' e x y (m + 1) := by
  have HNA := hidden ha
  have HNB := hidden hb
  obtain ⟨na, ao, ac, la, rfl, _⟩ := ha
  obtain ⟨nb, bo, bc, lb, rfl, _⟩ := hb
  have hbx := hidden (boxes_new w (.bool na) (.slice ao la.length ac) (.bool nb) (.slice bo lb.length bc))
  obtain ⟨n, hn⟩ : ∃ n, la.length = n := ⟨_, rfl⟩
  obtain ⟨n2, hn2⟩ : ∃ n, lb.length = n := ⟨_, rfl⟩
  rw [hn] at hbx HNA ⊢
  rw [hn2] at hbx HNB ⊢
  have HY := hidden hy
  clear hn hn2 hy
  go_enter Tryd.func14, Tryd.ntmps14
  go_wp2_with fail
  have HBX := hbx
  clear hbx
  generalize ((w.alloc (.cells #[.bool na, .slice ao n ac] 25)).alloc (.cells #[.bool nb, .slice bo n2 bc] 25)).alloc (.cells #[.bool false, .slice none 0 0] 25) = W0 at HBX ⊢
  refine (divide_any _ _ x y k m _ (HNA.out.below HBX.out.below) (HNB.out.below HBX.out.below) hk hm HY.out).mono ?_
  rintro e w2 ⟨v1, v2, q, r, rfl, h1, h2, hdm, hb2⟩
  have hres := (show Blk w2 (w.heap.size + 1 + 1) _ _ from HBX.out.r.below hb2 (by have := HBX.out.size; omega))
  obtain ⟨f0, f1, f2, f3⟩ := hres.facts
  have HB2 := hidden (HBX.out.below.trans (hb2.mono HBX.out.below.size))
  have hz2 : w.heap.size + 3 ≤ w2.heap.size := Nat.le_trans HBX.out.size hb2.size
  have H1 := hidden h1
  have H2 := hidden h2
  have HDM := hidden hdm
  obtain ⟨n3, a3, c3, l3, rfl, _⟩ := h1
  obtain ⟨n4, a4, c4, l4, rfl, _⟩ := h2
  have HRES := hidden hres
  clear hb2 hdm hres f0 f1 f2 f3
  have HA2 := hidden (((Below.refl w2.heap.size w2).alloc (Nat.le_refl _) (.cells #[.bool n3, .slice a3 l3.length c3] 25)).alloc (by simp) (.cells #[.bool n4, .slice a4 l4.length c4] 25))
  have hr3 := HRES.out.below HA2.out (by omega)
  obtain ⟨f0, f1, f2, f3⟩ := hr3.facts
  obtain ⟨g1, g2⟩ := numAt_stored (w := w) (HB2.out.trans (HA2.out.mono (by omega))) (show w.heap.size ≤ w.heap.size + 1 + 1 by omega) hr3 (H2.out.below HA2.out)
  have HST := hidden (Blk.set hr3 (.bool n4) (.slice a4 l4.length c4)).facts
  have HG1 := hidden g1
  have HG2 := hidden g2
  clear g1 g2 hr3
  go_wp2
  refine bodyPost_ret (v := .tuple #[.agg #[.bool n4, .slice a4 l4.length c4], .bool true]) (by simp [results, Tryd.results14, go_sem, HST.out.1, HST.out.2.1]) rfl ⟨_, q, r, rfl, HG1.out, HDM.out, HG2.out⟩
end Nm
end Go.Proofs.YtapdkibiegeijaaDoor
