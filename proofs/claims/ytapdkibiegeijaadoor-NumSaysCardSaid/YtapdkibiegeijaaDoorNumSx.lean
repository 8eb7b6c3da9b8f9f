/- What the law NumSays calls, as the program and the document have it: a text's number, quotient and rest, Int. Conditions: as each states. -/
import Derived.Test.YtapdkibiegeijaaDoorRvI
import Derived.Test.YtapdkibiegeijaaDoorRvG
import Derived.Test.YtapdkibiegeijaaDoorRvJ
import Derived.Test.YtapdkibiegeijaaDoorRvL
import Derived.Test.YtapdkibiegeijaaDoorNumJ
import Derived.Test.YtapdkibiegeijaaDoorNumRg
import Derived.Deep.Cut
namespace Go.Proofs.YtapdkibiegeijaaDoor
open Go.RowKit
namespace Nm

/-- A block that holds a number of either kind. -/
def Shp (W : World) (B : Nat) (b0 : Bool) (p : Option Addr) (q r : Nat) (t : TypeId) : Prop := W.heap[B]? = some (.cells #[.bool b0, .slice p q r] t (0, 0))
theorem NumAt.set2 {W : World} {v : Value} {z : Int} {k B : Nat} {b0 : Bool} {p : Option Addr} {q r : Nat} {t : TypeId} (h : NumAt W v z k) (hB : Shp W B b0 p q r t) (u0 u1 : Value) : NumAt ((W.setCell ⟨B, 0, none⟩ u0).setCell ⟨B, 1, none⟩ u1) v z k := by
  obtain ⟨neg, ao, cap, l, e, hc, hs, hr⟩ := h
  refine ⟨neg, ao, cap, l, e, hc, fun hl => ?_, hr⟩
  obtain ⟨bk, off, e2, h1, h2⟩ := hs hl
  have hne : bk ≠ B := fun e3 => by
    have hcell := h2.get 0 hl
    rw [e3, cell_of_row W B (off + 0) _ _ _ hB] at hcell
    match off, hcell with
    | 0, hcell => simp at hcell
    | 1, hcell => simp at hcell
    | off + 2, hcell => simp at hcell
  have ht := ((Turn.refl B W).setCell 0 u0).setCell 1 u1
  exact ⟨bk, off, e2, Nat.lt_of_lt_of_le h1 ht.size, h2.turn ht h1 hne⟩
end Nm
namespace Rv
theorem NumAt.set2 {W : World} {v : Value} {z : Int} {k B : Nat} {b0 : Bool} {p : Option Addr} {q r : Nat} {t : TypeId} (h : NumAt W v z k) (hB : Nm.Shp W B b0 p q r t) (u0 u1 : Value) : NumAt ((W.setCell ⟨B, 0, none⟩ u0).setCell ⟨B, 1, none⟩ u1) v z k := by
  obtain ⟨neg, ao, cap, l, e, hc, hs, hr⟩ := h
  refine ⟨neg, ao, cap, l, e, hc, fun hl => ?_, hr⟩
  obtain ⟨bk, off, e2, h1, h2⟩ := hs hl
  have hne : bk ≠ B := fun e3 => by
    have hcell := h2.get 0 hl
    rw [e3, cell_of_row W B (off + 0) _ _ _ hB] at hcell
    match off, hcell with
    | 0, hcell => simp at hcell
    | 1, hcell => simp at hcell
    | off + 2, hcell => simp at hcell
  have ht := ((Turn.refl B W).setCell 0 u0).setCell 1 u1
  exact ⟨bk, off, e2, Nat.lt_of_lt_of_le h1 ht.size, h2.turn ht h1 hne⟩
theorem Blk.held {W : World} {b : Nat} {c0 c1 : Value} (h : Blk W b c0 c1) (W' : World) (hb : Below W.heap.size W W') : W'.cell? ⟨b, 0, none⟩ = some c0 ∧ W'.cell? ⟨b, 1, none⟩ = some c1 := ⟨(h.below hb h.lt).facts.1, (h.below hb h.lt).facts.2.1⟩
end Rv
namespace Nm
/-- A text's number, as both have it. -/
def BothN (w w' : World) (e : Ending) (o : Option Int) : Prop := ∃ (n1 n2 : Bool) (a1 a2 : Option Addr) (m1 m2 c1 c2 : Nat), e = .returned (.tuple #[.agg #[.bool n1, .slice a1 m1 c1], .agg #[.bool n2, .slice a2 m2 c2], .bool o.isSome]) ∧ Below w.heap.size w w' ∧
  (∀ z, o = some z → NumAt w' (.agg #[.bool n1, .slice a1 m1 c1]) z 267 ∧ Rv.NumAt w' (.agg #[.bool n2, .slice a2 m2 c2]) z 601)
set_option maxRecDepth 100000 in
set_option maxHeartbeats 6400000 in
theorem parsed_both (s : ByteArray) (a : Addr) (w : World) (hs : s.size ≤ 2400) (hE : w.cell? ⟨0, 0, none⟩ = some (.iface 129 (.pointer (some a)))) :
    Calls Tryd.prog 8 #[.string s] w fun e w' => BothN w w' e (says s.data.toList) := by
  have hp1 := fun W h => parse_any s a W hs h
  have hp2 := fun W => Rv.parse_any s W hs
  obtain ⟨o, ho⟩ : ∃ o, says s.data.toList = o := ⟨_, rfl⟩
  rw [ho] at hp1 hp2 ⊢
  have HP1 := hidden hp1
  have HP2 := hidden hp2
  have h1 := (Below.refl w.heap.size w).alloc (Nat.le_refl _) (.cells #[.bool false, .slice none 0 0] 25)
  have h2 := h1.alloc (by simp) (.cells #[.bool false, .slice none 0 0] 28)
  have HE := hidden ((h2.cell (World.block_lt_of_cell? _ _ hE)).trans hE)
  have hr2 := (blk_new w (.bool false) (.slice none 0 0)).below ((Below.refl (w.alloc (.cells #[.bool false, .slice none 0 0] 25)).heap.size _).alloc (Nat.le_refl _) (.cells #[.bool false, .slice none 0 0] 28)) (by simp)
  have hr3 := Rv.blk_new (w.alloc (.cells #[.bool false, .slice none 0 0] 25)) (.bool false) (.slice none 0 0)
  rw [World.size_alloc] at hr3
  have HR2 := hidden hr2
  have HR3 := hidden hr3
  have HB := hidden h2
  have hsz := hidden (show w.heap.size + 2 ≤ ((w.alloc (.cells #[.bool false, .slice none 0 0] 25)).alloc (.cells #[.bool false, .slice none 0 0] 28)).heap.size from by simp)
  clear ho hp1 hp2 h1 h2 hE hr2 hr3 hs
  go_enter Tryd.func8, Tryd.ntmps8
  go_wp2_with fail
  generalize (w.alloc (.cells #[.bool false, .slice none 0 0] 25)).alloc (.cells #[.bool false, .slice none 0 0] 28) = W1 at HB HE HR2 HR3 hsz ⊢
  refine (HP1.out _ HE.out).mono ?_
  rintro e w2 ⟨v, u, rfl, hb2, hno, hyes⟩
  cases o with
  | none =>
    obtain ⟨rfl, rfl⟩ := hno rfl
    have hal := (Below.refl w2.heap.size w2).alloc (Nat.le_refl _) (.cells #[.bool false, .slice none 0 0] 25)
    have HB3 := hidden (hb2.trans (hal.mono hb2.size))
    have HK5 := hidden (blk_new w2 (.bool false) (.slice none 0 0))
    have hw2 := hb2.size
    clear hal hno hyes hb2
    go_wp2_with fail
    generalize w2.alloc (.cells #[.bool false, .slice none 0 0] 25) = W3 at HB3 HK5 ⊢
    obtain ⟨i5, hi5⟩ : ∃ i, w2.heap.size = i := ⟨_, rfl⟩
    rw [hi5] at HK5 hw2 ⊢
    clear hi5
    refine (HP2.out W3).mono ?_
    rintro e w4 ⟨v, rfl, hb4, hno, _⟩
    obtain rfl := hno rfl
    have hal := (Below.refl w4.heap.size w4).alloc (Nat.le_refl _) (.cells #[.bool false, .slice none 0 0] 28)
    have HB5 := hidden (hb4.trans (hal.mono hb4.size))
    have HK7 := hidden (Rv.blk_new w4 (.bool false) (.slice none 0 0))
    have hw4 := hb4.size
    have hw3 := HB3.out.size
    clear hal hb4 hno
    go_upto_region 3 with fail
    have HK55 := hidden (HK5.out.below HB5.out HK5.out.lt)
    have hr2 := HR2.out.lt
    have hr3 := HR3.out.lt
    have HR25 := hidden (HR2.out.below (HB3.out.trans (HB5.out.mono HB3.out.size)) HR2.out.lt)
    have HR35 := hidden (HR3.out.below (HB3.out.trans (HB5.out.mono HB3.out.size)) HR3.out.lt)
    have HBW := hidden (HB.out.trans ((HB3.out.trans (HB5.out.mono HB3.out.size)).mono (by have := hsz.out; omega)))
    clear HP1 HP2 HE
    generalize w4.alloc (.cells #[.bool false, .slice none 0 0] 28) = W5 at HB5 HK7 HK55 HR25 HR35 HBW ⊢
    obtain ⟨i7, hi7⟩ : ∃ i, w4.heap.size = i := ⟨_, rfl⟩
    rw [hi7] at HK7 hw4 ⊢
    clear hi7
    obtain ⟨f0, f1, _, _⟩ := HK55.out.facts
    obtain ⟨g0, g1, _, _⟩ := HK7.out.facts
    obtain ⟨q0, q1, q2, q3⟩ := HR25.out.facts
    obtain ⟨r0, r1, r2, r3⟩ := HR35.out.facts
    have hR3a : Rv.Blk ((W5.setCell ⟨w.heap.size, 0, none⟩ (.bool false)).setCell ⟨w.heap.size, 1, none⟩ (.slice none 0 0)) (w.heap.size + 1) (.bool false) (.slice none 0 0) := (heap_setCell_other _ _ _ _ (by simp)).trans ((heap_setCell_other _ _ _ _ (by simp)).trans HR35.out)
    have HR2b := hidden (show Blk (((((W5.setCell ⟨w.heap.size, 0, none⟩ (.bool false)).setCell ⟨w.heap.size, 1, none⟩ (.slice none 0 0)).setCell ⟨w.heap.size + 1, 0, none⟩ (.bool false)).setCell ⟨w.heap.size + 1, 1, none⟩ (.slice none 0 0)).drew) w.heap.size (.bool false) (.slice none 0 0) from (heap_setCell_other _ _ _ _ (by simp)).trans ((heap_setCell_other _ _ _ _ (by simp)).trans (HR25.out.set (.bool false) (.slice none 0 0))))
    have HR3b := hidden (show Rv.Blk (((((W5.setCell ⟨w.heap.size, 0, none⟩ (.bool false)).setCell ⟨w.heap.size, 1, none⟩ (.slice none 0 0)).setCell ⟨w.heap.size + 1, 0, none⟩ (.bool false)).setCell ⟨w.heap.size + 1, 1, none⟩ (.slice none 0 0)).drew) (w.heap.size + 1) (.bool false) (.slice none 0 0) from hR3a.set (.bool false) (.slice none 0 0))
    have HBF := hidden (show Below w.heap.size w (((((W5.setCell ⟨w.heap.size, 0, none⟩ (.bool false)).setCell ⟨w.heap.size, 1, none⟩ (.slice none 0 0)).setCell ⟨w.heap.size + 1, 0, none⟩ (.bool false)).setCell ⟨w.heap.size + 1, 1, none⟩ (.slice none 0 0)).drew) from (((((HBW.out.setCell (p := ⟨w.heap.size, 0, none⟩) (Nat.le_refl _) _).setCell (p := ⟨w.heap.size, 1, none⟩) (Nat.le_refl _) _).setCell (p := ⟨w.heap.size + 1, 0, none⟩) (Nat.le_succ _) _).setCell (p := ⟨w.heap.size + 1, 1, none⟩) (Nat.le_succ _) _)).drew)
    clear hR3a
    go_wp2
    go_region
    go_wp2
    clear f0 f1 g0 g1 q0 q1 q2 q3 r0 r1 r2 r3
    generalize (((((W5.setCell ⟨w.heap.size, 0, none⟩ (.bool false)).setCell ⟨w.heap.size, 1, none⟩ (.slice none 0 0)).setCell ⟨w.heap.size + 1, 0, none⟩ (.bool false)).setCell ⟨w.heap.size + 1, 1, none⟩ (.slice none 0 0)).drew) = W6 at HR2b HR3b HBF ⊢
    obtain ⟨f0, f1, _, _⟩ := HR2b.out.facts
    obtain ⟨g0, g1, _, _⟩ := HR3b.out.facts
    refine bodyPost_ret (v := .tuple #[(.agg #[.bool false, .slice none 0 0]), (.agg #[.bool false, .slice none 0 0]), .bool false]) (by simp [results, Tryd.results8, go_sem, f0, f1, g0, g1]) rfl ⟨_, _, _, _, _, _, _, _, rfl, HBF.out, fun z2 hz => by cases hz⟩
  | some z =>
    obtain ⟨rfl, hN⟩ := hyes z rfl
    have HN := hidden hN
    obtain ⟨n1, a1, c1, l1, rfl, _⟩ := hN
    have hal := (Below.refl w2.heap.size w2).alloc (Nat.le_refl _) (.cells #[.bool n1, .slice a1 l1.length c1] 25)
    have HB3 := hidden (hb2.trans (hal.mono hb2.size))
    have HK5 := hidden (blk_new w2 (.bool n1) (.slice a1 l1.length c1))
    have HN3 := hidden (HN.out.below hal)
    have hw2 := hb2.size
    clear hal hno hyes hb2 HN
    go_wp2_with fail
    generalize w2.alloc (.cells #[.bool n1, .slice a1 l1.length c1] 25) = W3 at HB3 HK5 HN3 ⊢
    obtain ⟨i5, hi5⟩ : ∃ i, w2.heap.size = i := ⟨_, rfl⟩
    rw [hi5] at HK5 hw2 ⊢
    clear hi5
    refine (HP2.out W3).mono ?_
    rintro e w4 ⟨v, rfl, hb4, _, hyes⟩
    have HM := hidden (hyes z rfl)
    have hM := hyes z rfl
    obtain ⟨n2, a2, c2, l2, rfl, _⟩ := hM
    have hal := (Below.refl w4.heap.size w4).alloc (Nat.le_refl _) (.cells #[.bool n2, .slice a2 l2.length c2] 28)
    have HB5 := hidden (hb4.trans (hal.mono hb4.size))
    have HK7 := hidden (Rv.blk_new w4 (.bool n2) (.slice a2 l2.length c2))
    have hw4 := hb4.size
    have hw3 := HB3.out.size
    have HM5 := hidden (HM.out.below hal)
    have HN5 := hidden (HN3.out.below HB5.out)
    clear hal hb4 hyes HM HN3
    go_upto_region 3 with fail
    have HK55 := hidden (HK5.out.below HB5.out HK5.out.lt)
    have hr2 := HR2.out.lt
    have hr3 := HR3.out.lt
    have HR25 := hidden (HR2.out.below (HB3.out.trans (HB5.out.mono HB3.out.size)) HR2.out.lt)
    have HR35 := hidden (HR3.out.below (HB3.out.trans (HB5.out.mono HB3.out.size)) HR3.out.lt)
    have HBW := hidden (HB.out.trans ((HB3.out.trans (HB5.out.mono HB3.out.size)).mono (by have := hsz.out; omega)))
    clear HP1 HP2 HE
    generalize w4.alloc (.cells #[.bool n2, .slice a2 l2.length c2] 28) = W5 at HB5 HK7 HK55 HR25 HR35 HBW HM5 HN5 ⊢
    obtain ⟨i7, hi7⟩ : ∃ i, w4.heap.size = i := ⟨_, rfl⟩
    rw [hi7] at HK7 hw4 ⊢
    clear hi7
    obtain ⟨f0, f1, _, _⟩ := HK55.out.facts
    obtain ⟨g0, g1, _, _⟩ := HK7.out.facts
    obtain ⟨q0, q1, q2, q3⟩ := HR25.out.facts
    obtain ⟨r0, r1, r2, r3⟩ := HR35.out.facts
    have hR3a : Rv.Blk ((W5.setCell ⟨w.heap.size, 0, none⟩ (.bool n1)).setCell ⟨w.heap.size, 1, none⟩ (.slice a1 l1.length c1)) (w.heap.size + 1) (.bool false) (.slice none 0 0) := (heap_setCell_other _ _ _ _ (by simp)).trans ((heap_setCell_other _ _ _ _ (by simp)).trans HR35.out)
    have HR2b := hidden (show Blk (((((W5.setCell ⟨w.heap.size, 0, none⟩ (.bool n1)).setCell ⟨w.heap.size, 1, none⟩ (.slice a1 l1.length c1)).setCell ⟨w.heap.size + 1, 0, none⟩ (.bool n2)).setCell ⟨w.heap.size + 1, 1, none⟩ (.slice a2 l2.length c2)).drew) w.heap.size (.bool n1) (.slice a1 l1.length c1) from (heap_setCell_other _ _ _ _ (by simp)).trans ((heap_setCell_other _ _ _ _ (by simp)).trans (HR25.out.set (.bool n1) (.slice a1 l1.length c1))))
    have HR3b := hidden (show Rv.Blk (((((W5.setCell ⟨w.heap.size, 0, none⟩ (.bool n1)).setCell ⟨w.heap.size, 1, none⟩ (.slice a1 l1.length c1)).setCell ⟨w.heap.size + 1, 0, none⟩ (.bool n2)).setCell ⟨w.heap.size + 1, 1, none⟩ (.slice a2 l2.length c2)).drew) (w.heap.size + 1) (.bool n2) (.slice a2 l2.length c2) from hR3a.set (.bool n2) (.slice a2 l2.length c2))
    have HBF := hidden (show Below w.heap.size w (((((W5.setCell ⟨w.heap.size, 0, none⟩ (.bool n1)).setCell ⟨w.heap.size, 1, none⟩ (.slice a1 l1.length c1)).setCell ⟨w.heap.size + 1, 0, none⟩ (.bool n2)).setCell ⟨w.heap.size + 1, 1, none⟩ (.slice a2 l2.length c2)).drew) from (((((HBW.out.setCell (p := ⟨w.heap.size, 0, none⟩) (Nat.le_refl _) _).setCell (p := ⟨w.heap.size, 1, none⟩) (Nat.le_refl _) _).setCell (p := ⟨w.heap.size + 1, 0, none⟩) (Nat.le_succ _) _).setCell (p := ⟨w.heap.size + 1, 1, none⟩) (Nat.le_succ _) _)).drew)
    have HNF := hidden (show NumAt (((((W5.setCell ⟨w.heap.size, 0, none⟩ (.bool n1)).setCell ⟨w.heap.size, 1, none⟩ (.slice a1 l1.length c1)).setCell ⟨w.heap.size + 1, 0, none⟩ (.bool n2)).setCell ⟨w.heap.size + 1, 1, none⟩ (.slice a2 l2.length c2)).drew) (.agg #[.bool n1, .slice a1 l1.length c1]) z 267 from ((HN5.out.set2 (show Shp W5 w.heap.size false none 0 0 _ from HR25.out) _ _).set2 (show Shp _ _ false none 0 0 _ from hR3a) _ _).below (Below.refl _ _).drew)
    have HMF := hidden (show Rv.NumAt (((((W5.setCell ⟨w.heap.size, 0, none⟩ (.bool n1)).setCell ⟨w.heap.size, 1, none⟩ (.slice a1 l1.length c1)).setCell ⟨w.heap.size + 1, 0, none⟩ (.bool n2)).setCell ⟨w.heap.size + 1, 1, none⟩ (.slice a2 l2.length c2)).drew) (.agg #[.bool n2, .slice a2 l2.length c2]) z 601 from ((HM5.out.set2 (show Shp W5 w.heap.size false none 0 0 _ from HR25.out) _ _).set2 (show Shp _ _ false none 0 0 _ from hR3a) _ _).below (Below.refl _ _).drew)
    clear hR3a
    go_wp2
    go_region
    go_wp2
    clear f0 f1 g0 g1 q0 q1 q2 q3 r0 r1 r2 r3
    generalize (((((W5.setCell ⟨w.heap.size, 0, none⟩ (.bool n1)).setCell ⟨w.heap.size, 1, none⟩ (.slice a1 l1.length c1)).setCell ⟨w.heap.size + 1, 0, none⟩ (.bool n2)).setCell ⟨w.heap.size + 1, 1, none⟩ (.slice a2 l2.length c2)).drew) = W6 at HR2b HR3b HBF HNF HMF ⊢
    obtain ⟨f0, f1, _, _⟩ := HR2b.out.facts
    obtain ⟨g0, g1, _, _⟩ := HR3b.out.facts
    refine bodyPost_ret (v := .tuple #[(.agg #[.bool n1, .slice a1 l1.length c1]), (.agg #[.bool n2, .slice a2 l2.length c2]), .bool true]) (by simp [results, Tryd.results8, go_sem, f0, f1, g0, g1]) rfl ⟨_, _, _, _, _, _, _, _, rfl, HBF.out, fun z2 hz => by cases hz; exact ⟨HNF.out, HMF.out⟩⟩

/-- Quotient and rest, or that there are none. -/
def DMO (x y q r : Int) (c : Bool) : Prop := (y = 0 ∧ q = 0 ∧ r = 0 ∧ c = false) ∨ (y ≠ 0 ∧ c = true ∧ DM x y q r)
theorem dmo_unique {x y q r q' r' : Int} {c c' : Bool} (h : DMO x y q r c) (h' : DMO x y q' r' c') : q = q' ∧ r = r' ∧ c = c' := by
  rcases h with ⟨h1, rfl, rfl, rfl⟩ | ⟨h1, rfl, h2⟩
  · rcases h' with ⟨_, rfl, rfl, rfl⟩ | ⟨h3, _, _⟩
    · exact ⟨rfl, rfl, rfl⟩
    · exact absurd h1 h3
  · rcases h' with ⟨h3, _, _, _⟩ | ⟨_, rfl, h4⟩
    · exact absurd h3 h1
    · exact ⟨(dm_unique h2 h4).1, (dm_unique h2 h4).2, rfl⟩
theorem divmod_both (a b : Value) (x y : Int) (w : World) (ha : Rv.NumAt w a x 601) (hb : Rv.NumAt w b y 601) :
    Calls Tryd.prog 12 #[a, b] w fun e w' => ∃ (v1 v2 : Value) (q r : Int) (c : Bool), e = .returned (.tuple #[v1, v2, .bool c]) ∧ Rv.NumAt w' v1 q 602 ∧ Rv.NumAt w' v2 r 602 ∧ DMO x y q r c ∧ Below w.heap.size w w' := by
  by_cases hy : y = 0
  · subst hy
    refine (Rv.divmod_zero a b x 601 601 w ha hb).mono ?_
    rintro e w' ⟨rfl, h⟩
    exact ⟨_, _, 0, 0, false, rfl, Rv.numAt_zero _ _, Rv.numAt_zero _ _, .inl ⟨rfl, rfl, rfl, rfl⟩, h⟩
  · refine (Rv.divmod_any a b x y 601 601 w ha hb (by omega) (by omega) hy).mono ?_
    rintro e w' ⟨v1, v2, q, r, rfl, h1, h2, h3, h4⟩
    exact ⟨v1, v2, q, r, true, rfl, h1, h2, .inr ⟨hy, rfl, h3⟩, h4⟩
theorem div_both (a b : Value) (x y : Int) (w : World) (ha : NumAt w a x 267) (hb : NumAt w b y 267) :
    Calls Tryd.prog 13 #[a, b] w fun e w' => ∃ (v1 : Value) (q r : Int) (c : Bool), e = .returned (.tuple #[v1, .bool c]) ∧ NumAt w' v1 q 268 ∧ DMO x y q r c ∧ Below w.heap.size w w' := by
  by_cases hy : y = 0
  · subst hy
    refine (div_zero a b x 267 267 w ha hb).mono ?_
    rintro e w' ⟨rfl, h⟩
    exact ⟨_, 0, 0, false, rfl, numAt_zero _ _, .inl ⟨rfl, rfl, rfl, rfl⟩, h⟩
  · refine (div_any a b x y 267 267 w ha hb (by omega) (by omega) hy).mono ?_
    rintro e w' ⟨v1, q, r, rfl, h1, h3, h4⟩
    exact ⟨v1, q, r, true, rfl, h1, .inr ⟨hy, rfl, h3⟩, h4⟩
theorem mod_both (a b : Value) (x y : Int) (w : World) (ha : NumAt w a x 267) (hb : NumAt w b y 267) :
    Calls Tryd.prog 14 #[a, b] w fun e w' => ∃ (v1 : Value) (q r : Int) (c : Bool), e = .returned (.tuple #[v1, .bool c]) ∧ NumAt w' v1 r 268 ∧ DMO x y q r c ∧ Below w.heap.size w w' := by
  by_cases hy : y = 0
  · subst hy
    refine (mod_zero a b x 267 267 w ha hb).mono ?_
    rintro e w' ⟨rfl, h⟩
    exact ⟨_, 0, 0, false, rfl, numAt_zero _ _, .inl ⟨rfl, rfl, rfl, rfl⟩, h⟩
  · refine (mod_any a b x y 267 267 w ha hb (by omega) (by omega) hy).mono ?_
    rintro e w' ⟨v1, q, r, rfl, h1, h3, h4⟩
    exact ⟨v1, q, r, true, rfl, h1, .inr ⟨hy, rfl, h3⟩, h4⟩
/-- What Int answers of z. -/
def inR (z : Int) : Bool := decide (-9223372036854775808 ≤ z ∧ z ≤ 9223372036854775807)
def inV (z : Int) : Int := if -9223372036854775808 ≤ z ∧ z ≤ 9223372036854775807 then z else 0
theorem int_both (a : Value) (z : Int) (w : World) (h : NumAt w a z 267) : Calls Tryd.prog 17 #[a] w fun e w' => e = .returned (.tuple #[.int .i64 (inV z), .bool (inR z)]) ∧ Below w.heap.size w w' := by
  unfold inV inR
  by_cases h0 : z < -9223372036854775808
  · rw [if_neg (by omega), decide_eq_false (by omega)]
    exact callsIn_wide.1 (int_low a z 267 w h (by omega) h0)
  · by_cases h1 : 9223372036854775807 < z
    · rw [if_neg (by omega), decide_eq_false (by omega)]
      exact callsIn_wide.1 (int_high a z 267 w h (by omega) h1)
    · rw [if_pos (by omega), decide_eq_true (by omega)]
      exact int_any a z 267 w h (by omega) (by omega) (by omega)
theorem int_both9 (a : Value) (z : Int) (w : World) (h : Rv.NumAt w a z 601) : Calls Tryd.prog 18 #[a] w fun e w' => e = .returned (.tuple #[.int .i64 (inV z), .bool (inR z)]) ∧ Below w.heap.size w w' := by
  unfold inV inR
  by_cases h0 : z < -9223372036854775808
  · rw [if_neg (by omega), decide_eq_false (by omega)]
    exact Rv.int_low a z 601 w h (by omega) h0
  · by_cases h1 : 9223372036854775807 < z
    · rw [if_neg (by omega), decide_eq_false (by omega)]
      exact Rv.int_high a z 601 w h (by omega) h1
    · rw [if_pos (by omega), decide_eq_true (by omega)]
      exact Rv.int_in a z 601 w h (by omega) (by omega) (by omega)
theorem cmp_both9 (a b : Value) (x y : Int) (w : World) (ha : Rv.NumAt w a x 601) (hb : Rv.NumAt w b y 601) : Calls Tryd.prog 28 #[a, b] w fun e w' => e = .returned (.int .i64 (sgz x y)) ∧ Below w.heap.size w w' :=
  Rv.cmp_any a b x y 601 601 w ha hb (by omega) (by omega)
theorem text9_is {x : Int} {l : List UInt8} (h : txt x = l) (a : Value) (k : Nat) (w : World) (hN : Rv.NumAt w a x k) (hk : k < 1000000) : Calls Tryd.prog 16 #[a] w fun e w' => e = .returned (.string ⟨l.toArray⟩) ∧ Below w.heap.size w w' := by
  rw [← h]; exact Rv.text_any a x k w hN hk
end Nm
end Go.Proofs.YtapdkibiegeijaaDoor
