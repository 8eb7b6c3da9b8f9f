/- num.dividedLong: what holds between two parts of the quotient, and one step. Conditions: as each states. -/
import Derived.Test.YtapdkibiegeijaaDoorNumW
namespace Go.Proofs.YtapdkibiegeijaaDoor
open Go.RowKit
namespace Nm

theorem win_cons (l : List Nat) (i k : Nat) : val ((l.drop i).take (k + 1)) = l.getD i 0 + 1000000000 * val ((l.drop (i + 1)).take k) := by
  by_cases h : i < l.length
  · rw [List.drop_eq_getElem_cons h, List.take_succ_cons, val, List.getD_eq_getElem?_getD, List.getElem?_eq_getElem h]
    rfl
  · rw [List.drop_of_length_le (by omega), List.drop_of_length_le (by omega), List.getD_eq_getElem?_getD, List.getElem?_eq_none (by omega)]
    simp [val]
theorem win_split (l : List Nat) (i n : Nat) (h : i + n ≤ l.length) : val (l.take (i + n)) = val (l.take i) + pw i * val ((l.drop i).take n) := by
  rw [val_split (l.take (i + n)) i (by rw [List.length_take]; omega), List.take_take, Nat.min_eq_left (by omega), List.drop_take, Nat.add_sub_cancel_left]
theorem win_top {W V : List Nat} {n : Nat} (hn : 1 ≤ n) (hV : V.length = n) (hW : W.length = n + 1) (dV : Dig V) (h : val W < 1000000000 * val V) : W.getD n 0 ≤ V.getD (n - 1) 0 := by
  have e1 := val_split W n (by omega)
  rw [val_drop W n, List.drop_of_length_le (by omega)] at e1
  simp only [val, Nat.mul_zero, Nat.add_zero] at e1
  have e2 := val_split V (n - 1) (by omega)
  rw [val_drop V (n - 1), show n - 1 + 1 = n by omega, List.drop_of_length_le (by omega)] at e2
  simp only [val, Nat.mul_zero, Nat.add_zero] at e2
  have e3 := val_lt (dig_take dV (n - 1))
  rw [List.length_take, Nat.min_eq_left (by omega)] at e3
  obtain ⟨m, rfl⟩ : ∃ m, n = m + 1 := ⟨n - 1, by omega⟩
  rw [Nat.add_sub_cancel] at e2 e3 ⊢
  rw [pw_succ] at e1
  generalize W.getD (m + 1) 0 = x at *
  generalize V.getD m 0 = y at *
  by_cases hxy : x ≤ y
  · exact hxy
  · have := Nat.mul_le_mul_left (pw m) (show y + 1 ≤ x by omega)
    rw [Nat.mul_add, Nat.mul_one] at this
    rw [Nat.mul_assoc] at e1
    omega

/-- The rest, the quotient and what is divided by, where parts from j on of the quotient are told. -/
structure LS (w : World) (g1 g2 gq la lb m N : Nat) (V : List Nat) (j : Nat) (R Q : List Nat) (wr : World) : Prop where
  lenR : R.length = la + 1
  lenQ : Q.length = m
  rowR : RowN wr g1 R
  rowQ : RowN wr gq Q
  digR : Dig R
  digQ : Dig Q
  bAt : AtN wr g2 0 V
  bLt : g2 < wr.heap.size
  eq : val (R.take (j + lb)) + (val (Q.drop j) * val V) * pw j = N
  lt : val ((R.drop j).take lb) < val V
  bel : Below w.heap.size w wr
/-- What stays the same through the loop. -/
structure LC (w : World) (g1 g2 gq la lb m : Nat) (V : List Nat) : Prop where
  h12 : g1 ≠ g2
  hq1 : gq ≠ g1
  hq2 : gq ≠ g2
  w1 : w.heap.size ≤ g1
  w2 : w.heap.size ≤ g2
  wq : w.heap.size ≤ gq
  size : la + 1 = m + lb
  two : 2 ≤ lb
  small : la < 536870912
  lenV : V.length = lb
  digV : Dig V
  topV : V.getD (lb - 1) 0 ≠ 0
theorem LS.below {w : World} {g1 g2 gq la lb m N j : Nat} {V R Q : List Nat} {wr wn : World} (h : LS w g1 g2 gq la lb m N V j R Q wr) (hb : Below wr.heap.size wr wn) : LS w g1 g2 gq la lb m N V j R Q wn where
  lenR := h.lenR
  lenQ := h.lenQ
  rowR := h.rowR.below hb h.rowR.lt
  rowQ := h.rowQ.below hb h.rowQ.lt
  digR := h.digR
  digQ := h.digQ
  bAt := h.bAt.below hb h.bLt
  bLt := Nat.lt_of_lt_of_le h.bLt hb.size
  eq := h.eq
  lt := h.lt
  bel := h.bel.trans (hb.mono h.bel.size)
theorem ls_window {w : World} {g1 g2 gq la lb m N i : Nat} {V R Q : List Nat} {wr : World} (c : LC w g1 g2 gq la lb m V) (h : LS w g1 g2 gq la lb m N V (i + 1) R Q wr) (hi : i + 1 ≤ m) :
    ((R.drop i).take (lb + 1)).length = lb + 1 ∧ val ((R.drop i).take (lb + 1)) < 1000000000 * val V ∧ val ((R.drop i).take (lb + 1)) = val ((R.drop i).take lb) + pw lb * R.getD (i + lb) 0 := by
  have := c.size
  have := h.lenR
  have hx := dig_get h.digR i
  have hl := h.lt
  refine ⟨by rw [List.length_take, List.length_drop]; omega, by rw [win_cons]; omega, ?_⟩
  rw [val_take, getD_drop]
/-- A guess of a part, within the loop. -/
def Part (W V : Nat) (w w' : World) (e : Ending) : Prop := ∃ p : Nat, e = .returned (.int .u64 (p : Int)) ∧ p < 1000000000 ∧ W < (p + 1) * V ∧ p * V < W + V ∧ Below w.heap.size w w'
theorem ls_guess {w : World} {g1 g2 gq la lb m N i wc bc : Nat} {V R Q : List Nat} {wr : World} (c : LC w g1 g2 gq la lb m V) (h : LS w g1 g2 gq la lb m N V (i + 1) R Q wr) (hi : i + 1 ≤ m) :
    Calls Tryd.prog 76 #[.slice (some ⟨g1, i, none⟩) (lb + 1) wc, .slice (some ⟨g2, 0, none⟩) lb bc] wr fun e w' => Part (val ((R.drop i).take (lb + 1))) (val V) wr w' e := by
  obtain ⟨e1, e2, _⟩ := ls_window c h hi
  have hs := c.size
  have h2 := c.two
  have hsm := c.small
  have dW := dig_take (dig_drop h.digR i) (lb + 1)
  refine (guess_any _ _ wc bc lb _ V wr c.two (by omega) e1 c.lenV (fun _ => ⟨g1, i, rfl, h.rowR.lt, (h.rowR.atFrom i).take _⟩) (fun _ => ⟨g2, 0, rfl, h.bLt, h.bAt⟩) dW c.digV c.topV (win_top (by omega) c.lenV e1 c.digV e2)).mono ?_
  rintro e w' ⟨p, he, hp, p1, p2, hb⟩
  obtain ⟨k1, k2⟩ := guess_ok c.two c.lenV.symm e1.symm c.digV dW c.topV e2 p1 p2 hp
  exact ⟨p, he, hp, k1, k2, hb⟩
theorem Win.trans {R S T : List Nat} {i n : Nat} (h : Win R S i n) (k : Win S T i n) : Win R T i n := ⟨k.len.trans h.len, k.low.trans h.low, k.high.trans h.high, k.dig⟩
/-- The state behind a part: the rest turned, the part stored. -/
theorem ls_step {w : World} {g1 g2 gq la lb m N i q : Nat} {V R Q T : List Nat} {wr wn : World} (c : LC w g1 g2 gq la lb m V) (h : LS w g1 g2 gq la lb m N V (i + 1) R Q wr) (hi : i + 1 ≤ m) (hq : q < 1000000000)
    (hw : Win R T i lb) (hT : RowN wn g1 T) (ht : Turn g1 wr wn) (hv : val ((T.drop i).take lb) + q * val V = val ((R.drop i).take (lb + 1))) (hl : val ((T.drop i).take lb) < val V) :
    LS w g1 g2 gq la lb m N V i T (Q.set i q) (wn.setCell ⟨gq, i, none⟩ (.int .u32 (q : Int))) where
  lenR := hw.len.trans h.lenR
  lenQ := by rw [List.length_set]; exact h.lenQ
  rowR := (heap_setCell_other _ _ _ _ c.hq1.symm).trans hT
  rowQ := RowN.set ((ht.block gq h.rowQ.lt c.hq1).trans h.rowQ) i q
  digR := hw.dig
  digQ := dig_set h.digQ _ _ hq
  bAt := fun j x hx => by
    have e := (h.bAt.turn ht h.bLt c.h12.symm) j x hx
    have e2 := (Turn.refl gq wn).setCell i (.int .u32 (q : Int))
    rw [← e]
    exact e2.cell ⟨g2, 0 + j, none⟩ (Nat.lt_of_lt_of_le h.bLt ht.size) c.hq2.symm
  bLt := Nat.lt_of_lt_of_le h.bLt (Nat.le_trans ht.size ((Turn.refl gq wn).setCell i (.int .u32 (q : Int))).size)
  eq := by
    have hs := c.size
    have hlR := h.lenR
    have e1 := win_split T i lb (by rw [hw.len]; omega)
    have e2 := win_split R i (lb + 1) (by omega)
    have e3 := h.eq
    rw [show i + 1 + lb = i + (lb + 1) by omega, e2, pw_succ] at e3
    rw [val_drop (Q.set i q), drop_set, getD_set_self _ _ _ (by rw [h.lenQ]; omega)]
    exact long_step e3 hv (e1.trans (by rw [hw.low]))
  lt := hl
  bel := (Turn.below h.bel ht c.w1 h.bel.size).setCell c.wq _
end Nm
end Go.Proofs.YtapdkibiegeijaaDoor
