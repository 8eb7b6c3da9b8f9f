/- num.trimmed, cmp.Compare, num.compare. Conditions: the parts' cells hold them. -/
import Derived.Test.YtapdkibiegeijaaDoorNumM
namespace Go.Proofs.YtapdkibiegeijaaDoor
open Go.RowKit
namespace Nm

def lenOf : Value → Nat
  | .slice _ n _ => n
  | _ => 0
/-- How many parts stay when those at the end that are 0 are cut. -/
def cutN (l : List Nat) : Nat → Nat
  | 0 => 0
  | n + 1 => if l.getD n 0 = 0 then cutN l n else n + 1
theorem cutN_le (l : List Nat) (n : Nat) : cutN l n ≤ n := by
  induction n with
  | zero => exact Nat.le_refl _
  | succ n ih => rw [cutN]; split <;> omega
theorem cutN_val (l : List Nat) (n : Nat) : val (l.take (cutN l n)) = val (l.take n) := by
  induction n with
  | zero => rfl
  | succ n ih =>
    rw [cutN]
    split
    · rename_i h; rw [ih, val_cut l n h]
    · rfl
theorem cutN_trm (l : List Nat) (n : Nat) (hn : n ≤ l.length) : Trm (l.take (cutN l n)) := by
  induction n with
  | zero => intro h; simp [cutN] at h
  | succ n ih =>
    rw [cutN]
    split
    · exact ih (by omega)
    · rename_i h
      intro _
      rw [List.length_take, Nat.min_eq_left hn, Nat.add_sub_cancel, List.getD_eq_getElem?_getD, List.getElem?_take_of_lt (by omega), ← List.getD_eq_getElem?_getD]
      exact h
theorem cutN_len (l : List Nat) (n : Nat) (hn : n ≤ l.length) : (l.take (cutN l n)).length = cutN l n := by
  have := cutN_le l n
  rw [List.length_take, Nat.min_eq_left (by omega)]

set_option maxHeartbeats 1600000 in
theorem trimmed_any (ao : Option Addr) (cap : Nat) (l : List Nat) (w : World) (hl : l.length < 1073741824) (hc : l.length ≤ cap) (hs : SrcN w ao l) :
    Calls Tryd.prog 54 #[.slice ao l.length cap] w fun e w' => e = .returned (.slice ao (cutN l l.length) cap) ∧ w = w' := by
  obtain ⟨n, hn⟩ : ∃ n, l.length = n := ⟨_, rfl⟩
  rw [hn] at hl hc ⊢
  have HN := hidden hn
  have HS := hidden hs
  clear hn hs
  go_enter Tryd.func54, Tryd.ntmps54
  go_wp2
  go_loop [0] (fun v => ∃ k : Nat, k ≤ n ∧ v = .slice ao k cap ∧ Hid (cutN l n = cutN l k)) (fun v => lenOf v)
  case atStart => exact ⟨n, Nat.le_refl _, rfl, hidden rfl⟩
  case round =>
    obtain ⟨k, hk, rfl, hr⟩ := hrel
    by_cases h0 : 0 < k
    · obtain ⟨bk, off, rfl, hcell⟩ := HS.out.get (k - 1) (by rw [HN.out]; omega)
      obtain ⟨x, hx⟩ : ∃ x, l.getD (k - 1) 0 = x := ⟨_, rfl⟩
      rw [hx] at hcell
      have hcut : cutN l k = if x = 0 then cutN l (k - 1) else k := by
        cases k with
        | zero => omega
        | succ j => rw [cutN, ← hx]; rfl
      have HC := hidden hcut
      clear hcut hx
      by_cases hx0 : x = 0
      · subst hx0
        go_wp2
        go_round
        case rel => exact ⟨k - 1, by omega, rfl, hidden (by rw [hr.out, HC.out]; rfl)⟩
        case measure => simp [lenOf]; omega
      · have HX := hidden hx0
        have hx1 : ((x : Int) == 0) = false := by rw [beq_eq_false_iff_ne]; omega
        go_wp2
        go_ret
        exact ⟨by rw [hr.out, HC.out, if_neg HX.out]; rfl, rfl⟩
    · obtain rfl : k = 0 := by omega
      go_wp2
      go_ret
      exact ⟨by rw [hr.out]; rfl, rfl⟩

/-- The sign of a comparison. -/
def sg (a b : Nat) : Int := if a < b then -1 else if b < a then 1 else 0
theorem sg_lt {a b : Nat} (h : a < b) : sg a b = -1 := by unfold sg; rw [if_pos h]
theorem sg_gt {a b : Nat} (h : b < a) : sg a b = 1 := by unfold sg; rw [if_neg (by omega), if_pos h]
theorem sg_eq {a b : Nat} (h : a = b) : sg a b = 0 := by unfold sg; rw [if_neg (by omega), if_neg (by omega)]
theorem below_drewN {B : Nat} {W w : World} (h : Below B W w) (q : Nat) : Below B W (w.drewN q) := ⟨h.os, h.tape, h.output, h.size, h.block⟩
set_option maxHeartbeats 400000 in
theorem cmpInt_any (x y : Nat) (w : World) :
    Calls Tryd.prog 61 #[.int .i64 (x : Int), .int .i64 (y : Int)] w fun e w' => e = .returned (.int .i64 (sg x y)) ∧ w' = w := by
  by_cases h1 : x < y
  · rw [sg_lt h1]
    go_enter Tryd.func61, Tryd.ntmps61
    go_wp2
    go_ret
    exact ⟨rfl, rfl⟩
  · by_cases h2 : y < x
    · rw [sg_gt h2]
      go_enter Tryd.func61, Tryd.ntmps61
      go_wp2
      go_ret
      exact ⟨rfl, rfl⟩
    · rw [sg_eq (by omega)]
      go_enter Tryd.func61, Tryd.ntmps61
      go_wp2
      go_ret
      exact ⟨rfl, rfl⟩
set_option maxHeartbeats 400000 in
theorem cmpU32_any (x y : Nat) (w : World) :
    Calls Tryd.prog 62 #[.int .u32 (x : Int), .int .u32 (y : Int)] w fun e w' => e = .returned (.int .i64 (sg x y)) ∧ w' = w := by
  by_cases h1 : x < y
  · rw [sg_lt h1]
    go_enter Tryd.func62, Tryd.ntmps62
    go_wp2
    go_ret
    exact ⟨rfl, rfl⟩
  · by_cases h2 : y < x
    · rw [sg_gt h2]
      go_enter Tryd.func62, Tryd.ntmps62
      go_wp2
      go_ret
      exact ⟨rfl, rfl⟩
    · rw [sg_eq (by omega)]
      go_enter Tryd.func62, Tryd.ntmps62
      go_wp2
      go_ret
      exact ⟨rfl, rfl⟩

/-- A call that draws nothing, in a region behind another one that has drawn. -/
theorem quiet_more {f : FuncId} {args : Array Value} {w : World} {a n : Nat} {v : Value} (h : Calls Tryd.prog f args (w.drewN (a + n)) fun e w' => e = .returned v ∧ w' = w.drewN (a + n)) :
    Calls Tryd.prog f args (w.drewN (a + n)) fun e w' => e = .returned v ∧ ∃ m, w' = w.drewN (a + m) := h.mono fun _ _ h => ⟨h.1, n, h.2⟩
set_option maxHeartbeats 1600000 in
theorem compare_any (ao bo : Option Addr) (ac bc : Nat) (a b : List Nat) (w : World) (hlb : b.length < 1073741824) (ha : SrcN w ao a) (hb : SrcN w bo b)
    (da : Dig a) (db : Dig b) (ta : Trm a) (tb : Trm b) :
    Calls Tryd.prog 47 #[.slice ao a.length ac, .slice bo b.length bc] w fun e w' => e = .returned (.int .i64 (sg (val a) (val b))) ∧ Below w.heap.size w w' := by
  by_cases hne : a.length = b.length
  · obtain ⟨r, hr⟩ : ∃ r, sg (val a) (val b) = r := ⟨_, rfl⟩
    rw [hr]
    obtain ⟨n, hn⟩ : ∃ n, b.length = n := ⟨_, rfl⟩
    rw [hne, hn]
    rw [hn] at hlb
    have HN := hidden hn
    have HNE := hidden (hne.trans hn)
    have HA := hidden ha
    have HB := hidden hb
    have HR := hidden hr
    clear hn hne ha hb hr
    go_enter Tryd.func47, Tryd.ntmps47
    go_wp2
    go_loopw [5] (fun i wr => ∃ k : Nat, k ≤ n ∧ i = .int .i64 ((k : Int) - 1) ∧ Hid (a.drop k = b.drop k) ∧ Hid (Below w.heap.size w wr)) (fun i _ => (intOf i + 1).toNat)
    case atStart => exact ⟨n, Nat.le_refl _, rfl, hidden (by rw [List.drop_of_length_le (by rw [HNE.out]; omega), List.drop_of_length_le (by rw [HN.out]; omega)]), Below.refl _ _⟩
    case round =>
      obtain ⟨k, hk, rfl, hd, hbl⟩ := hrel
      by_cases h0 : 0 < k
      · obtain ⟨j, rfl⟩ : ∃ j, k = j + 1 := ⟨k - 1, by omega⟩
        rw [show ((j + 1 : Nat) : Int) - 1 = (j : Int) by omega]
        obtain ⟨ak, af, rfl, hca⟩ := (HA.out.below hbl.out).get j (by rw [HNE.out]; omega)
        obtain ⟨bk, bf, rfl, hcb⟩ := (HB.out.below hbl.out).get j (by rw [HN.out]; omega)
        have hxl := dig_get da j
        have hyl := dig_get db j
        obtain ⟨x, hx⟩ : ∃ x, a.getD j 0 = x := ⟨_, rfl⟩
        obtain ⟨y, hy⟩ : ∃ y, b.getD j 0 = y := ⟨_, rfl⟩
        rw [hx] at hca hxl
        rw [hy] at hcb hyl
        have HX := hidden hx
        have HY := hidden hy
        clear hx hy
        by_cases hxy : x = y
        · subst hxy
          go_wp2
          go_quiet (fail)
          go_wp2
          go_roundw
          case rel => exact ⟨j, by omega, by go_num, hidden (drop_eq j (by rw [HNE.out]; omega) (by rw [HNE.out, HN.out]) hd.out (by rw [HX.out, HY.out])), below_drewN hbl.out _⟩
          case measure => simp [intOf]
        · have hfin : Hid (r = sg x y) := hidden (by
            rw [← HR.out]
            by_cases hlt : x < y
            · rw [sg_lt hlt, sg_lt (cmp_at da j (by rw [HNE.out]; omega) (by rw [HNE.out, HN.out]) hd.out (by rw [HX.out, HY.out]; exact hlt))]
            · rw [sg_gt (show y < x by omega), sg_gt (cmp_at db j (by rw [HN.out]; omega) (by rw [HNE.out, HN.out]) hd.out.symm (by rw [HX.out, HY.out]; omega))])
          have HXY := hidden hxy
          have hxb : (x == y) = false := beq_eq_false_iff_ne.2 hxy
          clear hxy
          go_wp2
          go_quiet (fail)
          go_wp2
          go_quiet ((go_at_call 62; exact quiet_more (cmpU32_any _ _ _)))
          go_wp2
          go_ret
          exact ⟨by rw [hfin.out]; rfl, below_drewN (below_drewN hbl.out _) _⟩
      · obtain rfl : k = 0 := by omega
        have hfin : Hid (r = 0) := hidden (by
          have := hd.out
          simp only [List.drop_zero] at this
          rw [← HR.out, this, sg_eq rfl])
        go_wp2
        go_ret
        exact ⟨by rw [hfin.out]; rfl, hbl.out⟩
  · have hfin : sg a.length b.length = sg (val a) (val b) := by
      by_cases hlt : a.length < b.length
      · rw [sg_lt hlt, sg_lt (cmp_len da tb hlt)]
      · rw [sg_gt (show b.length < a.length by omega), sg_gt (cmp_len db ta (by omega))]
    obtain ⟨r, hr⟩ : ∃ r, sg (val a) (val b) = r := ⟨_, rfl⟩
    rw [hr] at hfin ⊢
    obtain ⟨n, hn⟩ : ∃ n, a.length = n := ⟨_, rfl⟩
    obtain ⟨m, hm⟩ : ∃ m, b.length = m := ⟨_, rfl⟩
    rw [hn] at hfin hne ⊢
    rw [hm] at hfin hlb hne ⊢
    have HF := hidden hfin
    have hxb : (n == m) = false := beq_eq_false_iff_ne.2 hne
    clear hfin hne hn hm hr
    go_enter Tryd.func47, Tryd.ntmps47
    go_wp2_with (go_at_call 61; refine (cmpInt_any _ _ _).mono ?_; rintro e w' ⟨rfl, hw⟩; rw [hw, HF.out])
    go_ret
    exact ⟨rfl, Below.refl _ _⟩
end Nm
end Go.Proofs.YtapdkibiegeijaaDoor
