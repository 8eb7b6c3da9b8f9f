/- num.dividedShort, num.guess, num.takeAway, num.putBack. Conditions: as each states. -/
import Derived.Test.YtapdkibiegeijaaDoorNumC
namespace Go.Proofs.YtapdkibiegeijaaDoor
open Go.RowKit
namespace Nm

/-- What a division by one part answers: a new row and what is left. -/
def Short (w w' : World) (e : Ending) (A b n : Nat) : Prop := ∃ (g : Nat) (T : List Nat) (left : Nat), T.length = n ∧ e = .returned (.tuple #[.slice (some ⟨g, 0, none⟩) n n, .int .u32 (left : Int)]) ∧ w.heap.size ≤ g ∧ RowN w' g T ∧ Dig T ∧ A = val T * b + left ∧ left < b ∧ Below w.heap.size w w'
theorem short_lt {left x b : Nat} (h1 : left < b) (h2 : x < 1000000000) (h3 : b < 4294967296) : (left * 1000000000 + x) / b < 1000000000 ∧ (left * 1000000000 + x) % b < b ∧ left * 1000000000 + x < 18446744073709551616 := ⟨short_bound h1 h2, Nat.mod_lt _ (by omega), by omega⟩
set_option maxHeartbeats 3200000 in
theorem dividedShort_any (ao : Option Addr) (ac : Nat) (a : List Nat) (b : Nat) (w : World) (hla : a.length < 536870912) (hb0 : 0 < b) (hbl : b < 1000000000) (ha : SrcN w ao a) (da : Dig a) :
    Calls Tryd.prog 66 #[.slice ao a.length ac, .int .u32 (b : Int)] w fun e w' => Short w w' e (val a) b a.length := by
  obtain ⟨n, hn⟩ : ∃ n, a.length = n := ⟨_, rfl⟩
  rw [hn] at hla ⊢
  have HNA := hidden hn
  have HA := hidden ha
  have HDA := hidden da
  clear hn ha da
  have hmk := make_u32 .i64 .i64 n (by omega) (n : Int) (n : Int) (by omega) (by omega)
  go_enter Tryd.func66, Tryd.ntmps66
  go_wp2
  have hrow := rowN_alloc w (List.replicate n 0)
  have HROW := hidden hrow
  clear hrow hmk
  go_loopw [5, 6] (fun c i wr => ∃ (k left : Nat) (T : List Nat), k ≤ n ∧ i = .int .i64 ((k : Int) - 1) ∧ c = .int .u32 left ∧ left < b ∧ Hid (T.length = n) ∧ Hid (RowN wr w.heap.size T) ∧ Hid (Dig T) ∧
    Hid (val (a.drop k) = val (T.drop k) * b + left) ∧ Hid (Below w.heap.size w wr)) (fun _ i _ => (intOf i + 1).toNat)
  case atStart => exact ⟨n, 0, _, Nat.le_refl _, rfl, rfl, hb0, hidden (by rw [List.length_replicate]), HROW, hidden (dig_zeros _), hidden (by rw [List.drop_of_length_le (by rw [HNA.out]; omega), List.drop_of_length_le (by rw [List.length_replicate]; omega)]; simp [val]), hidden ((Below.refl _ _).alloc (Nat.le_refl _) _)⟩
  case round =>
    obtain ⟨k, left, T, hk, rfl, rfl, hlb, hT, hR, hD, hv, hbe⟩ := hrel
    clear HROW
    by_cases h0 : 0 < k
    · obtain ⟨j, rfl⟩ : ∃ j, k = j + 1 := ⟨k - 1, by omega⟩
      rw [show ((j + 1 : Nat) : Int) - 1 = (j : Int) by omega]
      obtain ⟨ak, af, rfl, hca⟩ := (HA.out.below hbe.out).get j (by rw [HNA.out]; omega)
      have hxl := dig_get HDA.out j
      obtain ⟨x, hx⟩ : ∃ x, a.getD j 0 = x := ⟨_, rfl⟩
      rw [hx] at hca hxl
      have HX := hidden hx
      have hfr := hR.out.frozen j
      have hto := hR.out.cell j (by rw [hT.out]; omega)
      obtain ⟨old, hold⟩ : ∃ x, T.getD j 0 = x := ⟨_, rfl⟩
      rw [hold] at hto
      obtain ⟨p1, p2, p3⟩ := short_lt hlb hxl (show b < 4294967296 by omega)
      obtain ⟨q, hq⟩ : ∃ q, (left * 1000000000 + x) / b = q := ⟨_, rfl⟩
      obtain ⟨r, hr⟩ : ∃ r, (left * 1000000000 + x) % b = r := ⟨_, rfl⟩
      have hdm := Nat.div_add_mod (left * 1000000000 + x) b
      rw [hq] at p1 hdm
      rw [hr] at p2 hdm
      have hqi : ((left : Int) * 1000000000 + x) / (b : Int) = (q : Int) := by rw [← hq]; simp
      have hri : ((left : Int) * 1000000000 + x) % (b : Int) = (r : Int) := by rw [← hr]; simp
      have HQ := hidden hdm
      have hbne : ((b : Int) == 0) = false := by rw [beq_eq_false_iff_ne]; omega
      clear hx hold hq hr hdm
      go_wp2
      go_region
      go_wp2
      go_roundw
      case rel =>
        refine ⟨j, r, T.set j q, by omega, by go_num, rfl, p2, hidden (by rw [List.length_set]; exact hT.out), hidden (hR.out.set j q), hidden (dig_set hD.out _ _ p1), hidden ?_, hidden ((hbe.out.setCell (Nat.le_refl _) _).drew)⟩
        rw [val_drop a, val_drop (T.set j q), drop_set, getD_set_self _ _ _ (by rw [hT.out]; omega), HX.out]
        exact short_step hv.out (by rw [← HQ.out, Nat.mul_comm])
      case measure => simp [intOf]
    · obtain rfl : k = 0 := by omega
      go_wp2
      go_ret2
      have e2 := hv.out
      rw [List.drop_zero, List.drop_zero] at e2
      exact ⟨w.heap.size, T, left, hT.out, rfl, Nat.le_refl _, hR.out, hD.out, e2, hlb, hbe.out⟩

/-- What the guess of a part answers. -/
def Guess (w w' : World) (e : Ending) (V2 U3 : Nat) : Prop := ∃ p : Nat, e = .returned (.int .u64 (p : Int)) ∧ p < 1000000000 ∧ p * V2 ≤ U3 ∧ (U3 < (p + 1) * V2 ∨ p = 999999999) ∧ Below w.heap.size w w'
theorem guess_begin {head last sec w2 p : Nat} (h1 : head < (p + 1) * last) (h2 : w2 < 1000000000) : w2 + 1000000000 * head < (p + 1) * (sec + 1000000000 * last) := by
  have e : (p + 1) * (sec + 1000000000 * last) = (p + 1) * sec + 1000000000 * ((p + 1) * last) := by grind
  rw [e]
  generalize (p + 1) * last = z at *
  omega
theorem guess_step {p sec lf w2 last head : Nat} (h : p * last + lf = head) (hgt : lf * 1000000000 + w2 < p * sec) : 0 < p ∧ (p - 1) * last + (lf + last) = head ∧ w2 + 1000000000 * head < (p - 1 + 1) * (sec + 1000000000 * last) := by
  cases p with
  | zero => omega
  | succ p =>
    rw [show p + 1 - 1 = p by omega]
    refine ⟨by omega, by rw [Nat.add_mul, Nat.one_mul] at h; omega, ?_⟩
    have e : (p + 1) * (sec + 1000000000 * last) = (p + 1) * sec + 1000000000 * ((p + 1) * last) := by grind
    rw [e]
    generalize (p + 1) * last = z at *
    omega
theorem guess_last {p sec lf w2 last head : Nat} (h : p * last + lf = head) (hle : p * sec ≤ lf * 1000000000 + w2) : p * (sec + 1000000000 * last) ≤ w2 + 1000000000 * head := by
  have e : p * (sec + 1000000000 * last) = p * sec + 1000000000 * (p * last) := by grind
  rw [e]
  generalize p * last = z at *
  omega
theorem mul_lim {p s : Nat} (h1 : p < 1000000000) (h2 : s < 1000000000) : p * s ≤ 999999998000000001 := Nat.mul_le_mul (show p ≤ 999999999 by omega) (show s ≤ 999999999 by omega)
set_option maxHeartbeats 3200000 in
theorem guess_any (ao bo : Option Addr) (ac bc n : Nat) (W V : List Nat) (w : World) (hn : 2 ≤ n) (hn2 : n < 536870912) (hW : W.length = n + 1) (hV : V.length = n) (ha : SrcN w ao W) (hb : SrcN w bo V) (dW : Dig W) (dV : Dig V)
    (hl0 : V.getD (n - 1) 0 ≠ 0) (hle : W.getD n 0 ≤ V.getD (n - 1) 0) :
    Calls Tryd.prog 76 #[.slice ao (n + 1) ac, .slice bo n bc] w fun e w' => Guess w w' e (V.getD (n - 2) 0 + 1000000000 * V.getD (n - 1) 0) (W.getD (n - 2) 0 + 1000000000 * (W.getD (n - 1) 0 + 1000000000 * W.getD n 0)) := by
  obtain ⟨ak, af, rfl, hak, hAt⟩ := ha (by omega)
  obtain ⟨bk, bf, rfl, hbk, hBt⟩ := hb (by omega)
  have c1 := hBt.get (n - 1) (by omega)
  have c2 := hBt.get (n - 2) (by omega)
  have c3 := hAt.get n (by omega)
  have c4 := hAt.get (n - 1) (by omega)
  have c5 := hAt.get (n - 2) (by omega)
  have l1 := dig_get dV (n - 1)
  have l2 := dig_get dV (n - 2)
  have l4 := dig_get dW (n - 1)
  have l5 := dig_get dW (n - 2)
  obtain ⟨last, h1⟩ : ∃ x, V.getD (n - 1) 0 = x := ⟨_, rfl⟩
  obtain ⟨sec, h2⟩ : ∃ x, V.getD (n - 2) 0 = x := ⟨_, rfl⟩
  obtain ⟨w0, h3⟩ : ∃ x, W.getD n 0 = x := ⟨_, rfl⟩
  obtain ⟨w1, h4⟩ : ∃ x, W.getD (n - 1) 0 = x := ⟨_, rfl⟩
  obtain ⟨w2, h5⟩ : ∃ x, W.getD (n - 2) 0 = x := ⟨_, rfl⟩
  rw [h1] at c1 l1 hl0 hle
  rw [h2] at c2 l2
  rw [h3] at c3 hle
  rw [h4] at c4 l4
  rw [h5] at c5 l5
  rw [h1, h2, h3, h4, h5]
  clear h1 h2 h3 h4 h5 hAt hBt ha hb hW hV dW dV
  obtain ⟨head, hh⟩ : ∃ head, w0 * 1000000000 + w1 = head := ⟨_, rfl⟩
  have hhi : (w0 : Int) * 1000000000 + (w1 : Int) = (head : Int) := by omega
  have HH := hidden (show w1 + 1000000000 * w0 = head by omega)
  have hhl : head < 1000000000 * (last + 1) := by omega
  rw [HH.out]
  obtain ⟨q, hq⟩ : ∃ q, head / last = q := ⟨_, rfl⟩
  have hqi : (head : Int) / (last : Int) = (q : Int) := by rw [← hq]; simp
  have hqm := Nat.div_add_mod head last
  have hqr := Nat.mod_lt head (show 0 < last by omega)
  rw [hq] at hqm
  have hql : q ≤ head := by
    rw [← hq]; exact Nat.div_le_self _ _
  have hlne : ((last : Int) == 0) = false := by rw [beq_eq_false_iff_ne]; omega
  have HC5 := hidden c5
  have HQ := hidden hq
  have HQM := hidden hqm
  have HQR := hidden hqr
  obtain ⟨ql, hql2⟩ : ∃ z, q * last = z := ⟨_, rfl⟩
  have hqli : (q : Int) * (last : Int) = (ql : Int) := by rw [← hql2]; exact (Int.natCast_mul q last).symm
  have hqlh : ql ≤ head := by rw [← hql2, Nat.mul_comm]; omega
  have HQL := hidden hql2
  clear hh hq hqm hqr hql2 c5
  by_cases h9 : q ≤ 999999999
  · have hl : Hid (head - ql < 2000000000 ∧ q * last + (head - ql) = head ∧ w2 + 1000000000 * head < (q + 1) * (sec + 1000000000 * last)) := hidden (by
      have e := HQM.out
      have e2 := HQR.out
      have e3 := HQL.out
      refine ⟨by rw [Nat.mul_comm] at e; omega, by omega, guess_begin ?_ l5⟩
      rw [Nat.add_mul, Nat.one_mul, Nat.mul_comm q]; omega)
    have hs : Hid (((head - ql : Nat) : Int) = (head : Int) - ql) := hidden (by omega)
    go_enter Tryd.func76, Tryd.ntmps76
    go_wp2
    go_quiet (fail)
    go_wp2
    go_quiet (fail)
    go_wp2
    go_loopw [9, 10] (fun c d wr => ∃ p lf : Nat, c = .int .u64 p ∧ d = .int .u64 lf ∧ p < 1000000000 ∧ lf < 2000000000 ∧ Hid (p * last + lf = head) ∧ Hid (w2 + 1000000000 * head < (p + 1) * (sec + 1000000000 * last) ∨ p = 999999999) ∧ Hid (Below w.heap.size w wr)) (fun c _ _ => (intOf c).toNat)
    case atStart => exact ⟨q, head - ql, rfl, by rw [hs.out], by omega, hl.out.1, hidden hl.out.2.1, hidden (.inl hl.out.2.2), hidden (below_drewN (Below.refl _ _) _)⟩
    case round =>
      obtain ⟨p, lf, rfl, rfl, hp, hlf, hPL, hG, hbl⟩ := hrel
      have hcw : wr.cell? ⟨ak, af + (n - 2), none⟩ = some (.int .u32 (w2 : Int)) := (hbl.out.cell (p := ⟨ak, af + (n - 2), none⟩) hak).trans HC5.out
      have hm := mul_lim hp l2
      obtain ⟨z, hz⟩ : ∃ z, p * sec = z := ⟨_, rfl⟩
      rw [hz] at hm
      have hzi : (p : Int) * (sec : Int) = (z : Int) := by rw [← hz]; exact (Int.natCast_mul p sec).symm
      have HZ := hidden hz
      clear hz
      by_cases hgt : lf * 1000000000 + w2 < z
      · have hst := guess_step hPL.out (by rw [HZ.out]; exact hgt)
        have hp0 := hst.1
        have HST := hidden hst
        clear hst
        go_wp2
        go_roundw
        case rel => exact ⟨p - 1, lf + last, by go_num, by go_num, by omega, by omega, hidden HST.out.2.1, hidden (.inl HST.out.2.2), hbl⟩
        case measure => simp [intOf]; omega
      · go_wp2
        go_ret
        exact ⟨p, rfl, hp, guess_last hPL.out (by rw [HZ.out]; omega), hG.out, hbl.out⟩
  · have h99 : 999999999 * last ≤ head := by
      have := Nat.mul_le_mul_right last (show 999999999 ≤ q by omega)
      rw [HQL.out] at this
      omega
    have hs : Hid (((head - 999999999 * last : Nat) : Int) = (head : Int) - 999999999 * last) := hidden (by omega)
    go_enter Tryd.func76, Tryd.ntmps76
    go_wp2
    go_quiet (fail)
    go_wp2
    go_quiet (fail)
    go_wp2
    go_loopw [9, 10] (fun c d wr => ∃ p lf : Nat, c = .int .u64 p ∧ d = .int .u64 lf ∧ p < 1000000000 ∧ lf < 2000000000 ∧ Hid (p * last + lf = head) ∧ Hid (w2 + 1000000000 * head < (p + 1) * (sec + 1000000000 * last) ∨ p = 999999999) ∧ Hid (Below w.heap.size w wr)) (fun c _ _ => (intOf c).toNat)
    case atStart => exact ⟨999999999, head - 999999999 * last, rfl, by rw [hs.out], by omega, by omega, hidden (by omega), hidden (.inr rfl), hidden (below_drewN (Below.refl _ _) _)⟩
    case round =>
      obtain ⟨p, lf, rfl, rfl, hp, hlf, hPL, hG, hbl⟩ := hrel
      have hcw : wr.cell? ⟨ak, af + (n - 2), none⟩ = some (.int .u32 (w2 : Int)) := (hbl.out.cell (p := ⟨ak, af + (n - 2), none⟩) hak).trans HC5.out
      have hm := mul_lim hp l2
      obtain ⟨z, hz⟩ : ∃ z, p * sec = z := ⟨_, rfl⟩
      rw [hz] at hm
      have hzi : (p : Int) * (sec : Int) = (z : Int) := by rw [← hz]; exact (Int.natCast_mul p sec).symm
      have HZ := hidden hz
      clear hz
      by_cases hgt : lf * 1000000000 + w2 < z
      · have hst := guess_step hPL.out (by rw [HZ.out]; exact hgt)
        have hp0 := hst.1
        have HST := hidden hst
        clear hst
        go_wp2
        go_roundw
        case rel => exact ⟨p - 1, lf + last, by go_num, by go_num, by omega, by omega, hidden HST.out.2.1, hidden (.inl HST.out.2.2), hbl⟩
        case measure => simp [intOf]; omega
      · go_wp2
        go_ret
        exact ⟨p, rfl, hp, guess_last hPL.out (by rw [HZ.out]; omega), hG.out, hbl.out⟩
end Nm
end Go.Proofs.YtapdkibiegeijaaDoor
