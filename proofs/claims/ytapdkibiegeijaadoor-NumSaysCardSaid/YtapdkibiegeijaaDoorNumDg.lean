/- Num's Digits. Conditions: a Num of at most 10^8 parts. -/
import Derived.Test.YtapdkibiegeijaaDoorNumTx
namespace Go.Proofs.YtapdkibiegeijaaDoor
open Go.RowKit
namespace Nm
open Go.Lib

/-- How many digits a part has; 0 has none. -/
def lnD (p : Nat) : Nat := if p = 0 then 0 else nDigits p
theorem lnD_step {p : Nat} (h : 0 < p) : lnD p = lnD (p / 10) + 1 := by
  unfold lnD
  rw [if_neg (by omega)]
  by_cases h9 : p < 10
  · rw [nDigits_small h9, if_pos (by omega)]
  · rw [nDigits_big h9, if_neg (by omega)]
theorem nD_len (u : Nat) : nDigits u = (decDigits u).length := by rw [decDigits_eq, List.length_map, List.length_range]
theorem nD_val (l : List Nat) (n : Nat) (hn : l.length = n + 1) (hd : Dig l) (h0 : 0 < l.getD n 0) : nDigits (val l) = 9 * n + nDigits (l.getD n 0) := by
  have hl : (l.take n).length = n := by rw [List.length_take]; omega
  have hv := val_lt (dig_take hd n)
  rw [hl, pw_ten] at hv
  rw [nD_len, nD_len, ← val_last l n hn, hl, pw_ten, show val (l.take n) + 10 ^ (9 * n) * l.getD n 0 = l.getD n 0 * 10 ^ (9 * n) + val (l.take n) by rw [Nat.mul_comm]; omega, dec_behind _ _ _ h0 hv, List.length_append, dN_len]
  omega
/-- How many digits z has. -/
def digs (z : Int) : Nat := nDigits z.natAbs
theorem natAbs_sgnv (neg : Bool) (n : Nat) : (sgnv neg n).natAbs = n := by
  cases neg <;> simp [sgnv]
set_option maxHeartbeats 1600000 in
theorem digits_zero (w : World) (ao : Option Addr) (cap : Nat) (neg : Bool) :
    Calls Tryd.prog 29 #[.agg #[.bool neg, .slice ao 0 cap]] w fun e w' => e = .returned (.int .i64 1) ∧ Below w.heap.size w w' := by
  have hb := hidden ((Below.refl w.heap.size w).alloc (Nat.le_refl _) (.cells #[.bool neg, .slice ao 0 cap] 25))
  go_enter Tryd.func29, Tryd.ntmps29
  go_wp2
  go_ret
  exact ⟨rfl, hb.out⟩
set_option maxHeartbeats 3200000 in
theorem digits_in (neg : Bool) (ao : Option Addr) (cap n : Nat) (l : List Nat) (w : World) (hn : l.length = n + 1) (hlim : n < 100000000) (hs : SrcN w ao l) (hd : Dig l) (ht : Trm l) :
    Calls Tryd.prog 29 #[.agg #[.bool neg, .slice ao (n + 1) cap]] w fun e w' => e = .returned (.int .i64 (nDigits (val l) : Int)) ∧ Below w.heap.size w w' := by
  obtain ⟨bk, off, rfl, hbk, hAt⟩ := hs (by omega)
  have hcl := hAt.get n (by omega)
  have hxl := dig_get hd n
  have hx0 : 0 < l.getD n 0 := by
    have := ht (by omega)
    rw [hn, Nat.add_sub_cancel] at this
    omega
  have hnv := nD_val l n hn hd hx0
  obtain ⟨t, hx⟩ : ∃ x, l.getD n 0 = x := ⟨_, rfl⟩
  rw [hx] at hcl hxl hx0 hnv
  obtain ⟨r, hr⟩ : ∃ r, nDigits (val l) = r := ⟨_, rfl⟩
  rw [hr] at hnv ⊢
  have HR := hidden (show r = 9 * n + lnD t by unfold lnD; rw [if_neg (by omega)]; exact hnv)
  have hni : ¬ ((n : Int) + 1 ≤ (n : Int)) := by omega
  have hb1 := (Below.refl w.heap.size w).alloc (Nat.le_refl _) (.cells #[.bool neg, .slice (some ⟨bk, off, none⟩) (n + 1) cap] 25)
  have HB := hidden hb1
  have hcl1 := (hb1.cell (p := ⟨bk, off + n, none⟩) hbk).trans hcl
  have hnz : ((n : Int) + 1 == 0) = false := by rw [beq_eq_false_iff_ne]; omega
  clear hx hr hnv hs hd ht hAt hcl hn hx0 hb1
  go_enter Tryd.func29, Tryd.ntmps29
  go_wp2
  go_loop [4, 5] (fun c p => ∃ (q : Nat), p = .int .u32 (q : Int) ∧ q ≤ t ∧ ∃ k : Nat, c = .int .i64 (k : Int) ∧ k + q ≤ 9 * n + t ∧ Hid (r = k + lnD q)) (fun _ p => (RowKit.intOf p).toNat)
  case atStart => exact ⟨t, rfl, Nat.le_refl _, 9 * n, by go_num, Nat.le_refl _, HR⟩
  case round =>
    obtain ⟨q, rfl, hq, k, rfl, hk, hr⟩ := hrel
    by_cases hlt : 0 < q
    · have hr2 : Hid (r = (k + 1) + lnD (q / 10)) := hidden (by have := hr.out; rw [lnD_step hlt] at this; omega)
      obtain ⟨q2, hq2⟩ : ∃ q2, q / 10 = q2 := ⟨_, rfl⟩
      have hqi : (q : Int) / 10 = (q2 : Int) := by omega
      rw [hq2] at hr2
      go_wp2
      go_round
      case rel => exact ⟨q2, by go_num, by omega, k + 1, by go_num, by omega, hr2⟩
      case measure => simp [RowKit.intOf]; omega
    · obtain rfl : q = 0 := by omega
      have hr2 : Hid (r = k) := hidden (by have := hr.out; rw [show lnD 0 = 0 from rfl] at this; omega)
      go_wp2
      go_ret
      exact ⟨by rw [hr2.out]; rfl, HB.out⟩
theorem digits_any (v : Value) (z : Int) (k : Nat) (w : World) (h : NumAt w v z k) (hk : k < 100000000) :
    Calls Tryd.prog 29 #[v] w fun e w' => e = .returned (.int .i64 (digs z : Int)) ∧ Below w.heap.size w w' := by
  obtain ⟨neg, ao, cap, l, rfl, _, hs, hd, ht, hl, _, rfl⟩ := h
  unfold digs
  rw [natAbs_sgnv]
  rcases Nat.eq_zero_or_pos l.length with h0 | h0
  · obtain rfl := List.length_eq_zero_iff.1 h0
    rw [show nDigits (val []) = 1 from nDigits_small (by decide)]
    exact digits_zero w ao cap neg
  · obtain ⟨n, hn⟩ : ∃ n, l.length = n + 1 := ⟨l.length - 1, by omega⟩
    rw [hn]
    exact digits_in neg ao cap n l w hn (by omega) hs hd ht
end Nm
end Go.Proofs.YtapdkibiegeijaaDoor
