/- Division of whole numbers in parts: one step of each loop, the guess of a part, what is taken away and put back. Pure. No conditions but those that each states. -/
import Derived.Test.YtapdkibiegeijaaDoorNumF
namespace Go.Proofs.YtapdkibiegeijaaDoor
namespace Nm

theorem getD_set_self (l : List Nat) (i d : Nat) (h : i < l.length) : (l.set i d).getD i 0 = d := by
  rw [List.getD_eq_getElem?_getD, List.getElem?_set_self h]; rfl
theorem getD_set_ne (l : List Nat) (i j d : Nat) (h : i ≠ j) : (l.set i d).getD j 0 = l.getD j 0 := by
  rw [List.getD_eq_getElem?_getD, List.getElem?_set_ne h, ← List.getD_eq_getElem?_getD]
theorem drop_set (l : List Nat) (i d : Nat) : (l.set i d).drop (i + 1) = l.drop (i + 1) := List.drop_set_of_lt (by omega)
theorem take_set (l : List Nat) (i d : Nat) : (l.set i d).take i = l.take i := by
  rw [List.take_set_of_le (Nat.le_refl i)]
/-- One step of the division by one part. -/
theorem short_step {A Q b left x q left' : Nat} (h : A = Q * b + left) (hp : left * 1000000000 + x = q * b + left') : x + 1000000000 * A = (q + 1000000000 * Q) * b + left' := by grind
theorem short_bound {left x b : Nat} (h1 : left < b) (h2 : x < 1000000000) : (left * 1000000000 + x) / b < 1000000000 := by
  rw [Nat.div_lt_iff_lt_mul (by omega)]
  have := Nat.mul_le_mul_right 1000000000 (show left + 1 ≤ b by omega)
  omega

/-- The guess of a part. -/
theorem guess_arith {P lv lw V2 U3 V W part : Nat} (hv : lv < P) (hw : lw < P) (eV : V = lv + P * V2) (eW : W = lw + P * U3) (hWV : W < 1000000000 * V) (h1 : part * V2 ≤ U3)
    (h2 : U3 < (part + 1) * V2 ∨ part = 999999999) (h3 : part < 1000000000) (h4 : 1000000000 ≤ V2) : W < (part + 1) * V ∧ part * V < W + V := by
  constructor
  · rcases h2 with h2 | h2
    · have e1 := Nat.mul_le_mul_left P (show U3 + 1 ≤ (part + 1) * V2 by omega)
      have e2 : (part + 1) * V = (part + 1) * lv + P * ((part + 1) * V2) := by rw [eV]; grind
      rw [e2, eW]
      rw [Nat.mul_add] at e1
      omega
    · subst h2; exact hWV
  · have e1 := Nat.mul_le_mul_left P h1
    have e2 : part * V = part * lv + P * (part * V2) := by rw [eV]; grind
    have e3 := Nat.mul_le_mul_left part (show lv ≤ P by omega)
    have e4 : part * P < P * V2 := by
      have a1 := Nat.mul_lt_mul_of_pos_right h3 (show 0 < P by omega)
      have a2 := Nat.mul_le_mul_left P h4
      rw [Nat.mul_comm P] at a2
      omega
    omega
theorem top2 (l : List Nat) (n : Nat) (h : 2 ≤ n) (hl : n = l.length) : val l = val (l.take (n - 2)) + pw (n - 2) * (l.getD (n - 2) 0 + 1000000000 * l.getD (n - 1) 0) := by
  subst hl
  rw [val_split l (l.length - 2) (by omega), val_drop l (l.length - 2), show l.length - 2 + 1 = l.length - 1 by omega, val_drop l (l.length - 1), List.drop_of_length_le (show l.length ≤ l.length - 1 + 1 by omega)]
  simp [val]
theorem top3 (l : List Nat) (n : Nat) (h : 2 ≤ n) (hl : n + 1 = l.length) : val l = val (l.take (n - 2)) + pw (n - 2) * (l.getD (n - 2) 0 + 1000000000 * (l.getD (n - 1) 0 + 1000000000 * l.getD n 0)) := by
  rw [val_split l (n - 2) (by omega), val_drop l (n - 2), show n - 2 + 1 = n - 1 by omega, val_drop l (n - 1), show n - 1 + 1 = n by omega, val_drop l n, List.drop_of_length_le (show l.length ≤ n + 1 by omega)]
  simp [val]
/-- A guessed part is right, or too great by 1. -/
theorem guess_ok {W V : List Nat} {n part : Nat} (hn : 2 ≤ n) (hV : n = V.length) (hW : n + 1 = W.length) (dV : Dig V) (dW : Dig W) (hl : V.getD (n - 1) 0 ≠ 0) (hWV : val W < 1000000000 * val V)
    (h1 : part * (V.getD (n - 2) 0 + 1000000000 * V.getD (n - 1) 0) ≤ W.getD (n - 2) 0 + 1000000000 * (W.getD (n - 1) 0 + 1000000000 * W.getD n 0))
    (h2 : W.getD (n - 2) 0 + 1000000000 * (W.getD (n - 1) 0 + 1000000000 * W.getD n 0) < (part + 1) * (V.getD (n - 2) 0 + 1000000000 * V.getD (n - 1) 0) ∨ part = 999999999) (h3 : part < 1000000000) :
    val W < (part + 1) * val V ∧ part * val V < val W + val V := by
  have a1 := val_lt (dig_take dV (n - 2))
  have a2 := val_lt (dig_take dW (n - 2))
  rw [List.length_take, Nat.min_eq_left (by omega)] at a1 a2
  exact guess_arith a1 a2 (top2 V n hn hV) (top3 W n hn hW) hWV h1 h2 h3 (by omega)

/-- One step of what is taken away. -/
theorem away_step {D Y A P c x p s w d c' part : Nat} (h : D + part * Y = A + P * c) (h1 : c + x * part = s + 1000000000 * p) (h2 : d + s = w + 1000000000 * (c' - p)) (h3 : p ≤ c') : (D + P * d) + part * (Y + P * x) = (A + P * w) + (1000000000 * P) * c' := by
  obtain ⟨k, rfl⟩ := Nat.exists_eq_add_of_le h3
  rw [Nat.add_sub_cancel_left] at h2
  grind
theorem away_bound {c x part : Nat} (h1 : c ≤ 1000000000) (h2 : x < 1000000000) (h3 : part < 1000000000) : (c + x * part) / 1000000000 + 1 ≤ 1000000000 ∧ c + x * part < 18446744073709551616 := by
  have e := Nat.mul_le_mul (show x ≤ 999999999 by omega) (show part ≤ 999999999 by omega)
  omega
/-- What was taken away was not too much. -/
theorem away_fits {w V W wl W' c n part : Nat} (hV : V < pw n) (eW : W = wl + pw n * w) (h : W' + part * V = wl + pw n * c) (hc : c ≤ w) (hlt : W < (part + 1) * V) : W' + part * V = W ∧ W' < V := by
  obtain ⟨k, rfl⟩ := Nat.exists_eq_add_of_le hc
  rw [Nat.mul_add] at eW
  rw [Nat.add_mul, Nat.one_mul] at hlt
  have : k = 0 := by
    cases k with
    | zero => rfl
    | succ k =>
      rw [Nat.mul_succ] at eW
      omega
  subst this
  omega
/-- What was taken away was too much: by once V. -/
theorem away_lacks {w V W wl W' c n part W2 c2 : Nat} (hV : V < pw n) (hW' : W' < pw n) (hW2 : W2 < pw n) (eW : W = wl + pw n * w) (h : W' + part * V = wl + pw n * c) (hc : w < c) (hgt : part * V < W + V) (hlt : W < (part + 1) * V)
    (hp : W2 + pw n * c2 = W' + V) : 0 < part ∧ W2 + (part - 1) * V = W ∧ W2 < V := by
  obtain ⟨k, rfl⟩ := Nat.exists_eq_add_of_lt hc
  have e1 : pw n * (w + k + 1) = pw n * w + pw n * k + pw n := by rw [Nat.mul_add, Nat.mul_add, Nat.mul_one]
  rw [e1] at h
  have hp0 : 0 < part := by
    cases part with
    | zero => omega
    | succ p => omega
  obtain ⟨p, rfl⟩ := Nat.exists_eq_add_of_lt hp0
  rw [show 0 + p + 1 = p + 1 by omega] at *
  rw [show p + 1 - 1 = p by omega]
  simp only [Nat.add_mul, Nat.one_mul] at *
  have hk : k = 0 := by
    cases k with
    | zero => rfl
    | succ k =>
      rw [Nat.mul_succ] at h
      omega
  subst hk
  have hc2 : c2 = 1 := by
    cases c2 with
    | zero => omega
    | succ c2 =>
      cases c2 with
      | zero => rfl
      | succ c2 =>
        rw [Nat.mul_succ, Nat.mul_succ] at hp
        omega
  subst hc2
  omega
/-- One part of the quotient. -/
theorem long_step {rl r Wi W2 QD V N P q : Nat} (h : (rl + P * Wi) + (QD * V) * (1000000000 * P) = N) (hq : W2 + q * V = Wi) (hr : r = rl + P * W2) : r + ((q + 1000000000 * QD) * V) * P = N := by
  subst hr hq h
  grind
/-- What the scaled division comes to. -/
theorem long_end {a b s Q R : Nat} (hb : 0 < b) (hs : 0 < s) (h : R + Q * (b * s) = a * s) (hR : R < b * s) : Q = a / b ∧ R = (a % b) * s := by
  have e : a = b * (a / b) + a % b := (Nat.div_add_mod a b).symm
  have hm := Nat.mod_lt a hb
  have hQ : Q = a / b := by
    have h1 : (a * s) / (b * s) = Q := by
      rw [← h, Nat.add_mul_div_right _ _ (Nat.mul_pos hb hs), Nat.div_eq_of_lt hR, Nat.zero_add]
    rw [Nat.mul_div_mul_right _ _ hs] at h1
    exact h1.symm
  refine ⟨hQ, ?_⟩
  subst hQ
  have e2 : a * s = (a % b) * s + (a / b) * (b * s) := by
    conv => lhs; rw [e]
    grind
  omega
end Nm
end Go.Proofs.YtapdkibiegeijaaDoor
