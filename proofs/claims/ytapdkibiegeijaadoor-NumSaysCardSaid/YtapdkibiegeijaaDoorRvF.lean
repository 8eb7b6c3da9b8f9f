/- Whole numbers as lists of limbs below 10000, the least ones first: their values, and one step of each loop that reckons with them. Pure. No conditions but those that each states. -/
import Derived.Lib.Hide
namespace Go.Proofs.YtapdkibiegeijaaDoor
namespace Rv

def pw : Nat → Nat
  | 0 => 1
  | n + 1 => 10000 * pw n
def val : List Nat → Nat
  | [] => 0
  | x :: xs => x + 10000 * val xs
def Dig (l : List Nat) : Prop := ∀ x ∈ l, x < 10000
def Trm (l : List Nat) : Prop := 0 < l.length → l.getD (l.length - 1) 0 ≠ 0

theorem pw_succ (n : Nat) : pw (n + 1) = 10000 * pw n := rfl
theorem pw_pos (n : Nat) : 0 < pw n := by
  induction n with
  | zero => decide
  | succ n ih => rw [pw]; omega
theorem pw_add (a b : Nat) : pw (a + b) = pw a * pw b := by
  induction b with
  | zero => simp [pw]
  | succ b ih => rw [← Nat.add_assoc, pw, pw, ih, Nat.mul_left_comm]
theorem pw_mono {a b : Nat} (h : a ≤ b) : pw a ≤ pw b := by
  obtain ⟨k, rfl⟩ := Nat.exists_eq_add_of_le h
  rw [pw_add]
  exact Nat.le_mul_of_pos_right _ (pw_pos k)
theorem val_append (a b : List Nat) : val (a ++ b) = val a + pw a.length * val b := by
  induction a with
  | nil => simp [val, pw]
  | cons x a ih => rw [List.cons_append, val, val, ih, List.length_cons, pw]; grind
theorem val_lt {l : List Nat} (h : Dig l) : val l < pw l.length := by
  induction l with
  | nil => decide
  | cons x l ih =>
    have h1 := ih fun y hy => h y (List.mem_cons_of_mem _ hy)
    have h2 := h x List.mem_cons_self
    rw [val, List.length_cons, pw]
    omega
theorem val_take (l : List Nat) (i : Nat) : val (l.take (i + 1)) = val (l.take i) + pw i * l.getD i 0 := by
  by_cases h : i < l.length
  · rw [List.take_succ_eq_append_getElem h, val_append, List.length_take, Nat.min_eq_left (Nat.le_of_lt h), List.getD_eq_getElem?_getD, List.getElem?_eq_getElem h]
    simp [val]
  · rw [List.take_of_length_le (by omega), List.take_of_length_le (by omega), List.getD_eq_getElem?_getD, List.getElem?_eq_none (by omega)]
    simp
theorem val_split (l : List Nat) (i : Nat) (h : i ≤ l.length) : val l = val (l.take i) + pw i * val (l.drop i) := by
  conv => lhs; rw [← List.take_append_drop i l]
  rw [val_append, List.length_take, Nat.min_eq_left h]
theorem val_drop (l : List Nat) (i : Nat) : val (l.drop i) = l.getD i 0 + 10000 * val (l.drop (i + 1)) := by
  by_cases h : i < l.length
  · rw [List.drop_eq_getElem_cons h, val, List.getD_eq_getElem?_getD, List.getElem?_eq_getElem h]
    rfl
  · rw [List.drop_of_length_le (by omega), List.drop_of_length_le (by omega), List.getD_eq_getElem?_getD, List.getElem?_eq_none (by omega)]
    simp [val]
theorem val_set (l : List Nat) (i d : Nat) (h : i < l.length) : val (l.set i d) + pw i * l.getD i 0 = val l + pw i * d := by
  induction l generalizing i with
  | nil => simp at h
  | cons x l ih =>
    cases i with
    | zero => simp [val, pw]; omega
    | succ i =>
      have := ih i (by simpa using h)
      simp only [List.set_cons_succ, val, pw, List.getD_cons_succ]
      grind
theorem val_zeros (n : Nat) : val (List.replicate n 0) = 0 := by
  induction n with
  | zero => rfl
  | succ n ih => rw [List.replicate_succ, val, ih]
theorem val_zero_of {l : List Nat} (h : val l = 0) : l = List.replicate l.length 0 := by
  induction l with
  | nil => rfl
  | cons x l ih =>
    rw [val] at h
    have h1 := ih (by omega)
    rw [List.length_cons, List.replicate_succ, ← h1, show x = 0 by omega]
theorem dig_take {l : List Nat} (h : Dig l) (i : Nat) : Dig (l.take i) := fun x hx => h x (List.mem_of_mem_take hx)
theorem dig_drop {l : List Nat} (h : Dig l) (i : Nat) : Dig (l.drop i) := fun x hx => h x (List.mem_of_mem_drop hx)
theorem dig_get {l : List Nat} (h : Dig l) (i : Nat) : l.getD i 0 < 10000 := by
  rw [List.getD_eq_getElem?_getD]
  cases e : l[i]? with
  | none => simp
  | some x => exact h x (List.mem_of_getElem? e)
theorem dig_set {l : List Nat} (h : Dig l) (i d : Nat) (hd : d < 10000) : Dig (l.set i d) := fun x hx => by
  rcases List.mem_or_eq_of_mem_set hx with h1 | rfl
  · exact h x h1
  · exact hd
theorem dig_zeros (n : Nat) : Dig (List.replicate n 0) := fun x hx => by
  obtain ⟨_, rfl⟩ := List.mem_replicate.1 hx
  decide
theorem dig_append {a b : List Nat} (ha : Dig a) (hb : Dig b) : Dig (a ++ b) := fun x hx => by
  rcases List.mem_append.1 hx with h | h
  · exact ha x h
  · exact hb x h
theorem val_inj {a b : List Nat} (ha : Dig a) (hb : Dig b) (hl : a.length = b.length) (h : val a = val b) : a = b := by
  induction a generalizing b with
  | nil => exact (List.length_eq_zero_iff.1 hl.symm).symm
  | cons x a ih =>
    cases b with
    | nil => cases hl
    | cons y b =>
      have h1 := ha x List.mem_cons_self
      have h2 := hb y List.mem_cons_self
      simp only [val] at h
      rw [show x = y by omega, ih (fun z hz => ha z (List.mem_cons_of_mem _ hz)) (fun z hz => hb z (List.mem_cons_of_mem _ hz)) (by simpa using hl) (by omega)]
theorem trm_ge {l : List Nat} (h : Trm l) (hl : 0 < l.length) : pw (l.length - 1) ≤ val l := by
  have h1 := h hl
  have h2 := val_split l (l.length - 1) (by omega)
  have h3 := val_drop l (l.length - 1)
  rw [show l.length - 1 + 1 = l.length by omega, List.drop_of_length_le (Nat.le_refl _)] at h3
  simp only [val] at h3
  rw [h2, h3]
  have := Nat.le_mul_of_pos_right (pw (l.length - 1)) (show 0 < l.getD (l.length - 1) 0 + 10000 * 0 by omega)
  omega
theorem cmp_len {a b : List Nat} (ha : Dig a) (hb : Trm b) (h : a.length < b.length) : val a < val b := by
  have h1 := val_lt ha
  have h2 := trm_ge hb (by omega)
  have h3 := pw_mono (show a.length ≤ b.length - 1 by omega)
  omega
theorem val_inj' {a b : List Nat} (ha : Dig a) (hb : Dig b) (ta : Trm a) (tb : Trm b) (h : val a = val b) : a = b := by
  refine val_inj ha hb ?_ h
  by_cases h1 : a.length < b.length
  · have := cmp_len ha tb h1; omega
  · by_cases h2 : b.length < a.length
    · have := cmp_len hb ta h2; omega
    · omega
/-- The number of parts is bounded by the value. -/
theorem len_le {l : List Nat} (h : Trm l) {k : Nat} (hv : val l < pw k) : l.length ≤ k := by
  by_cases h1 : l.length ≤ k
  · exact h1
  · have h2 := trm_ge h (by omega)
    have h3 := pw_mono (show k ≤ l.length - 1 by omega)
    omega
/-- Same parts from i on, and part i is less: the whole is less. -/
theorem cmp_at {a b : List Nat} (ha : Dig a) (i : Nat) (hi : i < a.length) (hl : a.length = b.length) (hd : a.drop (i + 1) = b.drop (i + 1)) (h : a.getD i 0 < b.getD i 0) : val a < val b := by
  have h1 := val_split a (i + 1) (by omega)
  have h2 := val_split b (i + 1) (by omega)
  have h3 := val_lt (dig_take ha i)
  rw [List.length_take, Nat.min_eq_left (by omega)] at h3
  rw [h1, h2, hd, val_take, val_take]
  have h4 : pw i * a.getD i 0 + pw i ≤ pw i * b.getD i 0 := by
    have := Nat.mul_le_mul_left (pw i) (show a.getD i 0 + 1 ≤ b.getD i 0 by omega)
    rw [Nat.mul_add] at this
    omega
  omega
theorem drop_eq {a b : List Nat} (i : Nat) (hi : i < a.length) (hl : a.length = b.length) (hd : a.drop (i + 1) = b.drop (i + 1)) (h : a.getD i 0 = b.getD i 0) : a.drop i = b.drop i := by
  rw [List.drop_eq_getElem_cons hi, List.drop_eq_getElem_cons (by omega : i < b.length), hd]
  rw [List.getD_eq_getElem?_getD, List.getElem?_eq_getElem hi, List.getD_eq_getElem?_getD, List.getElem?_eq_getElem (by omega : i < b.length)] at h
  simp only [Option.getD_some] at h
  rw [h]
/-- Parts at the end that are 0 say nothing. -/
theorem val_cut (l : List Nat) (n : Nat) (h0 : l.getD n 0 = 0) : val (l.take (n + 1)) = val (l.take n) := by
  rw [val_take, h0]; simp

theorem sum_step {S A Y c x y P d c' : Nat} (h : S + P * c = A + Y) (hd : x + c + y = d + 10000 * c') : (S + P * d) + (10000 * P) * c' = (A + P * x) + (Y + P * y) := by grind
theorem diff_step {D Y A P c d y x c' : Nat} (h : D + Y = A + P * c) (hd : d + (c + y) = x + 10000 * c') : (D + P * d) + (Y + P * y) = (A + P * x) + (10000 * P) * c' := by grind
theorem prod_step {T T' V0 c t d c' x y Pi Pk Pik vb : Nat} (hp : Pik = Pi * Pk) (h : T + Pik * c = V0 + Pi * (x * vb)) (hs : T' + Pik * t = T + Pik * d) (hd : t + x * y + c = d + 10000 * c') : T' + (10000 * Pik) * c' = V0 + Pi * (x * (vb + Pk * y)) := by grind
end Rv
end Go.Proofs.YtapdkibiegeijaaDoor
