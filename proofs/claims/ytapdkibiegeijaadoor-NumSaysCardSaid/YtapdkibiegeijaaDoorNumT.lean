/- Whole numbers as texts: digits of a number, of a part, what a text says; which texts are numbers'. Pure. No conditions but those that each states. -/
import Derived.Test.YtapdkibiegeijaaDoorNumF
import Derived.Lib.ItoaNum
namespace Go.Proofs.YtapdkibiegeijaaDoor
namespace Nm
open Go.Lib

/-- The k lowest digits. -/
def dN : Nat → Nat → List UInt8
  | 0, _ => []
  | k + 1, x => dN k (x / 10) ++ [UInt8.ofNat (48 + x % 10)]
theorem dN_len (k x : Nat) : (dN k x).length = k := by
  induction k generalizing x with
  | zero => rfl
  | succ k ih => rw [dN, List.length_append, ih]; rfl
theorem dec_behind (k : Nat) : ∀ (h x : Nat), 0 < h → x < 10 ^ k → decDigits (h * 10 ^ k + x) = decDigits h ++ dN k x := by
  induction k with
  | zero =>
    intro h x _ hx
    rw [Nat.pow_zero] at hx
    rw [dN, show x = 0 by omega]
    simp
  | succ k ih =>
    intro h x hh hx
    have hp : 1 ≤ 10 ^ k := Nat.one_le_pow _ _ (by decide)
    have hhp := Nat.le_mul_of_pos_left (10 ^ k) hh
    rw [Nat.pow_succ] at hx ⊢
    rw [← Nat.mul_assoc]
    generalize hw : h * 10 ^ k = w at *
    rw [decDigits, dif_neg (by omega), show (w * 10 + x) / 10 = w + x / 10 by omega, show (w * 10 + x) % 10 = x % 10 by omega, ← hw, ih h (x / 10) hh (by omega), dN, List.append_assoc]
theorem dec_part (h x : Nat) (hh : 0 < h) (hx : x < 1000000000) : decDigits (x + 1000000000 * h) = decDigits h ++ dN 9 x := by
  have := dec_behind 9 h x hh (by simpa using hx)
  rw [← this]
  congr 1
  omega

theorem snoc_ind {p : List UInt8 → Prop} (none : p []) (more : ∀ l c, p l → p (l ++ [c])) (l : List UInt8) : p l := by
  have h : ∀ l : List UInt8, p l.reverse := fun l => by
    induction l with
    | nil => exact none
    | cons x l ih => rw [List.reverse_cons]; exact more _ _ ih
  simpa using h l.reverse
/-- What digits say. -/
def nv (l : List UInt8) : Nat := l.foldl (fun a c => 10 * a + (c.toNat - 48)) 0
theorem nv_snoc (l : List UInt8) (c : UInt8) : nv (l ++ [c]) = 10 * nv l + (c.toNat - 48) := by simp [nv]
theorem nv_append (a b : List UInt8) : nv (a ++ b) = nv a * 10 ^ b.length + nv b := by
  induction b using snoc_ind with
  | none => simp [nv]
  | more b c ih => rw [← List.append_assoc, nv_snoc, nv_snoc, ih, List.length_append, List.length_singleton, Nat.pow_succ]; grind
def isD (c : UInt8) : Bool := decide (48 ≤ c.toNat ∧ c.toNat ≤ 57)
/-- Digits as a number is written. -/
def wr (l : List UInt8) : Bool := l.all isD && (l == [48] || decide (l ≠ []) && decide (l.headD 48 ≠ 48))
theorem nv_bound {l : List UInt8} (h : l.all isD = true) : nv l < 10 ^ l.length := by
  induction l using snoc_ind with
  | none => decide
  | more l c ih =>
    rw [List.all_append, Bool.and_eq_true] at h
    have h1 := ih h.1
    have h2 : isD c = true := by simpa using h.2
    have h3 := of_decide_eq_true h2
    rw [nv_snoc, List.length_append, List.length_singleton, Nat.pow_succ]
    omega
theorem ofNat_digit {c : UInt8} (h : isD c = true) : UInt8.ofNat (48 + (c.toNat - 48)) = c := by
  have h3 := of_decide_eq_true h
  rw [show 48 + (c.toNat - 48) = c.toNat by omega]
  simp
/-- Digits that begin with another one than 0 are those of what they say. -/
theorem dec_nv (l : List UInt8) (h : l.all isD = true) (h0 : l ≠ []) (h1 : l.headD 48 ≠ 48) : decDigits (nv l) = l ∧ 1 ≤ nv l := by
  induction l using snoc_ind with
  | none => exact absurd rfl h0
  | more l c ih =>
    rw [List.all_append, Bool.and_eq_true] at h
    have h2 : isD c = true := by simpa using h.2
    have h3 := of_decide_eq_true h2
    rw [nv_snoc]
    cases l with
    | nil =>
      have h4 : c ≠ 48 := by simpa using h1
      have h5 : c.toNat ≠ 48 := fun e => h4 (UInt8.toNat_inj.1 e)
      rw [show nv [] = 0 from rfl, decDigits_one (by omega), Nat.mul_zero, Nat.zero_add, ofNat_digit h2]
      exact ⟨rfl, by omega⟩
    | cons x l =>
      obtain ⟨i1, i2⟩ := ih h.1 (by simp) (by simpa using h1)
      rw [decDigits, dif_neg (by omega), show (10 * nv (x :: l) + (c.toNat - 48)) / 10 = nv (x :: l) by omega, show (10 * nv (x :: l) + (c.toNat - 48)) % 10 = c.toNat - 48 by omega, i1, ofNat_digit h2]
      exact ⟨rfl, by omega⟩
theorem wr_dec {l : List UInt8} (h : wr l = true) : decDigits (nv l) = l := by
  unfold wr at h
  simp only [Bool.and_eq_true, Bool.or_eq_true, beq_iff_eq, decide_eq_true_eq] at h
  obtain ⟨h1, rfl | ⟨h2, h3⟩⟩ := h
  · have e : nv [48] = 0 := rfl
    rw [e, decDigits_one (by omega)]
    rfl
  · exact (dec_nv l h1 h2 h3).1
theorem isD_ofNat {x : Nat} (h : x < 10) : isD (UInt8.ofNat (48 + x)) = true ∧ (UInt8.ofNat (48 + x)).toNat = 48 + x := by
  have e : (UInt8.ofNat (48 + x)).toNat = 48 + x := by
    rw [UInt8.toNat_ofNat']
    omega
  exact ⟨decide_eq_true (by rw [e]; omega), e⟩
theorem dec_facts (u : Nat) : (decDigits u).all isD = true ∧ nv (decDigits u) = u ∧ decDigits u ≠ [] ∧ (0 < u → (decDigits u).headD 48 ≠ 48) := by
  induction u using Nat.strongRecOn with
  | _ u ih =>
    by_cases h : u < 10
    · rw [decDigits_one h]
      obtain ⟨e1, e2⟩ := isD_ofNat h
      refine ⟨by rw [List.all_cons, e1]; rfl, ?_, by simp, fun hu => ?_⟩
      · show 10 * 0 + ((UInt8.ofNat (48 + u)).toNat - 48) = u
        rw [e2]; omega
      · show UInt8.ofNat (48 + u) ≠ 48
        intro e
        have := congrArg UInt8.toNat e
        rw [e2] at this
        have e3 : (48 : UInt8).toNat = 48 := rfl
        omega
    · obtain ⟨i1, i2, i3, i4⟩ := ih (u / 10) (by omega)
      obtain ⟨e1, e2⟩ := isD_ofNat (show u % 10 < 10 by omega)
      rw [decDigits, dif_neg h]
      refine ⟨by rw [List.all_append, i1, List.all_cons, e1]; rfl, by rw [nv_snoc, i2, e2]; omega, by simp, fun _ => ?_⟩
      have i5 := i4 (by omega)
      cases hd : decDigits (u / 10) with
      | nil => exact absurd hd i3
      | cons x l => rw [hd] at i5; simpa using i5
theorem wr_of_dec (u : Nat) : wr (decDigits u) = true := by
  obtain ⟨h1, _, h3, h4⟩ := dec_facts u
  unfold wr
  rw [h1, Bool.true_and]
  by_cases h : 0 < u
  · have := h4 h
    simp only [Bool.or_eq_true, Bool.and_eq_true, decide_eq_true_eq]
    exact .inr ⟨h3, this⟩
  · rw [show u = 0 by omega, decDigits_one (by omega)]
    rfl
theorem dec_head (u : Nat) : (decDigits u).headD 0 ≠ 45 := by
  obtain ⟨h1, _, h3, _⟩ := dec_facts u
  cases hd : decDigits u with
  | nil => exact absurd hd h3
  | cons x l =>
    rw [hd] at h1
    have h2 : isD x = true := by simp at h1; exact h1.1
    have h4 := of_decide_eq_true h2
    intro e
    simp only [List.headD_cons] at e
    subst e
    revert h4
    decide
/-- The text of a number. -/
def txt (z : Int) : List UInt8 := if z < 0 then 45 :: decDigits z.natAbs else decDigits z.natAbs
/-- What a text says, if it is one of a number. -/
def says (s : List UInt8) : Option Int :=
  if s.headD 0 = 45 then (if wr s.tail = true ∧ s.tail ≠ [48] then some (-(nv s.tail : Int)) else none) else (if wr s = true then some (nv s : Int) else none)
theorem says_txt {s : List UInt8} {z : Int} (h : says s = some z) : s = txt z := by
  unfold says at h
  split at h
  · rename_i h1
    split at h
    · rename_i h2
      have e := wr_dec h2.1
      have hs : s = 45 :: s.tail := by
        cases s with
        | nil => cases h1
        | cons x l => simp at h1; rw [h1]; rfl
      have hpos : 0 < nv s.tail := by
        rcases Nat.eq_zero_or_pos (nv s.tail) with h0 | h0
        · rw [h0, decDigits_one (by omega)] at e
          exact absurd e.symm h2.2
        · exact h0
      obtain rfl : -(nv s.tail : Int) = z := by simpa using h
      unfold txt
      rw [if_pos (by omega), Int.natAbs_neg, Int.natAbs_natCast, e]
      exact hs
    · cases h
  · split at h
    · rename_i h2
      obtain rfl : (nv s : Int) = z := by simpa using h
      unfold txt
      rw [if_neg (by omega), Int.natAbs_natCast, wr_dec h2]
    · cases h
theorem txt_says (z : Int) : says (txt z) = some z := by
  obtain ⟨h1, h2, h3, h4⟩ := dec_facts z.natAbs
  unfold txt
  by_cases hz : z < 0
  · have hne : decDigits z.natAbs ≠ [48] := fun e => by
      rw [e] at h2
      have : nv [48] = 0 := rfl
      omega
    rw [if_pos hz, says, List.headD_cons, if_pos (show (45 : UInt8) = 45 from rfl), List.tail_cons, if_pos ⟨wr_of_dec _, hne⟩, h2]
    congr 1; omega
  · have := dec_head z.natAbs
    rw [if_neg hz, says, if_neg this, if_pos (wr_of_dec _), h2]
    congr 1; omega
theorem txt_inj {a b : Int} (h : txt a = txt b) : a = b := by
  have h1 := txt_says a
  rw [h, txt_says] at h1
  exact (Option.some.inj h1).symm
theorem txt_bound {s : List UInt8} {z : Int} (h : says s = some z) : z.natAbs < 10 ^ s.length := by
  have e := says_txt h
  have h1 := dec_facts z.natAbs
  have h2 := nv_bound h1.1
  rw [h1.2.1] at h2
  refine Nat.lt_of_lt_of_le h2 (Nat.pow_le_pow_right (by decide) ?_)
  rw [e, txt]
  split
  · simp
  · exact Nat.le_refl _
theorem pw_ten (k : Nat) : pw k = 10 ^ (9 * k) := by
  induction k with
  | zero => rfl
  | succ k ih => rw [pw, ih, show 9 * (k + 1) = 9 * k + 9 by omega, Nat.pow_add, Nat.mul_comm]
end Nm
end Go.Proofs.YtapdkibiegeijaaDoor
