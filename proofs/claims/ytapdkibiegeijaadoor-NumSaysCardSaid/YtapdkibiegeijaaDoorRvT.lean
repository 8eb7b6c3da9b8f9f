/- The document's whole numbers as texts: digits of a limb, of all limbs; what digits say. Pure. No conditions but those that each states. -/
import Derived.Test.YtapdkibiegeijaaDoorRvF
import Derived.Test.YtapdkibiegeijaaDoorNumT
namespace Go.Proofs.YtapdkibiegeijaaDoor
namespace Rv
open Go.Lib
open Nm (dN dN_len nv nv_append isD nv_bound dec_facts)

theorem dN_behind (j k : Nat) : ∀ (h x : Nat), x < 10 ^ k → dN (j + k) (h * 10 ^ k + x) = dN j h ++ dN k x := by
  induction k with
  | zero =>
    intro h x hx
    rw [Nat.pow_zero] at hx
    rw [show x = 0 by omega]
    simp [dN]
  | succ k ih =>
    intro h x hx
    rw [Nat.pow_succ] at hx ⊢
    rw [← Nat.mul_assoc, ← Nat.add_assoc, dN, dN]
    generalize hw : h * 10 ^ k = w
    rw [show (w * 10 + x) / 10 = w + x / 10 by omega, show (w * 10 + x) % 10 = x % 10 by omega, ← hw, ih h (x / 10) (by omega), List.append_assoc]
/-- The digits of limbs, one limb more below. -/
theorem dN_limb (m v x : Nat) (hx : x < 10000) : dN (4 * (m + 1)) (x + 10000 * v) = dN (4 * m) v ++ dN 4 x := by
  have := dN_behind (4 * m) 4 v x (by simpa using hx)
  rw [show 4 * (m + 1) = 4 * m + 4 by omega, ← this]
  congr 1
  omega
def D (v : Nat) : List UInt8 := if v = 0 then [] else decDigits v
theorem dN_pad (m : Nat) : ∀ v, v < 10 ^ m → ∃ z, dN m v = List.replicate z 48 ++ D v := by
  induction m with
  | zero =>
    intro v hv
    rw [Nat.pow_zero] at hv
    exact ⟨0, by rw [show v = 0 by omega]; rfl⟩
  | succ m ih =>
    intro v hv
    rw [Nat.pow_succ] at hv
    obtain ⟨z, hz⟩ := ih (v / 10) (by omega)
    rw [dN, hz]
    by_cases h0 : v = 0
    · subst h0
      exact ⟨z + 1, by simp [D, List.replicate_succ']⟩
    · by_cases h1 : v < 10
      · refine ⟨z, ?_⟩
        rw [show v / 10 = 0 by omega, show v % 10 = v by omega]
        simp [D, h0, decDigits_one h1]
      · refine ⟨z, ?_⟩
        have e : decDigits v = decDigits (v / 10) ++ [UInt8.ofNat (48 + v % 10)] := by rw [decDigits, dif_neg h1]
        simp only [D, if_neg h0, if_neg (show ¬ v / 10 = 0 by omega), e, List.append_assoc]
theorem D_head {v : Nat} (h : v ≠ 0) : D v ≠ [] ∧ (D v).headD 48 ≠ 48 := by
  obtain ⟨_, _, h3, h4⟩ := dec_facts v
  unfold D
  rw [if_neg h]
  exact ⟨h3, h4 (by omega)⟩
/-- Four digits at most. -/
theorem nv_four {l : List UInt8} (h : l.all isD = true) (hl : l.length ≤ 4) : nv l < 10000 := by
  have h1 := nv_bound h
  have h2 : 10 ^ l.length ≤ 10 ^ 4 := Nat.pow_le_pow_right (by decide) hl
  omega
theorem pw_ten (k : Nat) : pw k = 10 ^ (4 * k) := by
  induction k with
  | zero => rfl
  | succ k ih => rw [pw, ih, show 4 * (k + 1) = 4 * k + 4 by omega, Nat.pow_add, Nat.mul_comm]
/-- Digits, split. -/
theorem nv_split (l : List UInt8) (i : Nat) : nv l = nv (l.take i) * 10 ^ (l.length - i) + nv (l.drop i) := by
  conv => lhs; rw [← List.take_append_drop i l]
  rw [nv_append, List.length_drop]
/-- The greatest factor that fits. -/
theorem fit_div {low b r : Nat} (h1 : low * b ≤ r) (h2 : r < (low + 1) * b) : low = r / b := by
  have hb : 0 < b := by
    rcases Nat.eq_zero_or_pos b with h | h
    · subst h; simp at h2
    · exact h
  exact (Nat.div_eq_of_lt_le h1 h2).symm
/-- One limb of the quotient. -/
theorem div_step {A Q b r x q r' : Nat} (h : A = Q * b + r) (hp : x + 10000 * r = q * b + r') : x + 10000 * A = (q + 10000 * Q) * b + r' := by
  subst h
  grind
theorem div_bound {r x b : Nat} (h1 : r < b) (h2 : x < 10000) : x + 10000 * r < 10000 * b := by omega
end Rv
end Go.Proofs.YtapdkibiegeijaaDoor
