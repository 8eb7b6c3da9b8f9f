/- Plain mathematics of a row of things with stars: when it fits another row, and that trying the last star anew is enough. Conditions: none; nothing of the program is named. -/
import Derived.Lib.Split
namespace Go.Proofs.YteokigpeaggemaaDoor
namespace Row

/-- The row from thing i on fits the other row from place j on. -/
inductive Fit (n m : Nat) (st : Nat → Bool) (ft : Nat → Nat → Bool) : Nat → Nat → Prop
  | done : Fit n m st ft n m
  | star (i j k : Nat) : i < n → st i = true → j ≤ k → k ≤ m → Fit n m st ft (i + 1) k → Fit n m st ft i j
  | one (i j : Nat) : i < n → j < m → st i = false → ft i j = true → Fit n m st ft (i + 1) (j + 1) → Fit n m st ft i j

variable {n m : Nat} {st : Nat → Bool} {ft : Nat → Nat → Bool}

theorem Fit.parts {i j : Nat} (h : Fit n m st ft i j) : (i = n ∧ j = m) ∨ (i < n ∧ st i = true ∧ ∃ k, j ≤ k ∧ k ≤ m ∧ Fit n m st ft (i + 1) k) ∨
    (i < n ∧ j < m ∧ st i = false ∧ ft i j = true ∧ Fit n m st ft (i + 1) (j + 1)) :=
  match h with
  | .done => .inl ⟨rfl, rfl⟩
  | .star _ _ k a b c d e => .inr (.inl ⟨a, b, k, c, d, e⟩)
  | .one _ _ a b c d e => .inr (.inr ⟨a, b, c, d, e⟩)
theorem Fit.le {i j : Nat} (h : Fit n m st ft i j) : j ≤ m := by
  rcases h.parts with h | h | h
  · omega
  · obtain ⟨_, _, k, h1, h2, _⟩ := h; omega
  · omega
theorem Fit.early {i j j' : Nat} (h : Fit n m st ft i j') (hs : st i = true) (hi : i < n) (hj : j ≤ j') : Fit n m st ft i j := by
  rcases h.parts with h | h | h
  · omega
  · obtain ⟨_, _, k, h1, h2, h3⟩ := h; exact .star i j k hi hs (by omega) h2 h3
  · rw [hs] at h; exact absurd h.2.2.1 (by simp)
theorem Fit.of_one {i j : Nat} (hs : st i = false) (hi : i < n) (h : Fit n m st ft i j) : j < m ∧ ft i j = true ∧ Fit n m st ft (i + 1) (j + 1) := by
  rcases h.parts with h | h | h
  · omega
  · rw [hs] at h; exact absurd h.2.1 (by simp)
  · exact ⟨h.2.1, h.2.2.2.1, h.2.2.2.2⟩

/-- What the walk has found out, at thing i and place j, the last star being that ahead of 'b' (if any), which stands for all up to t. -/
structure Inv (n m : Nat) (st : Nat → Bool) (ft : Nat → Nat → Bool) (i j : Nat) (b : Int) (t : Nat) : Prop where
  hi : i ≤ n
  hj : j ≤ m
  ht : t ≤ j
  hb : b = -1 ∨ ∃ c : Nat, b = c ∧ c ≤ i ∧ j = t + (i - c) ∧ (∀ k, c ≤ k → k < i → st k = false)
  eq : Fit n m st ft 0 0 ↔ Fit n m st ft i j ∨ (0 ≤ b ∧ ∃ k, t < k ∧ k ≤ m ∧ Fit n m st ft b.toNat k)

theorem Inv.start : Inv n m st ft 0 0 (-1) 0 :=
  ⟨Nat.zero_le _, Nat.zero_le _, Nat.le_refl _, .inl rfl, ⟨fun h => .inl h, fun h => h.elim id (fun h => absurd h.1 (by omega))⟩⟩

/-- From a star on, what an elder star could still take the new one takes. -/
theorem shift {c k : Nat} (i : Nat) (hk : Fit n m st ft c k) (hci : c ≤ i) (hin : i ≤ n) (hn : ∀ x, c ≤ x → x < i → st x = false) : Fit n m st ft i (k + (i - c)) := by
  induction i with
  | zero =>
    obtain rfl : c = 0 := by omega
    exact hk
  | succ i ih =>
    by_cases hc : c = i + 1
    · subst hc; simpa using hk
    · have h := (ih (by omega) (by omega) (fun x h1 h2 => hn x h1 (by omega))).of_one (hn i (by omega) (by omega)) (by omega)
      rw [show k + (i + 1 - c) = k + (i - c) + 1 from by omega]; exact h.2.2

theorem Inv.of_star {i j t : Nat} {b : Int} (h : Inv n m st ft i j b t) (hi : i < n) (hs : st i = true) : Inv n m st ft (i + 1) j ((i + 1 : Nat) : Int) j := by
  refine ⟨hi, h.hj, Nat.le_refl _, .inr ⟨i + 1, rfl, Nat.le_refl _, by omega, fun k h1 h2 => by omega⟩, ?_⟩
  rw [h.eq, Int.toNat_natCast]
  have key : Fit n m st ft i j ↔ Fit n m st ft (i + 1) j ∨ ∃ k, j < k ∧ k ≤ m ∧ Fit n m st ft (i + 1) k := by
    constructor
    · intro hf
      rcases hf.parts with hf | hf | hf
      · omega
      · obtain ⟨_, _, k, h1, h2, h3⟩ := hf
        by_cases e : k = j
        · subst e; exact .inl h3
        · exact .inr ⟨k, by omega, h2, h3⟩
      · rw [hs] at hf; exact absurd hf.2.2.1 (by simp)
    · rintro (hf | ⟨k, h1, h2, h3⟩)
      · exact .star i j j hi hs (Nat.le_refl _) h.hj hf
      · exact .star i j k hi hs (by omega) h2 h3
  constructor
  · rintro (hf | ⟨hb, k, h1, h2, h3⟩)
    · exact (key.1 hf).imp id fun x => ⟨by omega, x⟩
    · rcases h.hb with e | ⟨c, rfl, hc, hj, hn⟩
      · omega
      · rw [Int.toNat_natCast] at h3
        have h4 := (shift i h3 hc h.hi hn).early (j := j) hs hi (by omega)
        exact (key.1 h4).imp id fun x => ⟨by omega, x⟩
  · rintro (hf | ⟨_, hf⟩)
    · exact .inl (key.2 (.inl hf))
    · exact .inl (key.2 (.inr hf))

theorem Inv.of_one {i j t : Nat} {b : Int} (h : Inv n m st ft i j b t) (hi : i < n) (hj : j < m) (hs : st i = false) (hf : ft i j = true) : Inv n m st ft (i + 1) (j + 1) b t := by
  refine ⟨hi, hj, by have := h.ht; omega, ?_, ?_⟩
  · rcases h.hb with e | ⟨c, rfl, hc, hjc, hn⟩
    · exact .inl e
    · exact .inr ⟨c, rfl, by omega, by omega, fun k h1 h2 => by
        by_cases e : k = i
        · subst e; exact hs
        · exact hn k h1 (by omega)⟩
  · rw [h.eq]
    have key : Fit n m st ft i j ↔ Fit n m st ft (i + 1) (j + 1) := ⟨fun x => (x.of_one hs hi).2.2, fun x => .one i j hi hj hs hf x⟩
    rw [key]

/-- Nothing fits at this thing and place. -/
theorem Inv.not_fit {i j t : Nat} {b : Int} (_ : Inv n m st ft i j b t) (hj : j < m) (hno : i < n → st i = false ∧ ft i j = false) : ¬ Fit n m st ft i j := fun hf => by
  rcases hf.parts with hf | hf | hf
  · omega
  · rw [(hno hf.1).1] at hf; exact absurd hf.2.1 (by simp)
  · rw [(hno hf.1).2] at hf; exact absurd hf.2.2.2.1 (by simp)
theorem Inv.of_back {i j t c : Nat} (h : Inv n m st ft i j (c : Int) t) (hj : j < m) (hno : i < n → st i = false ∧ ft i j = false) : Inv n m st ft c (t + 1) (c : Int) (t + 1) := by
  have hc : c ≤ i := by
    rcases h.hb with e | ⟨c', e, hc, _⟩
    · omega
    · omega
  refine ⟨by have := h.hi; omega, by have := h.ht; omega, Nat.le_refl _, .inr ⟨c, rfl, Nat.le_refl _, by omega, fun k h1 h2 => by omega⟩, ?_⟩
  rw [h.eq, Int.toNat_natCast]
  constructor
  · rintro (hf | ⟨_, k, h1, h2, h3⟩)
    · exact absurd hf (h.not_fit hj hno)
    · by_cases e : k = t + 1
      · subst e; exact .inl h3
      · exact .inr ⟨by omega, k, by omega, h2, h3⟩
  · rintro (hf | ⟨_, k, h1, h2, h3⟩)
    · exact .inr ⟨by omega, t + 1, by omega, by have := h.ht; omega, hf⟩
    · exact .inr ⟨by omega, k, by omega, h2, h3⟩
theorem Inv.stop {i j t : Nat} (h : Inv n m st ft i j (-1) t) (hj : j < m) (hno : i < n → st i = false ∧ ft i j = false) : ¬ Fit n m st ft 0 0 := fun hf => by
  rcases h.eq.1 hf with hf | hf
  · exact h.not_fit hj hno hf
  · omega
/-- At the other row's end. -/
theorem Inv.ended {i t : Nat} {b : Int} (h : Inv n m st ft i m b t) : Fit n m st ft 0 0 ↔ Fit n m st ft i m := by
  rw [h.eq]
  constructor
  · rintro (hf | ⟨hb, k, h1, h2, h3⟩)
    · exact hf
    · rcases h.hb with e | ⟨c, rfl, hc, hj, hn⟩
      · omega
      · rw [Int.toNat_natCast] at h3
        have := (shift i h3 hc h.hi hn).le
        omega
  · exact .inl
theorem ended_star {i : Nat} (hi : i < n) (hs : st i = true) : Fit n m st ft i m ↔ Fit n m st ft (i + 1) m := by
  constructor
  · intro hf
    rcases hf.parts with hf | hf | hf
    · omega
    · obtain ⟨_, _, k, h1, h2, h3⟩ := hf
      obtain rfl : k = m := by omega
      exact h3
    · omega
  · exact fun hf => .star i m m hi hs (Nat.le_refl _) (Nat.le_refl _) hf
theorem ended_stop {i : Nat} (hi : i < n) (hs : st i = false) : ¬ Fit n m st ft i m := fun hf => by
  have := (hf.of_one hs hi).1
  omega

/-- The walk's measure. -/
def left (n m i t : Nat) : Nat := (m - t) * (n + 1) + (n - i)
theorem left_up {i t t' : Nat} (hi : i < n) (ht : t ≤ t') : left n m (i + 1) t' < left n m i t := by
  unfold left
  have : (m - t') * (n + 1) ≤ (m - t) * (n + 1) := Nat.mul_le_mul_right _ (by omega)
  omega
theorem left_back {i c t : Nat} (ht : t < m) : left n m c (t + 1) < left n m i t := by
  unfold left
  have e : m - t = (m - (t + 1)) + 1 := by omega
  have : (m - t) * (n + 1) = (m - (t + 1)) * (n + 1) + (n + 1) := by rw [e, Nat.succ_mul]
  omega

/-- Whether it fits, reckoned. -/
def fitF (n m : Nat) (st : Nat → Bool) (ft : Nat → Nat → Bool) : Nat → Nat → Nat → Bool
  | 0, _, _ => false
  | f + 1, i, j => if n ≤ i then j == m else if st i then fitF n m st ft f (i + 1) j || (decide (j < m) && fitF n m st ft f i (j + 1)) else decide (j < m) && ft i j && fitF n m st ft f (i + 1) (j + 1)
theorem fitF_iff (f i j : Nat) (hi : i ≤ n) (hj : j ≤ m) (hf : (n - i) + (m - j) < f) : fitF n m st ft f i j = true ↔ Fit n m st ft i j := by
  induction f generalizing i j with
  | zero => omega
  | succ f ih =>
    unfold fitF
    by_cases h : n ≤ i
    · obtain rfl : i = n := by omega
      rw [if_pos h, beq_iff_eq]
      constructor
      · rintro rfl; exact .done
      · intro hf
        rcases hf.parts with hf | hf | hf <;> omega
    · rw [if_neg h]
      by_cases hs : st i = true
      · rw [if_pos hs, Bool.or_eq_true, Bool.and_eq_true, decide_eq_true_eq, ih (i + 1) j (by omega) hj (by omega)]
        constructor
        · rintro (h1 | ⟨h1, h2⟩)
          · exact .star i j j (by omega) hs (Nat.le_refl _) hj h1
          · exact ((ih i (j + 1) (by omega) (by omega) (by omega)).1 h2).early hs (by omega) (by omega)
        · intro hf
          rcases hf.parts with hf | hf | hf
          · omega
          · obtain ⟨_, _, k, h1, h2, h3⟩ := hf
            by_cases e : k = j
            · subst e; exact .inl h3
            · exact .inr ⟨by omega, (ih i (j + 1) (by omega) (by omega) (by omega)).2 (.star i (j + 1) k (by omega) hs (by omega) h2 h3)⟩
          · rw [hs] at hf; exact absurd hf.2.2.1 (by simp)
      · have hs' : st i = false := by simpa using hs
        rw [if_neg hs, Bool.and_eq_true, Bool.and_eq_true, decide_eq_true_eq]
        constructor
        · rintro ⟨⟨h1, h2⟩, h3⟩
          exact .one i j (by omega) h1 hs' h2 ((ih (i + 1) (j + 1) (by omega) (by omega) (by omega)).1 h3)
        · intro hf
          obtain ⟨h1, h2, h3⟩ := hf.of_one hs' (by omega)
          exact ⟨⟨h1, h2⟩, (ih (i + 1) (j + 1) (by omega) (by omega) (by omega)).2 h3⟩
def rowB (n m : Nat) (st : Nat → Bool) (ft : Nat → Nat → Bool) : Bool := fitF n m st ft (n + m + 1) 0 0
theorem rowB_iff : rowB n m st ft = true ↔ Fit n m st ft 0 0 := fitF_iff _ _ _ (Nat.zero_le _) (Nat.zero_le _) (by omega)
theorem rowB_false (h : ¬ Fit n m st ft 0 0) : rowB n m st ft = false := by
  cases e : rowB n m st ft with
  | false => rfl
  | true => exact absurd (rowB_iff.1 e) h

end Row
end Go.Proofs.YteokigpeaggemaaDoor
