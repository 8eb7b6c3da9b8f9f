/- What stands at the end of a line changes nothing but places. No conditions. -/
import Derived.Test.YtjobpcbnolgmnaaDoorLexBrF
namespace Go.Proofs.YtjobpcbnolgmnaaDoor
open Lx
namespace Spc

theorem lenF_pre (p : UInt8 → Bool) (h10 : p 10 = false) (h32 : p 32 = false) : ∀ (a R X : List UInt8), lenF p (a ++ 10 :: R) = lenF p (a ++ 32 :: X) ∧ lenF p (a ++ 10 :: R) ≤ a.length
  | [], R, X => by
    show (if p 10 then _ else 0) = (if p 32 then _ else 0) ∧ (if p 10 then _ else 0) ≤ 0
    rw [h10, h32]
    exact ⟨rfl, Nat.le_refl _⟩
  | b :: a, R, X => by
    obtain ⟨h1, h2⟩ := lenF_pre p h10 h32 a R X
    show (if p b then lenF p (a ++ 10 :: R) + 1 else 0) = (if p b then lenF p (a ++ 32 :: X) + 1 else 0) ∧ (if p b then lenF p (a ++ 10 :: R) + 1 else 0) ≤ a.length + 1
    rw [h1]
    refine ⟨rfl, ?_⟩
    rw [← h1]
    split <;> omega
theorem closed_pre (q : UInt8) : ∀ (a : List UInt8) (h : Bool) (R : List UInt8) (n : Nat), closedF q h (a ++ 10 :: R) = some n → n < a.length ∧ ∀ X, closedF q h (a ++ X) = some n
  | [], h, R, n, e => by cases e
  | b :: a, h, R, n, e => by
    rw [List.cons_append] at e
    have hc : ∀ l, closedF q h (b :: l) = if b == 10 then none else if h then (closedF q false l).map (· + 1) else if b == 92 then (closedF q true l).map (· + 1) else if b == q then some 0 else (closedF q false l).map (· + 1) := fun _ => rfl
    have key : ∀ h', (closedF q h' (a ++ 10 :: R)).map (· + 1) = some n → n < (b :: a).length ∧ ∀ X, (closedF q h' (a ++ X)).map (· + 1) = some n := by
      intro h' e'
      obtain ⟨m, e1, e2⟩ := Option.map_eq_some_iff.1 e'
      obtain ⟨h1, h2⟩ := closed_pre q a h' R m e1
      subst e2
      exact ⟨by simp; omega, fun X => by rw [h2 X]; rfl⟩
    rw [hc] at e
    split at e
    · cases e
    · next e10 =>
      split at e
      · next eh =>
        obtain ⟨k1, k2⟩ := key false e
        exact ⟨k1, fun X => by rw [List.cons_append, hc, if_neg e10, if_pos eh]; exact k2 X⟩
      · next eh =>
        split at e
        · next e92 =>
          obtain ⟨k1, k2⟩ := key true e
          exact ⟨k1, fun X => by rw [List.cons_append, hc, if_neg e10, if_neg eh, if_pos e92]; exact k2 X⟩
        · next e92 =>
          split at e
          · next eq =>
            cases e
            exact ⟨by simp, fun X => by rw [List.cons_append, hc, if_neg e10, if_neg eh, if_neg e92, if_pos eq]⟩
          · next eq =>
            obtain ⟨k1, k2⟩ := key false e
            exact ⟨k1, fun X => by rw [List.cons_append, hc, if_neg e10, if_neg eh, if_neg e92, if_neg eq]; exact k2 X⟩
theorem sign_pre (b : UInt8) (a R X : List UInt8) : signF (b :: (a ++ 10 :: R)) = signF (b :: (a ++ 32 :: X)) ∧ signF (b :: (a ++ 10 :: R)) ≤ a.length + 1 := by
  have hs : ∀ c r, signF (b :: c :: r) = if (b == 61 && c == 61) || (b == 33 && c == 61) || (b == 60 && c == 61) || (b == 62 && c == 61) || (b == 43 && c == 61) || (b == 47 && c == 47) then 2 else if oneSigns.any (· == b) then 1 else 0 := fun _ _ => rfl
  cases a with
  | nil =>
    rw [List.nil_append, List.nil_append, hs, hs]
    simp
    split <;> simp
  | cons c a =>
    rw [List.cons_append, List.cons_append, hs, hs]
    refine ⟨rfl, ?_⟩
    split
    · simp
    · split <;> simp
theorem take_pre {a R : List UInt8} {m : Nat} (h : m ≤ a.length) : (a ++ R).take m = a.take m := List.take_append_of_le_length h
theorem drop_pre {a R : List UInt8} {m : Nat} (h : m ≤ a.length) : (a ++ R).drop m = a.drop m ++ R := List.drop_append_of_le_length h
theorem tok_pre (op : List UInt8) (b : UInt8) (a R X : List UInt8) {k m : Nat} {t op' : List UInt8} (h : tokF op ((b :: a) ++ 10 :: R) = .ok k t m op') : m ≤ (b :: a).length ∧ tokF op ((b :: a) ++ 32 :: X) = .ok k t m op' := by
  rcases Bool.eq_false_or_eq_true (lt b) with e1 | e1
  · obtain ⟨h1, h2⟩ := lenF_pre nb (by decide) (by decide) (b :: a) R X
    rw [List.cons_append, tokF_name op b _ e1, ← List.cons_append] at h
    rw [List.cons_append, tokF_name op b _ e1, ← List.cons_append, ← h1, take_pre h2]
    rw [take_pre h2] at h
    injection h with g1 g2 g3 g4
    subst g1 g2 g3 g4
    exact ⟨h2, rfl⟩
  · rcases Bool.eq_false_or_eq_true (dg b) with e2 | e2
    · obtain ⟨h1, h2⟩ := lenF_pre dg (by decide) (by decide) (b :: a) R X
      have hbn : badNum ((b :: a) ++ 10 :: R) = badNum ((b :: a) ++ 32 :: X) := by
        unfold badNum
        rw [← h1, drop_pre h2, drop_pre h2, (lenF_pre lt (by decide) (by decide) _ R X).1]
        rfl
      rw [List.cons_append, tokF_num op b _ e1 e2, ← List.cons_append, take_pre h2, hbn] at h
      rw [List.cons_append, tokF_num op b _ e1 e2, ← List.cons_append, ← h1, take_pre h2]
      split at h
      · cases h
      · next eb =>
        rw [if_neg eb]
        injection h with g1 g2 g3 g4
        subst g1 g2 g3 g4
        exact ⟨h2, rfl⟩
    · by_cases hq : b = 34 ∨ b = 39
      · rw [List.cons_append, tokF_quo op b _ e1 e2 hq] at h
        rw [List.cons_append, tokF_quo op b _ e1 e2 hq]
        unfold quoF at h ⊢
        cases hc : closedF b false (a ++ 10 :: R) with
        | none => rw [hc] at h; cases h
        | some n =>
          obtain ⟨h1, h2⟩ := closed_pre b a false R n hc
          rw [hc] at h
          rw [h2 (32 :: X)]
          dsimp only at h ⊢
          rw [take_pre (a := a) (m := n) (by omega)] at h
          rw [take_pre (a := a) (m := n) (by omega)]
          refine ⟨?_, h⟩
          rcases hu : unqF n (a.take n) with ⟨said, o⟩
          rw [hu] at h
          cases o with
          | none =>
            injection h with g1 g2 g3 g4
            subst g3
            simp; omega
          | some j => cases h
      · obtain ⟨h1, h2⟩ := sign_pre b a R X
        have h1' : signF ((b :: a) ++ 10 :: R) = signF ((b :: a) ++ 32 :: X) := h1
        have h2' : signF ((b :: a) ++ 10 :: R) ≤ (b :: a).length := h2
        have ht : ((b :: a) ++ 10 :: R).take (signF ((b :: a) ++ 10 :: R)) = ((b :: a) ++ 32 :: X).take (signF ((b :: a) ++ 10 :: R)) := by rw [take_pre h2', take_pre h2']
        rw [List.cons_append, tokF_sgn op b _ e1 e2 hq] at h
        rw [List.cons_append, tokF_sgn op b _ e1 e2 hq]
        unfold sgnF at h ⊢
        rw [← List.cons_append] at h ⊢
        rw [← h1', ← ht]
        refine ⟨?_, h⟩
        split at h
        · cases h
        · injection h with g1 g2 g3 g4
          subst g3
          exact h2'
end Spc
end Go.Proofs.YtjobpcbnolgmnaaDoor
