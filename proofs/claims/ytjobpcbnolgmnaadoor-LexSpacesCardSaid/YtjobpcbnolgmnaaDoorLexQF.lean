/- A text quoted is one token that says it; what the scanner makes of two of them in brackets. No conditions. -/
import Derived.Test.YtjobpcbnolgmnaaDoorLexQuote
namespace Go.Proofs.YtjobpcbnolgmnaaDoor
open Lx

theorem closed_step (c : UInt8) (l : List UInt8) (h1 : c ≠ 10) (h2 : c ≠ 92) (h3 : c ≠ 34) : closedF 34 false (c :: l) = (closedF 34 false l).map (· + 1) := by
  simp only [closedF, beq_eq_false_iff_ne.2 h1, beq_eq_false_iff_ne.2 h2, beq_eq_false_iff_ne.2 h3, Bool.false_eq_true, if_false]
theorem closed_esc (c : UInt8) (l : List UInt8) (h1 : c ≠ 10) : closedF 34 false (92 :: c :: l) = (closedF 34 false l).map (· + 2) := by
  have : closedF 34 true (c :: l) = (closedF 34 false l).map (· + 1) := by
    simp only [closedF, beq_eq_false_iff_ne.2 h1, Bool.false_eq_true, if_false, if_true]
  show (closedF 34 true (c :: l)).map (· + 1) = _
  rw [this]
  cases closedF 34 false l <;> simp
theorem hexc_clean (b : UInt8) : hexc (b >>> 4) ≠ 10 ∧ hexc (b >>> 4) ≠ 92 ∧ hexc (b >>> 4) ≠ 34 ∧ hexc (b &&& 15) ≠ 10 ∧ hexc (b &&& 15) ≠ 92 ∧ hexc (b &&& 15) ≠ 34 :=
  all_u8 (P := fun b => hexc (b >>> 4) ≠ 10 ∧ hexc (b >>> 4) ≠ 92 ∧ hexc (b >>> 4) ≠ 34 ∧ hexc (b &&& 15) ≠ 10 ∧ hexc (b &&& 15) ≠ 92 ∧ hexc (b &&& 15) ≠ 34) (by decide +kernel) b
theorem hexc_back (b : UInt8) : hexV (hexc (b >>> 4)) = some (b >>> 4) ∧ hexV (hexc (b &&& 15)) = some (b &&& 15) ∧ (b >>> 4) <<< 4 ||| (b &&& 15) = b :=
  all_u8 (P := fun b => hexV (hexc (b >>> 4)) = some (b >>> 4) ∧ hexV (hexc (b &&& 15)) = some (b &&& 15) ∧ (b >>> 4) <<< 4 ||| (b &&& 15) = b) (by decide +kernel) b
theorem closed_piece (b : UInt8) (l : List UInt8) : closedF 34 false (pieceQ b ++ l) = (closedF 34 false l).map (· + (pieceQ b).length) := by
  unfold pieceQ
  by_cases e10 : b = 10
  · rw [if_pos e10]; exact closed_esc 110 l (by decide)
  · rw [if_neg e10]
    by_cases e9 : b = 9
    · rw [if_pos e9]; exact closed_esc 116 l (by decide)
    · rw [if_neg e9]
      by_cases e92 : b = 92 ∨ b = 34
      · rw [if_pos e92]; exact closed_esc b l e10
      · rw [if_neg e92]
        simp only [not_or] at e92
        by_cases et : tb b = true
        · rw [if_pos et]; exact closed_step b l e10 e92.1 e92.2
        · rw [if_neg et]
          obtain ⟨a1, a2, a3, a4, a5, a6⟩ := hexc_clean b
          show closedF 34 false (92 :: 120 :: hexc (b >>> 4) :: hexc (b &&& 15) :: l) = _
          rw [closed_esc 120 _ (by decide), closed_step _ _ a1 a2 a3, closed_step _ _ a4 a5 a6]
          cases closedF 34 false l <;> simp
theorem closed_quote (s r : List UInt8) : closedF 34 false (s.flatMap pieceQ ++ 34 :: r) = some (s.flatMap pieceQ).length := by
  induction s with
  | nil => rfl
  | cons b s ih =>
    rw [List.flatMap_cons, List.append_assoc, closed_piece, ih]
    simp; omega
theorem piece_back (b : UInt8) (l : List UInt8) : pieceF (pieceQ b ++ l) = some (b, (pieceQ b).length) := by
  unfold pieceQ
  by_cases e10 : b = 10
  · subst e10; rw [if_pos rfl]; exact pieceF_two 110 l
  · rw [if_neg e10]
    by_cases e9 : b = 9
    · subst e9; rw [if_pos rfl]; exact pieceF_two 116 l
    · rw [if_neg e9]
      by_cases e92 : b = 92 ∨ b = 34
      · rw [if_pos e92]
        rcases e92 with rfl | rfl
        · exact pieceF_two 92 l
        · exact pieceF_two 34 l
      · rw [if_neg e92]
        simp only [not_or] at e92
        by_cases et : tb b = true
        · rw [if_pos et]
          show pieceF (b :: l) = _
          rw [pieceF_plain b l e92.1, if_pos et]; rfl
        · rw [if_neg et]
          obtain ⟨a1, a2, a3⟩ := hexc_back b
          show pieceF (92 :: 120 :: hexc (b >>> 4) :: hexc (b &&& 15) :: l) = _
          rw [pieceF_two]
          show hexF (hexc (b >>> 4) :: hexc (b &&& 15) :: l) = _
          simp only [hexF, a1, a2, a3]
          rfl
theorem pieceQ_pos (b : UInt8) : 1 ≤ (pieceQ b).length := by
  unfold pieceQ
  split
  · simp
  · split
    · simp
    · split
      · simp
      · split <;> simp
theorem unq_quote (s : List UInt8) : ∀ m, (s.flatMap pieceQ).length ≤ m → unqF m (s.flatMap pieceQ) = (s, none) := by
  induction s with
  | nil => intro m _; cases m <;> rfl
  | cons b s ih =>
    intro m hm
    rw [List.flatMap_cons, List.length_append] at hm
    have hp := pieceQ_pos b
    obtain ⟨n, rfl⟩ : ∃ n, m = n + 1 := ⟨m - 1, by omega⟩
    rw [List.flatMap_cons]
    have hpb := piece_back b (s.flatMap pieceQ)
    obtain ⟨c, r, hc⟩ : ∃ c r, pieceQ b ++ s.flatMap pieceQ = c :: r := by
      cases h : pieceQ b with
      | nil => rw [h] at hp; simp at hp
      | cons c r => exact ⟨c, r ++ s.flatMap pieceQ, rfl⟩
    have hd : (pieceQ b ++ s.flatMap pieceQ).drop (pieceQ b).length = s.flatMap pieceQ := by simp
    rw [hc] at hpb hd ⊢
    simp only [unqF, hpb, hd, ih n (by omega)]
theorem quoF_quote (s r : List UInt8) : quoF 34 (s.flatMap pieceQ ++ 34 :: r) = .inl (s, (quoteF s).length) := by
  unfold quoF
  rw [closed_quote]
  simp only [List.take_left, unq_quote s _ (Nat.le_refl _)]
  simp [quoteF]
theorem tok_quote (op s r : List UInt8) : tokF op (quoteF s ++ r) = .ok 3 s (quoteF s).length op := by
  have h : quoteF s ++ r = 34 :: (s.flatMap pieceQ ++ 34 :: r) := by unfold quoteF; simp
  rw [h, tokF_quo op 34 _ (by decide) (by decide) (.inl rfl), quoF_quote]
theorem gapF_zero (b : UInt8) (l : List UInt8) (h1 : b ≠ 32) (h2 : b ≠ 35) : gapF (b :: l) = 0 := by
  have hs : lenF sp (b :: l) = 0 := by
    unfold lenF
    rw [if_neg (by unfold sp; simpa using h1)]
  unfold gapF
  rw [hs, List.drop_zero]
  simp only [beq_eq_false_iff_ne.2 h2, Bool.false_eq_true, if_false]
  split <;> rfl
theorem gapF_one (b : UInt8) (l : List UInt8) (h1 : b ≠ 32) (h2 : b ≠ 35) : gapF (32 :: b :: l) = 1 := by
  have hs : lenF sp (32 :: b :: l) = 1 := by
    show (if sp 32 then lenF sp (b :: l) + 1 else 0) = 1
    rw [if_pos (by decide)]
    unfold lenF
    rw [if_neg (by unfold sp; simpa using h1)]
  unfold gapF
  rw [hs]
  simp only [List.drop_succ_cons, List.drop_zero, beq_eq_false_iff_ne.2 h2, Bool.false_eq_true, if_false]
  split <;> rfl
end Go.Proofs.YtjobpcbnolgmnaaDoor
