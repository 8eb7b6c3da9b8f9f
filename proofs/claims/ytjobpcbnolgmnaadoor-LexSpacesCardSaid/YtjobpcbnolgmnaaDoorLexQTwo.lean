/- What the scanner makes of two quoted texts in brackets. No conditions. -/
import Derived.Test.YtjobpcbnolgmnaaDoorLexQF
namespace Go.Proofs.YtjobpcbnolgmnaaDoor
open Lx

theorem mid_tok {n p k m g : Nat} {ts : List Tok} {bl : List Nat} {op op' l r r' tx : List UInt8} (he : ends l = false) (ht : tokF op l = .ok k tx m op') (hr : l.drop m = r) (hg : gapF r = g) (hr' : r.drop g = r') :
    goF (n + 1) true p ⟨ts, bl, op⟩ l = goF n true (p + m + g) ⟨ts ++ [⟨k, tx, p⟩], bl, op'⟩ r' := by
  rw [goF_mid_tok n p _ l he]
  show (match tokF op l with | .bad j => RR.bad (p + j) | .ok k t m op => _) = _
  rw [ht]
  simp only [hr, hg, hr']
theorem start_line {n : Nat} {b : UInt8} {l : List UInt8} (h1 : b ≠ 32) (h2 : b ≠ 35) (h3 : b ≠ 10) : goF (n + 1) false 0 ⟨[], [0], []⟩ (b :: l) = goF n true 0 ⟨[], [0], []⟩ (b :: l) := by
  have hg := gapF_zero b l h1 h2
  have he : ends ((b :: l).drop (gapF (b :: l))) = false := by rw [hg]; exact beq_eq_false_iff_ne.2 h3
  rw [goF_line_ind n 0 _ _ he rfl, hg]
  rfl
theorem last_end {n p : Nat} {ts : List Tok} : goF (n + 1) true p ⟨ts, [0], []⟩ [] = .ok (ts ++ [⟨5, [], p⟩] ++ [⟨8, [], p⟩]) := by
  rw [goF_mid_end n p _ [] rfl]
  show endF p (nlF _ p) = _
  unfold endF nlF
  rw [if_pos rfl, if_pos rfl]
  simp [deds]
theorem quoteF_head (s r : List UInt8) : ∃ x, quoteF s ++ r = 34 :: x := ⟨_, rfl⟩
theorem quoteF_pos (s : List UInt8) : 2 ≤ (quoteF s).length := by simp [quoteF]
/-- Two texts quoted, in brackets. -/
def twoQ (s t : List UInt8) : List UInt8 := 91 :: (quoteF s ++ 44 :: 32 :: (quoteF t ++ [93]))
theorem scan_two (s t : List UInt8) : scanF (twoQ s t) = .ok [⟨4, [91], 0⟩, ⟨3, s, 1⟩, ⟨4, [44], 1 + (quoteF s).length⟩, ⟨3, t, 1 + (quoteF s).length + 2⟩, ⟨4, [93], 1 + (quoteF s).length + 2 + (quoteF t).length⟩,
    ⟨5, [], 1 + (quoteF s).length + 2 + (quoteF t).length + 1⟩, ⟨8, [], 1 + (quoteF s).length + 2 + (quoteF t).length + 1⟩] := by
  unfold scanF
  obtain ⟨k, hk⟩ : ∃ k, 2 * (twoQ s t).length + 2 = k + 7 := ⟨2 * (twoQ s t).length + 2 - 7, by have := quoteF_pos s; have := quoteF_pos t; simp [twoQ]; omega⟩
  rw [hk]
  obtain ⟨x, hx⟩ := quoteF_head s (44 :: 32 :: (quoteF t ++ [93]))
  obtain ⟨y, hy⟩ := quoteF_head t [93]
  unfold twoQ
  rw [start_line (by decide) (by decide) (by decide)]
  rw [mid_tok (k := 4) (m := 1) (g := 0) (tx := [91]) (op' := [93]) (r := quoteF s ++ 44 :: 32 :: (quoteF t ++ [93])) (r' := quoteF s ++ 44 :: 32 :: (quoteF t ++ [93])) rfl (by rw [hx]; rfl) rfl (by rw [hx]; exact gapF_zero _ _ (by decide) (by decide)) rfl]
  rw [mid_tok (g := 0) (r := 44 :: 32 :: (quoteF t ++ [93])) (r' := 44 :: 32 :: (quoteF t ++ [93])) (by rw [hx]; rfl) (tok_quote _ _ _) (by rw [List.drop_left]) (gapF_zero _ _ (by decide) (by decide)) rfl]
  rw [mid_tok (k := 4) (m := 1) (g := 1) (tx := [44]) (op' := [93]) (r := 32 :: (quoteF t ++ [93])) (r' := quoteF t ++ [93]) rfl (by rfl) rfl (by rw [hy]; exact gapF_one _ _ (by decide) (by decide)) rfl]
  rw [mid_tok (g := 0) (r := [93]) (r' := [93]) (by rw [hy]; rfl) (tok_quote _ _ _) (by rw [List.drop_left]) (gapF_zero _ _ (by decide) (by decide)) rfl]
  rw [mid_tok (k := 4) (m := 1) (g := 0) (tx := [93]) (op' := []) (r := []) (r' := []) rfl (by rfl) rfl (by rfl) rfl]
  rw [last_end]
  rfl
end Go.Proofs.YtjobpcbnolgmnaaDoor
