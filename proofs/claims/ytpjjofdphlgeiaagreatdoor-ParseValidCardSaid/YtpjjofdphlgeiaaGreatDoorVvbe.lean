/- Parts of the proof, together. The last token alone is the end; how many tokens, how long. No conditions. -/
import Derived.Test.YtpjjofdphlgeiaaGreatDoorVvak
import Derived.Test.YtpjjofdphlgeiaaGreatDoorVvai
import Derived.Test.YtpjjofdphlgeiaaGreatDoorVvap
namespace Go.Proofs.YtpjjofdphlgeiaaGreatDoor
open Lx
namespace Bh

theorem unqF_len : ∀ (m : Nat) (l : List UInt8), (unqF m l).1.length ≤ m
  | 0, _ => Nat.le_refl _
  | m + 1, [] => Nat.zero_le _
  | m + 1, b :: r => by
    unfold unqF
    dsimp only
    cases pieceF (b :: r) with
    | none => exact Nat.zero_le _
    | some x =>
      obtain ⟨c, k⟩ := x
      dsimp only
      have h1 := unqF_len m ((b :: r).drop k)
      rcases hu : unqF m ((b :: r).drop k) with ⟨said, o⟩
      rw [hu] at h1
      cases o with
      | none => exact Nat.succ_le_succ h1
      | some j => exact Nat.zero_le _
theorem tokF_text {op l : List UInt8} {k n : Nat} {t op' : List UInt8} (h : tokF op l = .ok k t n op') : t.length ≤ n ∧ k ≠ 8 := by
  cases l with
  | nil => cases h
  | cons b l =>
    rcases Bool.eq_false_or_eq_true (lt b) with e1 | e1
    · rw [tokF_name op b l e1] at h
      injection h with h1 h2 h3 h4
      subst h2 h3
      refine ⟨List.length_take_le _ _, ?_⟩
      rw [← h1]; split <;> decide
    · rcases Bool.eq_false_or_eq_true (dg b) with e2 | e2
      · rw [tokF_num op b l e1 e2] at h
        split at h
        · cases h
        · injection h with h1 h2 h3 h4
          subst h2 h3
          exact ⟨List.length_take_le _ _, by omega⟩
      · by_cases hq : b = 34 ∨ b = 39
        · rw [tokF_quo op b l e1 e2 hq] at h
          unfold quoF at h
          cases hc : closedF b false l with
          | none => rw [hc] at h; cases h
          | some m =>
            rw [hc] at h
            simp only at h
            rcases hu : unqF m (l.take m) with ⟨said, o⟩
            rw [hu] at h
            cases o with
            | none =>
              injection h with h1 h2 h3 h4
              subst h2 h3
              have h5 := unqF_len m (l.take m)
              rw [hu] at h5
              exact ⟨Nat.le_trans h5 (by omega), by omega⟩
            | some j => cases h
        · rw [tokF_sgn op b l e1 e2 hq] at h
          unfold sgnF at h
          by_cases h0 : signF (b :: l) = 0
          · rw [if_pos h0] at h; cases h
          · rw [if_neg h0, List.headD_cons] at h
            cases hb : brkF b op with
            | none => rw [hb] at h; cases h
            | some o2 =>
              rw [hb] at h
              injection h with h1 h2 h3 h4
              subst h2 h3
              exact ⟨List.length_take_le _ _, by omega⟩
open Px
theorem sumT_append : ∀ a b : List Tok, sumT (a ++ b) = sumT a + sumT b
  | [], b => by simp [sumT]
  | t :: a, b => by rw [List.cons_append, sumT, sumT, sumT_append a b]; omega
theorem sumT_deds : ∀ (k p : Nat) (kd : Nat), sumT (List.replicate k ⟨kd, [], p⟩) = 0
  | 0, _, _ => rfl
  | k + 1, p, kd => by rw [List.replicate_succ, sumT, sumT_deds k p kd]; rfl
/-- What comes of a place: tokens, none of them the end, and the end; how many, and how long. -/
theorem ends_tk : ∀ (n : Nat) (mid : Bool) (q : Nat) (st : St) (r : List UInt8) (toks : List Tok), st.op.length ≤ 60 → (∀ t ∈ st.toks, t.kind ≠ 8) → goF n mid q st r = .ok toks →
    ∃ T p, toks = T ++ [⟨8, [], p⟩] ∧ (∀ t ∈ T, t.kind ≠ 8) ∧ T.length ≤ st.toks.length + st.blocks.length + 2 * n ∧ sumT T ≤ sumT st.toks + r.length := by
  intro n
  induction n with
  | zero => intro mid q st r toks _ _ h; cases h
  | succ n ih =>
    intro mid q st r toks ho h8 h
    have fin : ∀ (q' : Nat) (st' : St) (r' : List UInt8), st'.op.length ≤ 60 → (∀ t ∈ st'.toks, t.kind ≠ 8) → st'.toks.length + st'.blocks.length ≤ st.toks.length + st.blocks.length + 1 → sumT st'.toks ≤ sumT st.toks → r'.length ≤ r.length → contF n q' st' r' = .ok toks → ∃ T p, toks = T ++ [⟨8, [], p⟩] ∧ (∀ t ∈ T, t.kind ≠ 8) ∧ T.length ≤ st.toks.length + st.blocks.length + 2 * (n + 1) ∧ sumT T ≤ sumT st.toks + r.length := by
      intro q' st' r' ho' h8' hc hs hr h'
      cases r' with
      | nil =>
        have h2 : endF q' st' = .ok toks := h'
        unfold endF at h2
        by_cases hop : st'.op = []
        · rw [if_pos hop] at h2
          injection h2 with h2
          refine ⟨st'.toks ++ deds (st'.blocks.takeWhile (0 < ·)).length q', q', h2.symm, fun t ht => ?_, ?_, ?_⟩
          · rcases List.mem_append.1 ht with ht | ht
            · exact h8' t ht
            · rw [List.eq_of_mem_replicate ht]; exact show (7 : Nat) ≠ 8 by decide
          · have hle : (st'.blocks.takeWhile (0 < ·)).length ≤ st'.blocks.length := (List.takeWhile_sublist _).length_le
            unfold deds
            rw [List.length_append, List.length_replicate]; omega
          · have h0 : sumT (deds (st'.blocks.takeWhile (0 < ·)).length q') = 0 := sumT_deds _ _ _
            rw [sumT_append]; omega
        · rw [if_neg hop] at h2; cases h2
      | cons b r' =>
        obtain ⟨T, p, e1, e2, e3, e4⟩ := ih false (q' + 1) st' r' toks ho' h8' h'
        simp only [List.length_cons] at hr
        exact ⟨T, p, e1, e2, by omega, by omega⟩
    cases mid with
    | true =>
      rcases Bool.eq_false_or_eq_true (ends r) with e | e
      · rw [goF_mid_end n q st r e] at h
        refine fin q (nlF st q) r (by unfold nlF; split <;> exact ho) ?_ ?_ ?_ (Nat.le_refl _) h
        · unfold nlF
          split
          · intro t ht
            rcases List.mem_append.1 ht with ht | ht
            · exact h8 t ht
            · rw [List.mem_singleton.1 ht]; exact show (5 : Nat) ≠ 8 by decide
          · exact h8
        · unfold nlF
          split
          · simp; omega
          · omega
        · unfold nlF
          split
          · rw [sumT_append]; exact Nat.le_refl _
          · exact Nat.le_refl _
      · rw [goF_mid_tok n q st r e] at h
        cases ht : tokF st.op r with
        | bad j => rw [ht] at h; cases h
        | ok k t m op =>
          rw [ht] at h
          obtain ⟨ho2, h1, h2⟩ := tokF_ok ht ho
          obtain ⟨h3, h4⟩ := tokF_text ht
          obtain ⟨T, p, e1, e2, e3, e4⟩ := ih true _ _ _ toks ho2 (fun u hu => by
            rcases List.mem_append.1 hu with hu | hu
            · exact h8 u hu
            · rw [List.mem_singleton.1 hu]; exact h4) h
          refine ⟨T, p, e1, e2, ?_, ?_⟩
          · simp only [List.length_append, List.length_singleton] at e3; omega
          · simp only [sumT_append, sumT, List.length_drop] at e4; omega
    | false =>
      rcases Bool.eq_false_or_eq_true (ends (r.drop (gapF r))) with e | e
      · rw [goF_line_end n q st r e] at h
        exact fin (q + gapF r) st (r.drop (gapF r)) ho h8 (by omega) (Nat.le_refl _) (by rw [List.length_drop]; omega) h
      · by_cases hop : st.op = []
        · rw [goF_line_ind n q st r e hop] at h
          cases hi : indF (gapF r) (q + gapF r) st.toks st.blocks with
          | none => rw [hi] at h; cases h
          | some x =>
            rw [hi] at h
            obtain ⟨tk2, bl2⟩ := x
            dsimp only at h
            have hx : (∀ t ∈ tk2, t.kind ≠ 8) ∧ tk2.length + bl2.length ≤ st.toks.length + st.blocks.length + 2 ∧ sumT tk2 = sumT st.toks := by
              unfold indF at hi
              split at hi
              · split at hi
                · cases hi
                · injection hi with hi
                  injection hi with g1 g2
                  subst g1 g2
                  refine ⟨fun t ht => ?_, by simp; omega, by rw [sumT_append]; rfl⟩
                  rcases List.mem_append.1 ht with ht | ht
                  · exact h8 t ht
                  · rw [List.mem_singleton.1 ht]; exact show (6 : Nat) ≠ 8 by decide
              · split at hi
                · injection hi with hi
                  injection hi with g1 g2
                  subst g1 g2
                  refine ⟨fun t ht => ?_, ?_, by rw [sumT_append, sumT_deds]; rfl⟩
                  · rcases List.mem_append.1 ht with ht | ht
                    · exact h8 t ht
                    · rw [List.eq_of_mem_replicate ht]; exact show (7 : Nat) ≠ 8 by decide
                  · have hsum : (st.blocks.takeWhile (gapF r < ·)).length + (st.blocks.dropWhile (gapF r < ·)).length = st.blocks.length := by rw [← List.length_append, List.takeWhile_append_dropWhile]
                    rw [List.length_append, List.length_replicate]; omega
                · cases hi
            obtain ⟨x1, x2, x3⟩ := hx
            obtain ⟨T, p, e1, e2, e3, e4⟩ := ih true (q + gapF r) ⟨tk2, bl2, st.op⟩ _ toks ho x1 h
            refine ⟨T, p, e1, e2, ?_, ?_⟩
            · dsimp only at e3; omega
            · dsimp only at e4; rw [x3, List.length_drop] at e4; omega
        · rw [goF_line_open n q st r e hop] at h
          obtain ⟨T, p, e1, e2, e3, e4⟩ := ih true _ st _ toks ho h8 h
          refine ⟨T, p, e1, e2, by omega, ?_⟩
          rw [List.length_drop] at e4; omega
theorem scan_ends {l : List UInt8} {toks : List Tok} (h : scanF l = .ok toks) : ∃ T p, toks = T ++ [⟨8, [], p⟩] ∧ (∀ t ∈ T, t.kind ≠ 8) ∧ T.length ≤ 4 * l.length + 5 ∧ sumT T ≤ l.length := by
  obtain ⟨T, p, e1, e2, e3, e4⟩ := ends_tk _ _ _ _ _ toks (by simp) (fun t ht => by simp at ht) h
  exact ⟨T, p, e1, e2, by simp at e3; omega, by simp [sumT] at e4; omega⟩
theorem tk_of {T : List Tok} {p : Nat} (h8 : ∀ t ∈ T, t.kind ≠ 8) (hl : T.length < 50000) (hs : sumT T ≤ 100000) : Tk (T ++ [⟨8, [], p⟩]) := by
  refine ⟨by simp, by simp; omega, fun j t ht => ?_, by rw [sumT_append]; exact hs⟩
  by_cases hj : j < T.length
  · rw [List.getElem?_append_left hj] at ht
    have := h8 t (List.mem_of_getElem? ht)
    rw [List.length_append, List.length_singleton]
    exact ⟨fun e => absurd e (by omega), fun e => absurd e this⟩
  · have h1 := (List.getElem?_eq_some_iff.1 ht).1
    rw [List.length_append, List.length_singleton] at h1
    obtain rfl : j = T.length := by omega
    rw [List.getElem?_append_right (Nat.le_refl _), Nat.sub_self] at ht
    obtain rfl : (⟨8, [], p⟩ : Tok) = t := by simpa using ht
    simp
theorem scan_tk {l : List UInt8} (hl : l.length ≤ 10000) {toks : List Tok} (h : scanF l = .ok toks) : Tk toks := by
  obtain ⟨T, p, rfl, h8, h1, h2⟩ := scan_ends h
  exact tk_of h8 (by omega) (by omega)
end Bh
end Go.Proofs.YtpjjofdphlgeiaaGreatDoor
