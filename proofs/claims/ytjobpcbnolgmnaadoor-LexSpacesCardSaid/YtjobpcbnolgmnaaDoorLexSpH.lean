/- More behind a line: the same tokens, but for places. No conditions. -/
import Derived.Test.YtjobpcbnolgmnaaDoorLexSpG
namespace Go.Proofs.YtjobpcbnolgmnaaDoor
open Lx
namespace Spc

/-- No newline token at place p, if those that are there lie ahead of q and what comes is from q' on. -/
theorem none_at {n : Nat} {mid : Bool} {q q' p : Nat} {st : St} {l : List UInt8} {toks : List Tok} (ho : st.op.length ≤ 60) (h5 : ∀ t ∈ st.toks, t.kind = 5 → t.pos < q) (h : goF n mid q' st l = .ok toks) (hp : q ≤ p) (hp' : p < q') (ht : ∃ t ∈ toks, t.kind = 5 ∧ t.pos = p) : False := by
  obtain ⟨t, ht, hk, hpos⟩ := ht
  obtain ⟨more, e, hm⟩ := more_tok n mid q' st l toks ho h
  rw [e] at ht
  rcases List.mem_append.1 ht with ht | ht
  · have := h5 t ht hk; omega
  · have := (hm t ht).1; omega
theorem run_pre (R R' : List UInt8) : ∀ (n : Nat) (mid : Bool) (q : Nat) (st : St) (a : List UInt8) (toks : List Tok), (a ≠ [] ∨ mid = false) → st.op.length ≤ 60 → (∀ t ∈ st.toks, t.kind = 5 → t.pos < q) → goF n mid q st (a ++ 10 :: R) = .ok toks →
    (∃ t ∈ toks, t.kind = 5 ∧ t.pos = q + a.length) → ∃ T bl, Run ⟨mid, q, st, a ++ 10 :: R⟩ ⟨true, q + a.length, ⟨T, bl, []⟩, 10 :: R⟩ ∧ Run ⟨mid, q, st, a ++ (ins ++ 10 :: R')⟩ ⟨true, q + a.length + 9, ⟨T, bl, []⟩, 10 :: R'⟩ := by
  intro n
  induction n with
  | zero => intro mid q st a toks _ _ _ h; cases h
  | succ n ih =>
    intro mid q st a toks ha ho h5 h ht
    cases mid with
    | true =>
      cases a with
      | nil => rcases ha with ha | ha; exact absurd rfl ha; cases ha
      | cons b a =>
        by_cases hb : b = 10
        · subst hb
          have e : ends ((10 :: a) ++ 10 :: R) = true := rfl
          rw [goF_mid_end n q st _ e] at h
          have h' : goF n false (q + 1) (nlF st q) (a ++ 10 :: R) = .ok toks := h
          have h5' : ∀ t ∈ (nlF st q).toks, t.kind = 5 → t.pos < q + 1 := by
            intro t htm hk
            unfold nlF at htm
            split at htm
            · rcases List.mem_append.1 htm with htm | htm
              · have := h5 t htm hk; omega
              · rw [List.mem_singleton.1 htm]; exact Nat.lt_succ_self q
            · have := h5 t htm hk; omega
          obtain ⟨T, bl, r1, r2⟩ := ih false (q + 1) (nlF st q) a toks (.inr rfl) (by unfold nlF; split <;> exact ho) h5' h' (by
            obtain ⟨t, q1, q2, q3⟩ := ht
            exact ⟨t, q1, q2, by rw [q3]; simp; omega⟩)
          have hq : q + 1 + a.length = q + (10 :: a).length := by simp; omega
          rw [hq] at r1 r2
          exact ⟨T, bl, (run_end (st := st)).trans r1, (run_end (st := st)).trans r2⟩
        · have e : ends ((b :: a) ++ 10 :: R) = false := beq_eq_false_iff_ne.2 hb
          have e' : ends ((b :: a) ++ (ins ++ 10 :: R')) = false := beq_eq_false_iff_ne.2 hb
          rw [goF_mid_tok n q st _ e] at h
          cases hk : tokF st.op ((b :: a) ++ 10 :: R) with
          | bad j => rw [hk] at h; cases h
          | ok k t m op =>
            rw [hk] at h
            obtain ⟨h1, h2, _⟩ := tokF_ok hk ho
            obtain ⟨hm, hk'⟩ := tok_pre st.op b a R ([32, 32, 35, 32, 109, 111, 114, 101] ++ 10 :: R') hk
            have hk2 : tokF st.op ((b :: a) ++ (ins ++ 10 :: R')) = .ok k t m op := hk'
            have hd : ((b :: a) ++ 10 :: R).drop m = (b :: a).drop m ++ 10 :: R := drop_pre hm
            have hd2 : ((b :: a) ++ (ins ++ 10 :: R')).drop m = (b :: a).drop m ++ (ins ++ 10 :: R') := drop_pre hm
            obtain ⟨ts, bl0, op0⟩ := st
            have hla : ((b :: a).drop m).length = (b :: a).length - m := List.length_drop
            generalize (b :: a).drop m = a2 at hd hd2 hla
            obtain ⟨g1, g2, g3⟩ := gap_pre a2 R R'
            dsimp only at h
            rw [hd] at h
            have h5' : ∀ t' ∈ ts ++ [⟨k, t, q⟩], t'.kind = 5 → t'.pos < q := by
              intro t' htm hk5
              rcases List.mem_append.1 htm with htm | htm
              · exact h5 t' htm hk5
              · rw [List.mem_singleton.1 htm] at hk5; exact absurd hk5 (tok_kind hk)
            generalize hg : gapF (a2 ++ 10 :: R) = g at g1 g2 g3 h
            rcases Nat.lt_or_ge g a2.length with hlt | hge
            · rw [drop_pre (Nat.le_of_lt hlt)] at h
              obtain ⟨T, bl, r1, r2⟩ := ih true (q + m + g) ⟨ts ++ [⟨k, t, q⟩], bl0, op⟩ (a2.drop g) toks (.inl (by intro h0; have := congrArg List.length h0; rw [List.length_drop] at this; simp at this; omega)) h1 (fun t' htm hk5 => by have := h5' t' htm hk5; omega) h (by
                obtain ⟨t', q1, q2, q3⟩ := ht
                exact ⟨t', q1, q2, by rw [q3, List.length_drop]; omega⟩)
              have hq : q + m + g + (a2.drop g).length = q + (b :: a).length := by rw [List.length_drop]; omega
              rw [hq] at r1 r2
              exact ⟨T, bl, (run_tok e hk hd hg (drop_pre (Nat.le_of_lt hlt))).trans r1, (run_tok e' hk2 hd2 (g2 hlt _) (drop_pre (Nat.le_of_lt hlt))).trans r2⟩
            · obtain rfl : g = a2.length := by omega
              rw [List.drop_left] at h
              have hp : q + m + a2.length = q + (b :: a).length := by omega
              rw [hp] at h
              have hop : op = [] := by
                rcases List.eq_nil_or_concat op with h0 | h0
                · exact h0
                · exfalso
                  have hne : op ≠ [] := by obtain ⟨x, y, h0⟩ := h0; rw [h0]; simp
                  cases n with
                  | zero => cases h
                  | succ n =>
                    rw [goF_mid_end n _ _ (10 :: R) rfl] at h
                    have hnl : nlF ⟨ts ++ [⟨k, t, q⟩], bl0, op⟩ (q + (b :: a).length) = ⟨ts ++ [⟨k, t, q⟩], bl0, op⟩ := by unfold nlF; rw [if_neg hne]
                    rw [hnl] at h
                    exact none_at (n := n) (mid := false) (q' := q + (b :: a).length + 1) h1 h5' h (Nat.le_add_right ..) (Nat.lt_succ_self _) ht
              subst hop
              refine ⟨ts ++ [⟨k, t, q⟩], bl0, ?_, ?_⟩
              · have := run_tok (p := q) (ts := ts) (bl := bl0) e hk hd hg (List.drop_left (l₁ := a2) (l₂ := 10 :: R))
                rwa [hp] at this
              · have := run_tok (p := q) (ts := ts) (bl := bl0) e' hk2 hd2 (g3 rfl) (r' := 10 :: R') (by rw [← List.drop_drop, List.drop_left]; rfl)
                rwa [← Nat.add_assoc, hp] at this
    | false =>
      obtain ⟨g1, g2, g3⟩ := gap_pre a R R'
      generalize hg : gapF (a ++ 10 :: R) = g at g1 g2 g3
      rcases Nat.lt_or_ge g a.length with hlt | hge
      · have hd := drop_pre (R := 10 :: R) (Nat.le_of_lt hlt)
        have hd2 := drop_pre (R := ins ++ 10 :: R') (Nat.le_of_lt hlt)
        have hg2 := g2 hlt (ins ++ 10 :: R')
        have hla : (a.drop g).length = a.length - g := List.length_drop
        cases hb : a.drop g with
        | nil => rw [hb] at hla; simp at hla; omega
        | cons b a2 =>
          rw [hb] at hd hd2 hla
          simp only [List.length_cons] at hla
          by_cases h10 : b = 10
          · subst h10
            rw [goF_line_end n q st _ (by rw [hg, hd]; rfl), hg, hd] at h
            have h' : goF n false (q + g + 1) st (a2 ++ 10 :: R) = .ok toks := h
            obtain ⟨T, bl, r1, r2⟩ := ih false (q + g + 1) st a2 toks (.inr rfl) ho (fun t' htm hk5 => by have := h5 t' htm hk5; omega) h' (by
              obtain ⟨t', q1, q2, q3⟩ := ht
              exact ⟨t', q1, q2, by rw [q3]; omega⟩)
            have hq : q + g + 1 + a2.length = q + a.length := by omega
            rw [hq] at r1 r2
            exact ⟨T, bl, (run_blank hg hd).trans r1, (run_blank hg2 hd2).trans r2⟩
          · have e : ends ((b :: a2) ++ 10 :: R) = false := beq_eq_false_iff_ne.2 h10
            have e' : ends ((b :: a2) ++ (ins ++ 10 :: R')) = false := beq_eq_false_iff_ne.2 h10
            have hq : q + g + (b :: a2).length = q + a.length := by simp; omega
            by_cases hop : st.op = []
            · rw [goF_line_ind n q st _ (by rw [hg, hd]; exact e) hop, hg, hd] at h
              obtain ⟨ts, bl0, op0⟩ := st
              dsimp only at hop h
              subst hop
              cases hi : indF g (q + g) ts bl0 with
              | none => rw [hi] at h; cases h
              | some x =>
                obtain ⟨ts', bl'⟩ := x
                rw [hi] at h
                obtain ⟨m0, e0, hm0⟩ := ind_kind hi
                obtain ⟨T, bl, r1, r2⟩ := ih true (q + g) ⟨ts', bl', []⟩ (b :: a2) toks (.inl (by simp)) (by simp) (fun t' htm hk5 => by
                  dsimp only at htm
                  rw [e0] at htm
                  rcases List.mem_append.1 htm with htm | htm
                  · have := h5 t' htm hk5; omega
                  · exact absurd hk5 (hm0 t' htm).1) h (by
                  obtain ⟨t', q1, q2, q3⟩ := ht
                  exact ⟨t', q1, q2, by rw [q3, hq]⟩)
                rw [hq] at r1 r2
                exact ⟨T, bl, (run_ind hg hd e hi).trans r1, (run_ind hg2 hd2 e' hi).trans r2⟩
            · rw [goF_line_open n q st _ (by rw [hg, hd]; exact e) hop, hg, hd] at h
              obtain ⟨T, bl, r1, r2⟩ := ih true (q + g) st (b :: a2) toks (.inl (by simp)) ho (fun t' htm hk5 => by have := h5 t' htm hk5; omega) h (by
                obtain ⟨t', q1, q2, q3⟩ := ht
                exact ⟨t', q1, q2, by rw [q3, hq]⟩)
              rw [hq] at r1 r2
              exact ⟨T, bl, (run_open hg hd e hop).trans r1, (run_open hg2 hd2 e' hop).trans r2⟩
      · obtain rfl : g = a.length := by omega
        exfalso
        rw [goF_line_end n q st _ (by rw [hg, List.drop_left]; rfl), hg, List.drop_left] at h
        exact none_at (n := n) (mid := false) (q' := q + a.length + 1) ho h5 h (Nat.le_add_right ..) (Nat.lt_succ_self _) ht
/-- More behind a line: the same tokens; those ahead of it in the same places. -/
theorem scan_spaces (a R : List UInt8) (toks : List Tok) (h : scanF (a ++ 10 :: R) = .ok toks) (ht : ∃ t ∈ toks, t.kind = 5 ∧ t.pos = a.length) :
    ∃ toks', scanF (a ++ (ins ++ [10, 10, 32, 32, 32, 32, 10] ++ R)) = .ok toks' ∧ toks.map kt = toks'.map kt ∧ ∀ (i : Nat) t u, toks[i]? = some t → toks'[i]? = some u → t.pos < a.length → u.pos = t.pos := by
  have h' : goF (2 * (a ++ 10 :: R).length + 2) false 0 ⟨[], [0], []⟩ (a ++ 10 :: R) = .ok toks := h
  obtain ⟨T, bl, r1, r2⟩ := run_pre R (10 :: 32 :: 32 :: 32 :: 32 :: 10 :: R) _ false 0 ⟨[], [0], []⟩ a toks (.inr rfl) (by simp) (by simp) h' (by rwa [Nat.zero_add])
  rw [Nat.zero_add] at r1 r2
  have hnl : ∀ p, nlF ⟨T, bl, []⟩ p = ⟨T ++ [⟨5, [], p⟩], bl, []⟩ := fun p => by unfold nlF; rw [if_pos rfl]
  have s1 := r1.trans (run_end (p := a.length) (st := ⟨T, bl, []⟩) (r := R))
  have s2 := r2.trans (run_end (p := a.length + 9) (st := ⟨T, bl, []⟩) (r := 10 :: 32 :: 32 :: 32 :: 32 :: 10 :: R))
  rw [hnl] at s1 s2
  have s3 := (s2.trans (run_blank (g := 0) (r := 32 :: 32 :: 32 :: 32 :: 10 :: R) rfl rfl)).trans (run_blank (g := 4) (l := 32 :: 32 :: 32 :: 32 :: 10 :: R) (r := R) rfl rfl)
  have o1 := Run.outs s1 (h ▸ Out.scan (a ++ 10 :: R))
  obtain ⟨k, hk⟩ := o1
  obtain ⟨R2, k2, hk2⟩ := Out.exists ⟨false, a.length + 9 + 1 + 0 + 1 + 4 + 1, ⟨T ++ [⟨5, [], a.length + 9⟩], bl, []⟩, R⟩ (by simp)
  have hk0 : goF (k2 + k) false (a.length + 1) ⟨T ++ [⟨5, [], a.length⟩], bl, []⟩ R = .ok toks := hk k2
  obtain ⟨more, e, hm⟩ := more_tok _ _ _ _ _ _ (by simp) hk0
  obtain ⟨toks', e1, e2⟩ := go_sim (k2 + k) false (a.length + 1) (a.length + 9 + 1 + 0 + 1 + 4 + 1) ⟨T ++ [⟨5, [], a.length⟩], bl, []⟩ ⟨T ++ [⟨5, [], a.length + 9⟩], bl, []⟩ R toks rfl rfl (by simp [kt]) hk0
  obtain ⟨more', e', _⟩ := more_tok _ _ _ _ _ _ (by simp) e1
  have hR2 : R2 = .ok toks' := by
    rw [← hk2 k, Nat.add_comm]; exact e1
  subst hR2
  refine ⟨toks', scan_out (s3.out ⟨k2, hk2⟩), e2, fun i t u hi hu hlt => ?_⟩
  dsimp only at e e'
  rw [e, List.append_assoc] at hi
  rw [e', List.append_assoc] at hu
  rcases Nat.lt_or_ge i T.length with hT | hT
  · rw [List.getElem?_append_left hT] at hi hu
    rw [hi] at hu
    rw [Option.some.inj hu]
  · exfalso
    rw [List.getElem?_append_right hT] at hi
    rcases List.mem_append.1 (List.mem_of_getElem? hi) with hm1 | hm1
    · rw [List.mem_singleton.1 hm1] at hlt
      exact Nat.lt_irrefl _ hlt
    · have := (hm t hm1).1; omega
/-- A newline token that is not at the text's end stands where a newline is. -/
theorem five_at {l : List UInt8} {toks : List Tok} (h : scanF l = .ok toks) {t : Tok} (ht : t ∈ toks) (hk : t.kind = 5) (hp : t.pos < l.length) : l = l.take t.pos ++ 10 :: l.drop (t.pos + 1) := by
  have h' : goF (2 * l.length + 2) false 0 ⟨[], [0], []⟩ l = .ok toks := h
  obtain ⟨more, e, hm⟩ := more_tok _ _ _ _ _ _ (by simp) h'
  rw [List.nil_append] at e
  subst e
  rcases (hm t ht).2 hk with h1 | h1
  · omega
  · rw [Nat.sub_zero] at h1
    have h2 : l.drop t.pos = 10 :: l.drop (t.pos + 1) := by
      rw [List.drop_eq_getElem_cons hp]
      rw [List.getElem?_eq_getElem hp] at h1
      rw [Option.some.inj h1]
    rw [← h2, List.take_append_drop]
end Spc
end Go.Proofs.YtjobpcbnolgmnaaDoor
