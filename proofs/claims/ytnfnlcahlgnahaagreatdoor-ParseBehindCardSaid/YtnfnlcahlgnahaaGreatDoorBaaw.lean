/- Parts of the proof, together. What stands at the end of a line changes nothing but places: the plain scanner's runs. No conditions. -/
import Derived.Test.YtnfnlcahlgnahaaGreatDoorBaav
namespace Go.Proofs.YtnfnlcahlgnahaaGreatDoor
open Lx
namespace Spc

theorem lenF_app (p : UInt8 → Bool) : ∀ (a Y : List UInt8), lenF p (a ++ Y) = lenF p a + if lenF p a = a.length then lenF p Y else 0
  | [], Y => by simp [lenF]
  | b :: a, Y => by
    have ih := lenF_app p a Y
    show (if p b then lenF p (a ++ Y) + 1 else 0) = (if p b then lenF p a + 1 else 0) + if (if p b then lenF p a + 1 else 0) = a.length + 1 then lenF p Y else 0
    cases p b with
    | true =>
      simp only [if_true]
      rw [ih]
      by_cases h : lenF p a = a.length
      · rw [if_pos h, if_pos (by omega)]; omega
      · rw [if_neg h, if_neg (by omega)]
    | false => simp
/-- More behind a line. -/
def ins : List UInt8 := [32, 32, 32, 35, 32, 109, 111, 114, 101]
theorem gap_at (l : List UInt8) (s : Nat) (b : UInt8) (r : List UInt8) (hs : lenF sp l = s) (hd : l.drop s = b :: r) : gapF l = if b == 10 then s else if b == 35 then s + lenF tb (b :: r) else s := by
  unfold gapF
  rw [hs, hd]
theorem gap_pre (a R R' : List UInt8) : gapF (a ++ 10 :: R) ≤ a.length ∧ (gapF (a ++ 10 :: R) < a.length → ∀ Y, gapF (a ++ Y) = gapF (a ++ 10 :: R)) ∧ (gapF (a ++ 10 :: R) = a.length → gapF (a ++ (ins ++ 10 :: R')) = a.length + 9) := by
  have hle := lenF_le sp a
  by_cases hs : lenF sp a = a.length
  · have h1 : lenF sp (a ++ 10 :: R) = a.length := by rw [lenF_app, if_pos hs, hs]; rfl
    have g1 : gapF (a ++ 10 :: R) = a.length := by
      rw [gap_at _ _ 10 R h1 (List.drop_left)]; rfl
    have h2 : lenF sp (a ++ (ins ++ 10 :: R')) = a.length + 3 := by rw [lenF_app, if_pos hs, hs]; rfl
    have g2 : gapF (a ++ (ins ++ 10 :: R')) = a.length + 9 := by
      rw [gap_at _ _ 35 ([32, 109, 111, 114, 101] ++ 10 :: R') h2 (by rw [← List.drop_drop, List.drop_left]; rfl)]
      rfl
    exact ⟨by omega, fun h => by omega, fun _ => g2⟩
  · have hlt : lenF sp a < a.length := by omega
    obtain ⟨b, r, hbr⟩ : ∃ b r, a.drop (lenF sp a) = b :: r := by
      rw [List.drop_eq_getElem_cons hlt]; exact ⟨_, _, rfl⟩
    have hlen : (b :: r).length = a.length - lenF sp a := by rw [← hbr, List.length_drop]
    have hall : ∀ Y, lenF sp (a ++ Y) = lenF sp a := fun Y => by rw [lenF_app, if_neg hs]; rfl
    have hdr : ∀ Y, (a ++ Y).drop (lenF sp a) = b :: (r ++ Y) := fun Y => by rw [drop_pre (by omega), hbr]; rfl
    have hg : ∀ Y, gapF (a ++ Y) = if b == 10 then lenF sp a else if b == 35 then lenF sp a + lenF tb (b :: (r ++ Y)) else lenF sp a := fun Y => gap_at _ _ b (r ++ Y) (hall Y) (hdr Y)
    rw [hg, hg]
    by_cases e10 : (b == 10) = true
    · simp only [e10, if_true]
      exact ⟨by omega, fun _ Y => by rw [hg Y, if_pos e10], fun h => absurd h hs⟩
    · by_cases e35 : (b == 35) = true
      · simp only [if_neg e10, e35, if_true]
        have ht := lenF_le tb (b :: r)
        have happ : ∀ Y, lenF tb (b :: (r ++ Y)) = lenF tb (b :: r) + if lenF tb (b :: r) = (b :: r).length then lenF tb Y else 0 := fun Y => by rw [← List.cons_append]; exact lenF_app tb (b :: r) Y
        have h10 : lenF tb (b :: (r ++ 10 :: R)) = lenF tb (b :: r) := by rw [happ]; split <;> rfl
        rw [h10]
        refine ⟨by omega, fun h Y => ?_, fun h => ?_⟩
        · rw [hg Y, if_neg e10, if_pos e35, happ, if_neg (by omega)]; rfl
        · rw [happ, if_pos (by omega)]
          have : lenF tb (ins ++ 10 :: R') = 9 := rfl
          omega
      · simp only [if_neg e10, if_neg e35]
        exact ⟨by omega, fun _ Y => by rw [hg Y, if_neg e10, if_neg e35], fun h => absurd h hs⟩
theorem tok_kind {op l : List UInt8} {k n : Nat} {t op' : List UInt8} (h : tokF op l = .ok k t n op') : k ≠ 5 := by
  cases l with
  | nil => cases h
  | cons b l =>
    rcases Bool.eq_false_or_eq_true (lt b) with e1 | e1
    · rw [tokF_name op b l e1] at h
      injection h with h1 _ _ _
      subst h1
      split <;> decide
    · rcases Bool.eq_false_or_eq_true (dg b) with e2 | e2
      · rw [tokF_num op b l e1 e2] at h
        split at h
        · cases h
        · injection h with h1 _ _ _
          subst h1; decide
      · by_cases hq : b = 34 ∨ b = 39
        · rw [tokF_quo op b l e1 e2 hq] at h
          split at h
          · cases h
          · injection h with h1 _ _ _
            subst h1; decide
        · rw [tokF_sgn op b l e1 e2 hq] at h
          split at h
          · cases h
          · injection h with h1 _ _ _
            subst h1; decide
theorem ind_kind {n pos : Nat} {ts ts' : List Tok} {bl bl' : List Nat} (h : indF n pos ts bl = some (ts', bl')) : ∃ more, ts' = ts ++ more ∧ ∀ t ∈ more, t.kind ≠ 5 ∧ t.pos = pos := by
  unfold indF at h
  split at h
  · split at h
    · cases h
    · injection h with h
      injection h with h1 h2
      subst h1
      exact ⟨_, rfl, fun t ht => by rw [List.mem_singleton.1 ht]; exact ⟨show (6 : Nat) ≠ 5 by decide, rfl⟩⟩
  · split at h
    · injection h with h
      injection h with h1 h2
      subst h1
      exact ⟨_, rfl, fun t ht => by rw [List.eq_of_mem_replicate ht]; exact ⟨show (7 : Nat) ≠ 5 by decide, rfl⟩⟩
    · cases h
/-- A token that was made from place q on of the rest l: its place; a newline is one, or the end. -/
def Fine (q : Nat) (l : List UInt8) (t : Tok) : Prop := q ≤ t.pos ∧ (t.kind = 5 → t.pos = q + l.length ∨ l[t.pos - q]? = some 10)
theorem Fine.shift {q d : Nat} {l : List UInt8} {t : Tok} (h : Fine (q + d) (l.drop d) t) (hd : d ≤ l.length) : Fine q l t := by
  obtain ⟨h1, h2⟩ := h
  refine ⟨by omega, fun hk => ?_⟩
  rcases h2 hk with h | h
  · left; rw [List.length_drop] at h; omega
  · right
    rw [List.getElem?_drop] at h
    rwa [show d + (t.pos - (q + d)) = t.pos - q by omega] at h
theorem fine_other {q : Nat} {l : List UInt8} {t : Tok} (h : q ≤ t.pos) (hk : t.kind ≠ 5) : Fine q l t := ⟨h, fun e => absurd e hk⟩
theorem end_more {q : Nat} {st : St} {toks : List Tok} (h : endF q st = .ok toks) : ∃ more, toks = st.toks ++ more ∧ ∀ t ∈ more, t.kind ≠ 5 ∧ t.pos = q := by
  unfold endF at h
  split at h
  · injection h with h
    subst h
    refine ⟨_, (List.append_assoc ..), fun t ht => ?_⟩
    rcases List.mem_append.1 ht with ht | ht
    · rw [List.eq_of_mem_replicate ht]; exact ⟨show (7 : Nat) ≠ 5 by decide, rfl⟩
    · rw [List.mem_singleton.1 ht]; exact ⟨show (8 : Nat) ≠ 5 by decide, rfl⟩
  · cases h
theorem more_tok : ∀ (n : Nat) (mid : Bool) (q : Nat) (st : St) (l : List UInt8) (toks : List Tok), st.op.length ≤ 60 → goF n mid q st l = .ok toks → ∃ more, toks = st.toks ++ more ∧ ∀ t ∈ more, Fine q l t := by
  intro n
  induction n with
  | zero => intro mid q st l toks _ h; cases h
  | succ n ih =>
    intro mid q st l toks ho h
    have hcont : ∀ (q' : Nat) (st' : St) (l' : List UInt8), st'.op.length ≤ 60 → contF n q' st' l' = .ok toks → ends l' = true → ∃ more, toks = st'.toks ++ more ∧ ∀ t ∈ more, Fine q' l' t := by
      intro q' st' l' ho' hc he
      cases l' with
      | nil =>
        obtain ⟨more, e, hm⟩ := end_more hc
        exact ⟨more, e, fun t ht => fine_other (Nat.le_of_eq (hm t ht).2.symm) (hm t ht).1⟩
      | cons b r =>
        obtain ⟨more, e, hm⟩ := ih false (q' + 1) st' r toks ho' hc
        exact ⟨more, e, fun t ht => Fine.shift (d := 1) (hm t ht) (by simp)⟩
    cases mid with
    | true =>
      rcases Bool.eq_false_or_eq_true (ends l) with e | e
      · rw [goF_mid_end n q st l e] at h
        obtain ⟨more, e1, hm⟩ := hcont q (nlF st q) l (by unfold nlF; split <;> exact ho) h e
        unfold nlF at e1
        by_cases hop : st.op = []
        · rw [if_pos hop] at e1
          refine ⟨⟨5, [], q⟩ :: more, by rw [e1]; simp, fun t ht => ?_⟩
          rcases List.mem_cons.1 ht with rfl | ht
          · refine ⟨Nat.le_refl _, fun _ => ?_⟩
            cases l with
            | nil => left; rfl
            | cons b r =>
              right
              have : b = 10 := by simpa [ends] using e
              subst this
              simp
          · exact hm t ht
        · rw [if_neg hop] at e1
          exact ⟨more, e1, hm⟩
      · rw [goF_mid_tok n q st l e] at h
        cases ht : tokF st.op l with
        | bad j => rw [ht] at h; cases h
        | ok k t m op =>
          rw [ht] at h
          obtain ⟨h1, h2, h3⟩ := tokF_ok ht ho
          have hgl := gapF_le (l.drop m)
          rw [List.length_drop] at hgl
          obtain ⟨more, e1, hm⟩ := ih true _ _ _ toks h1 h
          refine ⟨⟨k, t, q⟩ :: more, by rw [e1]; simp, fun u hu => ?_⟩
          rcases List.mem_cons.1 hu with rfl | hu
          · exact fine_other (Nat.le_refl _) (tok_kind ht)
          · have := hm u hu
            rw [List.drop_drop, Nat.add_assoc] at this
            exact this.shift (by omega)
    | false =>
      have hgl := gapF_le l
      rcases Bool.eq_false_or_eq_true (ends (l.drop (gapF l))) with e | e
      · rw [goF_line_end n q st l e] at h
        obtain ⟨more, e1, hm⟩ := hcont (q + gapF l) st (l.drop (gapF l)) ho h e
        exact ⟨more, e1, fun t ht => (hm t ht).shift hgl⟩
      · by_cases hop : st.op = []
        · rw [goF_line_ind n q st l e hop] at h
          cases hi : indF (gapF l) (q + gapF l) st.toks st.blocks with
          | none => rw [hi] at h; cases h
          | some x =>
            obtain ⟨ts', bl'⟩ := x
            rw [hi] at h
            obtain ⟨m0, e0, hm0⟩ := ind_kind hi
            obtain ⟨more, e1, hm⟩ := ih true (q + gapF l) ⟨ts', bl', st.op⟩ (l.drop (gapF l)) toks ho h
            refine ⟨m0 ++ more, by rw [e1]; show ts' ++ more = _; rw [e0, List.append_assoc], fun t ht => ?_⟩
            rcases List.mem_append.1 ht with ht | ht
            · exact fine_other (by rw [(hm0 t ht).2]; omega) (hm0 t ht).1
            · exact (hm t ht).shift hgl
        · rw [goF_line_open n q st l e hop] at h
          obtain ⟨more, e1, hm⟩ := ih true _ _ _ toks ho h
          exact ⟨more, e1, fun t ht => (hm t ht).shift hgl⟩
/-- What a token says, without its place. -/
def kt (t : Tok) : Nat × List UInt8 := (t.kind, t.text)
theorem end_sim {q q' : Nat} {st st' : St} {toks : List Tok} (hb : st.blocks = st'.blocks) (ho : st.op = st'.op) (ht : st.toks.map kt = st'.toks.map kt) (h : endF q st = .ok toks) : ∃ toks', endF q' st' = .ok toks' ∧ toks.map kt = toks'.map kt := by
  unfold endF at h ⊢
  rw [← ho, ← hb]
  split at h
  · next e =>
    rw [if_pos e]
    injection h with h
    subst h
    exact ⟨_, rfl, by simp [ht, deds, kt]⟩
  · cases h
theorem ind_sim {n pos pos' : Nat} {ts ts2 : List Tok} {bl : List Nat} {x : List Tok × List Nat} (ht : ts.map kt = ts2.map kt) (h : indF n pos ts bl = some x) : ∃ ts', indF n pos' ts2 bl = some (ts', x.2) ∧ x.1.map kt = ts'.map kt := by
  unfold indF at h ⊢
  split at h
  · next e =>
    rw [if_pos e]
    split at h
    · cases h
    · next e2 =>
      rw [if_neg e2]
      cases h
      exact ⟨_, rfl, by simp [ht, kt]⟩
  · next e =>
    rw [if_neg e]
    split at h
    · next e2 =>
      rw [if_pos e2]
      cases h
      exact ⟨_, rfl, by simp [ht, kt]⟩
    · cases h
theorem go_sim : ∀ (n : Nat) (mid : Bool) (q q' : Nat) (st st' : St) (l : List UInt8) (toks : List Tok), st.blocks = st'.blocks → st.op = st'.op → st.toks.map kt = st'.toks.map kt → goF n mid q st l = .ok toks → ∃ toks', goF n mid q' st' l = .ok toks' ∧ toks.map kt = toks'.map kt := by
  intro n
  induction n with
  | zero => intro mid q q' st st' l toks _ _ _ h; cases h
  | succ n ih =>
    intro mid q q' st st' l toks hb ho ht h
    have hcont : ∀ (q q' : Nat) (st st' : St) (l : List UInt8), st.blocks = st'.blocks → st.op = st'.op → st.toks.map kt = st'.toks.map kt → contF n q st l = .ok toks → ∃ toks', contF n q' st' l = .ok toks' ∧ toks.map kt = toks'.map kt := by
      intro q q' st st' l hb ho ht h
      cases l with
      | nil => exact end_sim hb ho ht h
      | cons b r => exact ih false _ _ _ _ r toks hb ho ht h
    cases mid with
    | true =>
      rcases Bool.eq_false_or_eq_true (ends l) with e | e
      · rw [goF_mid_end n q st l e] at h
        rw [goF_mid_end n q' st' l e]
        refine hcont _ _ _ _ _ ?_ ?_ ?_ h
        · unfold nlF; rw [← ho]; split <;> exact hb
        · unfold nlF; rw [← ho]; split <;> first | rfl | exact ho
        · unfold nlF; rw [← ho]; split
          · show List.map kt (st.toks ++ [_]) = List.map kt (st'.toks ++ [_])
            rw [List.map_append, List.map_append, ht]; rfl
          · exact ht
      · rw [goF_mid_tok n q st l e] at h
        rw [goF_mid_tok n q' st' l e, ← ho]
        cases hk : tokF st.op l with
        | bad j => rw [hk] at h; cases h
        | ok k t m op =>
          rw [hk] at h
          exact ih true _ _ ⟨st.toks ++ [⟨k, t, q⟩], st.blocks, op⟩ ⟨st'.toks ++ [⟨k, t, q'⟩], st'.blocks, op⟩ _ toks hb rfl (by show List.map kt (st.toks ++ [_]) = List.map kt (st'.toks ++ [_]); rw [List.map_append, List.map_append, ht]; rfl) h
    | false =>
      rcases Bool.eq_false_or_eq_true (ends (l.drop (gapF l))) with e | e
      · rw [goF_line_end n q st l e] at h
        rw [goF_line_end n q' st' l e]
        exact hcont _ _ _ _ _ hb ho ht h
      · by_cases hop : st.op = []
        · rw [goF_line_ind n q st l e hop] at h
          rw [goF_line_ind n q' st' l e (by rw [← ho]; exact hop), ← hb]
          cases hi : indF (gapF l) (q + gapF l) st.toks st.blocks with
          | none => rw [hi] at h; cases h
          | some x =>
            obtain ⟨ts', bl'⟩ := x
            rw [hi] at h
            obtain ⟨ts2, e1, e2⟩ := ind_sim (pos' := q' + gapF l) ht hi
            rw [e1]
            exact ih true (q + gapF l) (q' + gapF l) ⟨ts', bl', st.op⟩ ⟨ts2, bl', st'.op⟩ _ toks rfl ho e2 h
        · rw [goF_line_open n q st l e hop] at h
          rw [goF_line_open n q' st' l e (by rw [← ho]; exact hop)]
          exact ih true _ _ _ _ _ toks hb ho ht h
end Spc
end Go.Proofs.YtnfnlcahlgnahaaGreatDoor
