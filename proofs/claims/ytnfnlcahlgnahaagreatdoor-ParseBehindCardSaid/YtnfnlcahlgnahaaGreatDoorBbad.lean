/- The tokens of a text with a line more behind it; the last token alone is the end. No conditions. -/
import Derived.Test.YtnfnlcahlgnahaaGreatDoorBaaw
import Derived.Test.YtnfnlcahlgnahaaGreatDoorBbac
namespace Go.Proofs.YtnfnlcahlgnahaaGreatDoor
open Lx
namespace Bh
open Spc

theorem lenF_pre10 (p : UInt8 → Bool) (h10 : p 10 = false) (h32 : p 32 = false) (a R R' : List UInt8) : lenF p (a ++ 10 :: R) = lenF p (a ++ 10 :: R') ∧ lenF p (a ++ 10 :: R) ≤ a.length :=
  ⟨(lenF_pre p h10 h32 a R []).1.trans (lenF_pre p h10 h32 a R' []).1.symm, (lenF_pre p h10 h32 a R []).2⟩
theorem tok_pre10 (op : List UInt8) (b : UInt8) (a R R' : List UInt8) {k m : Nat} {t op' : List UInt8} (h : tokF op ((b :: a) ++ 10 :: R) = .ok k t m op') : m ≤ (b :: a).length ∧ tokF op ((b :: a) ++ 10 :: R') = .ok k t m op' := by
  rcases Bool.eq_false_or_eq_true (lt b) with e1 | e1
  · obtain ⟨h1, h2⟩ := lenF_pre10 nb (by decide) (by decide) (b :: a) R R'
    rw [List.cons_append, tokF_name op b _ e1, ← List.cons_append] at h
    rw [List.cons_append, tokF_name op b _ e1, ← List.cons_append, ← h1, take_pre h2]
    rw [take_pre h2] at h
    injection h with g1 g2 g3 g4
    subst g1 g2 g3 g4
    exact ⟨h2, rfl⟩
  · rcases Bool.eq_false_or_eq_true (dg b) with e2 | e2
    · obtain ⟨h1, h2⟩ := lenF_pre10 dg (by decide) (by decide) (b :: a) R R'
      have hbn : badNum ((b :: a) ++ 10 :: R) = badNum ((b :: a) ++ 10 :: R') := by
        unfold badNum
        rw [← h1, drop_pre h2, drop_pre h2, (lenF_pre10 lt (by decide) (by decide) _ R R').1]
        rfl
      rw [List.cons_append, tokF_num op b _ e1 e2, ← List.cons_append, take_pre h2, hbn] at h
      rw [List.cons_append, tokF_num op b _ e1 e2, ← List.cons_append, ← h1, take_pre h2]
      split at h
      · cases h
      · next eb =>
        rw [if_neg eb]
        injection h with g1 g2 g3 g4
        subst g1 g2 g3 g4
        exact ⟨h2, rfl⟩
    · by_cases hq : b = 34 ∨ b = 39
      · rw [List.cons_append, tokF_quo op b _ e1 e2 hq] at h
        rw [List.cons_append, tokF_quo op b _ e1 e2 hq]
        unfold quoF at h ⊢
        cases hc : closedF b false (a ++ 10 :: R) with
        | none => rw [hc] at h; cases h
        | some n =>
          obtain ⟨h1, h2⟩ := closed_pre b a false R n hc
          rw [hc] at h
          rw [h2 (10 :: R')]
          dsimp only at h ⊢
          rw [take_pre (a := a) (m := n) (by omega)] at h
          rw [take_pre (a := a) (m := n) (by omega)]
          refine ⟨?_, h⟩
          rcases hu : unqF n (a.take n) with ⟨said, o⟩
          rw [hu] at h
          cases o with
          | none =>
            injection h with g1 g2 g3 g4
            subst g3
            simp; omega
          | some j => cases h
      · obtain ⟨h1a, h2⟩ := sign_pre b a R []
        have h1 := h1a.trans (sign_pre b a R' []).1.symm
        have h1' : signF ((b :: a) ++ 10 :: R) = signF ((b :: a) ++ 10 :: R') := h1
        have h2' : signF ((b :: a) ++ 10 :: R) ≤ (b :: a).length := h2
        have ht : ((b :: a) ++ 10 :: R).take (signF ((b :: a) ++ 10 :: R)) = ((b :: a) ++ 10 :: R').take (signF ((b :: a) ++ 10 :: R)) := by rw [take_pre h2', take_pre h2']
        rw [List.cons_append, tokF_sgn op b _ e1 e2 hq] at h
        rw [List.cons_append, tokF_sgn op b _ e1 e2 hq]
        unfold sgnF at h ⊢
        rw [← List.cons_append] at h ⊢
        rw [← h1', ← ht]
        refine ⟨?_, h⟩
        split at h
        · cases h
        · injection h with g1 g2 g3 g4
          subst g3
          exact h2'
theorem gap_pre10 (a R R' : List UInt8) : gapF (a ++ 10 :: R) = gapF (a ++ 10 :: R') ∧ gapF (a ++ 10 :: R) ≤ a.length := by
  obtain ⟨h1, h2, _⟩ := gap_pre a R []
  obtain ⟨h1', h2', _⟩ := gap_pre a R' []
  refine ⟨?_, h1⟩
  by_cases e : gapF (a ++ 10 :: R) < a.length
  · exact (h2 e _).symm
  · by_cases e' : gapF (a ++ 10 :: R') < a.length
    · exact h2' e' _
    · omega
def dedT (bl : List Nat) (p : Nat) : List Tok := List.replicate (bl.takeWhile (0 < ·)).length ⟨7, [], p⟩
/-- Nothing, or a line's end last. -/
def L5 (T : List Tok) : Prop := ∀ t, T.getLast? = some t → t.kind = 5
theorem L5.add (T : List Tok) (p : Nat) : L5 (T ++ [⟨5, [], p⟩]) := fun t h => by
  rw [List.getLast?_append] at h
  obtain rfl : (⟨5, [], p⟩ : Tok) = t := by simpa using h
  rfl
theorem nl_five (st : St) (p : Nat) : (nlF st p).op = [] → L5 (nlF st p).toks := by
  unfold nlF
  by_cases e : st.op = []
  · rw [if_pos e]; exact fun _ => L5.add _ _
  · rw [if_neg e]; exact fun h => absurd h e
/-- A text that ends with a line's end: its tokens; so far the scanner comes whatever stands behind. -/
theorem run_bhd (s : List UInt8) : ∀ (n : Nat) (mid : Bool) (q : Nat) (st : St) (y : List UInt8) (toks : List Tok), st.op.length ≤ 60 → (mid = false → st.op = [] → L5 st.toks) → goF n mid q st (y ++ [10]) = .ok toks →
    ∃ T bl, toks = T ++ dedT bl (q + y.length + 1) ++ [⟨8, [], q + y.length + 1⟩] ∧ L5 T ∧ Run ⟨mid, q, st, y ++ 10 :: s⟩ ⟨false, q + y.length + 1, ⟨T, bl, []⟩, s⟩ := by
  intro n
  induction n with
  | zero => intro mid q st y toks _ _ h; cases h
  | succ n ih =>
    intro mid q st y toks ho h5 h
    -- the end of a line, and what follows
    have fin : ∀ (q' : Nat) (st' : St) (r : List UInt8), st'.op.length ≤ 60 → (st'.op = [] → L5 st'.toks) → contF n q' st' (10 :: r) = .ok toks → (r = [] ∨ ∃ y', r = y' ++ [10]) → ∃ T bl, toks = T ++ dedT bl (q' + (10 :: r).length) ++ [⟨8, [], q' + (10 :: r).length⟩] ∧ L5 T ∧ Run ⟨false, q' + 1, st', r ++ s⟩ ⟨false, q' + (10 :: r).length, ⟨T, bl, []⟩, s⟩ := by
      intro q' st' r ho' h5' h' hr
      have h1 : goF n false (q' + 1) st' r = .ok toks := h'
      rcases hr with rfl | ⟨y', rfl⟩
      · rcases n with _ | m
        · cases h1
        · rw [goF_line_end m (q' + 1) st' [] rfl] at h1
          have h2 : endF (q' + 1) st' = .ok toks := h1
          unfold endF at h2
          by_cases hop : st'.op = []
          · rw [if_pos hop] at h2
            injection h2 with h2
            refine ⟨st'.toks, st'.blocks, h2.symm, h5' hop, ?_⟩
            obtain ⟨tk, bl, op⟩ := st'
            subst hop
            exact Run.refl _
          · rw [if_neg hop] at h2; cases h2
      · obtain ⟨T, bl, e1, e5, e2⟩ := ih false (q' + 1) st' y' toks ho' (fun _ => h5') h1
        have el : q' + 1 + y'.length + 1 = q' + (10 :: (y' ++ [10])).length := by simp; omega
        rw [el] at e1 e2
        refine ⟨T, bl, e1, e5, ?_⟩
        rw [List.append_assoc]
        exact e2
    cases mid with
    | true =>
      cases y with
      | nil =>
        rw [List.nil_append, goF_mid_end n q st [10] rfl] at h
        obtain ⟨T, bl, e1, e5, e2⟩ := fin q (nlF st q) [] (by unfold nlF; split <;> exact ho) (nl_five st q) h (.inl rfl)
        exact ⟨T, bl, e1, e5, Run.trans run_end e2⟩
      | cons b y =>
        by_cases hb : b = 10
        · subst hb
          rw [List.cons_append, goF_mid_end n q st _ rfl] at h
          obtain ⟨T, bl, e1, e5, e2⟩ := fin q (nlF st q) (y ++ [10]) (by unfold nlF; split <;> exact ho) (nl_five st q) h (.inr ⟨y, rfl⟩)
          have el : q + (10 :: (y ++ [10])).length = q + ((10 : UInt8) :: y).length + 1 := by simp; omega
          rw [el] at e1 e2
          rw [List.append_assoc] at e2
          exact ⟨T, bl, e1, e5, Run.trans run_end e2⟩
        · have he : ends ((b :: y) ++ [10]) = false := by show (b == 10) = false; simpa using hb
          have he' : ends ((b :: y) ++ 10 :: s) = false := he
          rw [goF_mid_tok n q st _ he] at h
          cases ht : tokF st.op ((b :: y) ++ [10]) with
          | bad j => rw [ht] at h; cases h
          | ok k t m op =>
            rw [ht] at h
            dsimp only at h
            obtain ⟨hm, ht'⟩ := tok_pre10 st.op b y [] s ht
            obtain ⟨ho2, _, _⟩ := tokF_ok ht ho
            rw [drop_pre hm] at h
            obtain ⟨hg, hgl⟩ := gap_pre10 ((b :: y).drop m) [] s
            rw [drop_pre hgl] at h
            obtain ⟨T, bl, e1, e5, e2⟩ := ih true _ _ _ toks ho2 (fun h => by cases h) h
            have el : q + m + gapF ((b :: y).drop m ++ [10]) + (((b :: y).drop m).drop (gapF ((b :: y).drop m ++ [10]))).length + 1 = q + (b :: y).length + 1 := by
              rw [List.length_drop, List.length_drop]
              rw [List.length_drop] at hgl
              omega
            rw [el] at e1 e2
            refine ⟨T, bl, e1, e5, Run.trans ?_ e2⟩
            obtain ⟨tk, bk, ok⟩ := st
            refine run_tok (r := (b :: y).drop m ++ 10 :: s) he' ht' (drop_pre hm) hg.symm ?_
            rw [drop_pre hgl]
    | false =>
      obtain ⟨hg, hgl⟩ := gap_pre10 y [] s
      have hd : (y ++ [10]).drop (gapF (y ++ [10])) = y.drop (gapF (y ++ [10])) ++ [10] := drop_pre hgl
      have hd' : (y ++ 10 :: s).drop (gapF (y ++ [10])) = y.drop (gapF (y ++ [10])) ++ 10 :: s := drop_pre hgl
      have hl : gapF (y ++ [10]) + (y.drop (gapF (y ++ [10]))).length = y.length := by rw [List.length_drop]; omega
      generalize hgg : gapF (y ++ [10]) = g at hd hd' hl hg hgl
      generalize hr : y.drop g = r at hd hd' hl
      rcases Bool.eq_false_or_eq_true (ends (r ++ [10])) with e | e
      · rw [goF_line_end n q st _ (by rw [hgg, hd]; exact e), hgg, hd] at h
        cases r with
        | nil =>
          obtain ⟨T, bl, e1, e5, e2⟩ := fin (q + g) st [] ho (h5 rfl) h (.inl rfl)
          have el : q + g + [(10 : UInt8)].length = q + y.length + 1 := by simp at hl ⊢; omega
          rw [el] at e1 e2
          exact ⟨T, bl, e1, e5, Run.trans (run_blank hg.symm hd') e2⟩
        | cons c r =>
          have hc : c = 10 := by simpa [ends] using e
          subst hc
          rw [List.cons_append] at h
          obtain ⟨T, bl, e1, e5, e2⟩ := fin (q + g) st (r ++ [10]) ho (h5 rfl) h (.inr ⟨r, rfl⟩)
          have el : q + g + (10 :: (r ++ [10])).length = q + y.length + 1 := by simp at hl ⊢; omega
          rw [el] at e1 e2
          rw [List.append_assoc] at e2
          exact ⟨T, bl, e1, e5, Run.trans (run_blank hg.symm hd') e2⟩
      · have e' : ends (r ++ 10 :: s) = false := by cases r with | nil => exact e | cons c r => exact e
        by_cases hop : st.op = []
        · rw [goF_line_ind n q st _ (by rw [hgg, hd]; exact e) hop, hgg, hd] at h
          cases hi : indF g (q + g) st.toks st.blocks with
          | none => rw [hi] at h; cases h
          | some x =>
            rw [hi] at h
            obtain ⟨tk2, bl2⟩ := x
            dsimp only at h
            obtain ⟨T, bl, e1, e5, e2⟩ := ih true (q + g) ⟨tk2, bl2, st.op⟩ r toks ho (fun h => by cases h) h
            have el : q + g + r.length + 1 = q + y.length + 1 := by omega
            rw [el] at e1 e2
            refine ⟨T, bl, e1, e5, Run.trans ?_ e2⟩
            obtain ⟨tk, bk, ok⟩ := st
            subst hop
            exact run_ind hg.symm hd' e' hi
        · rw [goF_line_open n q st _ (by rw [hgg, hd]; exact e) hop, hgg, hd] at h
          obtain ⟨T, bl, e1, e5, e2⟩ := ih true (q + g) st r toks ho (fun h => by cases h) h
          have el : q + g + r.length + 1 = q + y.length + 1 := by omega
          rw [el] at e1 e2
          exact ⟨T, bl, e1, e5, Run.trans (run_open hg.symm hd' e' hop) e2⟩
def zzL : List UInt8 := [10, 122, 122, 32, 61, 32, 49, 10]
def zzT (p : Nat) : List Tok := [⟨1, [122, 122], p⟩, ⟨4, [61], p + 3⟩, ⟨2, [49], p + 5⟩, ⟨5, [], p + 6⟩, ⟨8, [], p + 7⟩]
theorem drop_zero (bl : List Nat) : (bl.dropWhile (0 < ·)).headD 0 = 0 ∧ (bl.dropWhile (0 < ·)).takeWhile (0 < ·) = [] := by
  induction bl with
  | nil => exact ⟨rfl, rfl⟩
  | cons a l ih =>
    rw [List.dropWhile_cons]
    split
    · exact ih
    · next h =>
      have h0 : a = 0 := by simpa using h
      subst h0
      exact ⟨rfl, rfl⟩
/-- The tokens of a text, and those of it with the line behind. -/
theorem scan_behind (l : List UInt8) (toks : List Tok) (h : scanF (l ++ [10]) = .ok toks) : ∃ T bl, toks = T ++ dedT bl (l.length + 1) ++ [⟨8, [], l.length + 1⟩] ∧ L5 T ∧ scanF (l ++ [10] ++ zzL) = .ok (T ++ dedT bl (l.length + 2) ++ zzT (l.length + 2)) := by
  obtain ⟨T, bl, e1, e5, e2⟩ := run_bhd zzL _ false 0 ⟨[], [0], []⟩ l toks (by simp) (fun _ _ t h => by simp at h) h
  rw [Nat.zero_add] at e1 e2
  refine ⟨T, bl, e1, e5, scan_out ?_⟩
  have hl : l ++ [10] ++ zzL = l ++ 10 :: zzL := by simp
  rw [hl]
  refine Run.out e2 ?_
  have hi : indF 0 (l.length + 2 + 0) T bl = some (T ++ dedT bl (l.length + 2), bl.dropWhile (0 < ·)) := by
    unfold indF
    rw [if_neg (by omega), if_pos (drop_zero bl).1]
    rfl
  refine Run.out (b := ⟨false, l.length + 2, ⟨T, bl, []⟩, [122, 122, 32, 61, 32, 49, 10]⟩) (run_blank (g := 0) rfl rfl) ?_
  refine Run.out (b := ⟨true, l.length + 2, ⟨T ++ dedT bl (l.length + 2), bl.dropWhile (0 < ·), []⟩, [122, 122, 32, 61, 32, 49, 10]⟩) (run_ind (g := 0) rfl rfl rfl hi) ?_
  refine Run.out (run_tok (k := 1) (m := 2) (g := 1) (tx := [122, 122]) (op' := []) (r := [32, 61, 32, 49, 10]) (r' := [61, 32, 49, 10]) rfl rfl rfl rfl rfl) ?_
  refine Run.out (run_tok (k := 4) (m := 1) (g := 1) (tx := [61]) (op' := []) (r := [32, 49, 10]) (r' := [49, 10]) rfl rfl rfl rfl rfl) ?_
  refine Run.out (run_tok (k := 2) (m := 1) (g := 0) (tx := [49]) (op' := []) (r := [10]) (r' := [10]) rfl rfl rfl rfl rfl) ?_
  refine Run.out run_end ?_
  have ho := out_line (p := l.length + 2 + 2 + 1 + 1 + 1 + 1 + 0 + 1) (g := 0) (l := []) (st := nlF ⟨T ++ dedT bl (l.length + 2) ++ [⟨1, [122, 122], l.length + 2⟩] ++ [⟨4, [61], l.length + 2 + 2 + 1⟩] ++ [⟨2, [49], l.length + 2 + 2 + 1 + 1 + 1⟩], bl.dropWhile (0 < ·), []⟩ (l.length + 2 + 2 + 1 + 1 + 1 + 1 + 0)) rfl rfl
  have hz : endF (l.length + 2 + 2 + 1 + 1 + 1 + 1 + 0 + 1 + 0) (nlF ⟨T ++ dedT bl (l.length + 2) ++ [⟨1, [122, 122], l.length + 2⟩] ++ [⟨4, [61], l.length + 2 + 2 + 1⟩] ++ [⟨2, [49], l.length + 2 + 2 + 1 + 1 + 1⟩], bl.dropWhile (0 < ·), []⟩ (l.length + 2 + 2 + 1 + 1 + 1 + 1 + 0)) = .ok (T ++ dedT bl (l.length + 2) ++ zzT (l.length + 2)) := by
    unfold endF nlF
    simp only [if_true, (drop_zero bl).2]
    simp [zzT, deds]
  rw [hz] at ho
  exact ho
theorem unqF_len : ∀ (m : Nat) (l : List UInt8), (unqF m l).1.length ≤ m
  | 0, _ => Nat.le_refl _
  | m + 1, [] => Nat.zero_le _
  | m + 1, b :: r => by
    unfold unqF
    dsimp only
    cases pieceF (b :: r) with
    | none => exact Nat.zero_le _
    | some x =>
      obtain ⟨c, k⟩ := x
      dsimp only
      have h1 := unqF_len m ((b :: r).drop k)
      rcases hu : unqF m ((b :: r).drop k) with ⟨said, o⟩
      rw [hu] at h1
      cases o with
      | none => exact Nat.succ_le_succ h1
      | some j => exact Nat.zero_le _
theorem tokF_text {op l : List UInt8} {k n : Nat} {t op' : List UInt8} (h : tokF op l = .ok k t n op') : t.length ≤ n ∧ k ≠ 8 := by
  cases l with
  | nil => cases h
  | cons b l =>
    rcases Bool.eq_false_or_eq_true (lt b) with e1 | e1
    · rw [tokF_name op b l e1] at h
      injection h with h1 h2 h3 h4
      subst h2 h3
      refine ⟨List.length_take_le _ _, ?_⟩
      rw [← h1]; split <;> decide
    · rcases Bool.eq_false_or_eq_true (dg b) with e2 | e2
      · rw [tokF_num op b l e1 e2] at h
        split at h
        · cases h
        · injection h with h1 h2 h3 h4
          subst h2 h3
          exact ⟨List.length_take_le _ _, by omega⟩
      · by_cases hq : b = 34 ∨ b = 39
        · rw [tokF_quo op b l e1 e2 hq] at h
          unfold quoF at h
          cases hc : closedF b false l with
          | none => rw [hc] at h; cases h
          | some m =>
            rw [hc] at h
            simp only at h
            rcases hu : unqF m (l.take m) with ⟨said, o⟩
            rw [hu] at h
            cases o with
            | none =>
              injection h with h1 h2 h3 h4
              subst h2 h3
              have h5 := unqF_len m (l.take m)
              rw [hu] at h5
              exact ⟨Nat.le_trans h5 (by omega), by omega⟩
            | some j => cases h
        · rw [tokF_sgn op b l e1 e2 hq] at h
          unfold sgnF at h
          by_cases h0 : signF (b :: l) = 0
          · rw [if_pos h0] at h; cases h
          · rw [if_neg h0, List.headD_cons] at h
            cases hb : brkF b op with
            | none => rw [hb] at h; cases h
            | some o2 =>
              rw [hb] at h
              injection h with h1 h2 h3 h4
              subst h2 h3
              exact ⟨List.length_take_le _ _, by omega⟩
open Px
theorem sumT_append : ∀ a b : List Tok, sumT (a ++ b) = sumT a + sumT b
  | [], b => by simp [sumT]
  | t :: a, b => by rw [List.cons_append, sumT, sumT, sumT_append a b]; omega
theorem sumT_deds : ∀ (k p : Nat) (kd : Nat), sumT (List.replicate k ⟨kd, [], p⟩) = 0
  | 0, _, _ => rfl
  | k + 1, p, kd => by rw [List.replicate_succ, sumT, sumT_deds k p kd]; rfl
/-- What comes of a place: tokens, none of them the end, and the end; how many, and how long. -/
theorem ends_tk : ∀ (n : Nat) (mid : Bool) (q : Nat) (st : St) (r : List UInt8) (toks : List Tok), st.op.length ≤ 60 → (∀ t ∈ st.toks, t.kind ≠ 8) → goF n mid q st r = .ok toks →
    ∃ T p, toks = T ++ [⟨8, [], p⟩] ∧ (∀ t ∈ T, t.kind ≠ 8) ∧ T.length ≤ st.toks.length + st.blocks.length + 2 * n ∧ sumT T ≤ sumT st.toks + r.length := by
  intro n
  induction n with
  | zero => intro mid q st r toks _ _ h; cases h
  | succ n ih =>
    intro mid q st r toks ho h8 h
    have fin : ∀ (q' : Nat) (st' : St) (r' : List UInt8), st'.op.length ≤ 60 → (∀ t ∈ st'.toks, t.kind ≠ 8) → st'.toks.length + st'.blocks.length ≤ st.toks.length + st.blocks.length + 1 → sumT st'.toks ≤ sumT st.toks → r'.length ≤ r.length → contF n q' st' r' = .ok toks → ∃ T p, toks = T ++ [⟨8, [], p⟩] ∧ (∀ t ∈ T, t.kind ≠ 8) ∧ T.length ≤ st.toks.length + st.blocks.length + 2 * (n + 1) ∧ sumT T ≤ sumT st.toks + r.length := by
      intro q' st' r' ho' h8' hc hs hr h'
      cases r' with
      | nil =>
        have h2 : endF q' st' = .ok toks := h'
        unfold endF at h2
        by_cases hop : st'.op = []
        · rw [if_pos hop] at h2
          injection h2 with h2
          refine ⟨st'.toks ++ deds (st'.blocks.takeWhile (0 < ·)).length q', q', h2.symm, fun t ht => ?_, ?_, ?_⟩
          · rcases List.mem_append.1 ht with ht | ht
            · exact h8' t ht
            · rw [List.eq_of_mem_replicate ht]; exact show (7 : Nat) ≠ 8 by decide
          · have hle : (st'.blocks.takeWhile (0 < ·)).length ≤ st'.blocks.length := (List.takeWhile_sublist _).length_le
            unfold deds
            rw [List.length_append, List.length_replicate]; omega
          · have h0 : sumT (deds (st'.blocks.takeWhile (0 < ·)).length q') = 0 := sumT_deds _ _ _
            rw [sumT_append]; omega
        · rw [if_neg hop] at h2; cases h2
      | cons b r' =>
        obtain ⟨T, p, e1, e2, e3, e4⟩ := ih false (q' + 1) st' r' toks ho' h8' h'
        simp only [List.length_cons] at hr
        exact ⟨T, p, e1, e2, by omega, by omega⟩
    cases mid with
    | true =>
      rcases Bool.eq_false_or_eq_true (ends r) with e | e
      · rw [goF_mid_end n q st r e] at h
        refine fin q (nlF st q) r (by unfold nlF; split <;> exact ho) ?_ ?_ ?_ (Nat.le_refl _) h
        · unfold nlF
          split
          · intro t ht
            rcases List.mem_append.1 ht with ht | ht
            · exact h8 t ht
            · rw [List.mem_singleton.1 ht]; exact show (5 : Nat) ≠ 8 by decide
          · exact h8
        · unfold nlF
          split
          · simp; omega
          · omega
        · unfold nlF
          split
          · rw [sumT_append]; exact Nat.le_refl _
          · exact Nat.le_refl _
      · rw [goF_mid_tok n q st r e] at h
        cases ht : tokF st.op r with
        | bad j => rw [ht] at h; cases h
        | ok k t m op =>
          rw [ht] at h
          obtain ⟨ho2, h1, h2⟩ := tokF_ok ht ho
          obtain ⟨h3, h4⟩ := tokF_text ht
          obtain ⟨T, p, e1, e2, e3, e4⟩ := ih true _ _ _ toks ho2 (fun u hu => by
            rcases List.mem_append.1 hu with hu | hu
            · exact h8 u hu
            · rw [List.mem_singleton.1 hu]; exact h4) h
          refine ⟨T, p, e1, e2, ?_, ?_⟩
          · simp only [List.length_append, List.length_singleton] at e3; omega
          · simp only [sumT_append, sumT, List.length_drop] at e4; omega
    | false =>
      rcases Bool.eq_false_or_eq_true (ends (r.drop (gapF r))) with e | e
      · rw [goF_line_end n q st r e] at h
        exact fin (q + gapF r) st (r.drop (gapF r)) ho h8 (by omega) (Nat.le_refl _) (by rw [List.length_drop]; omega) h
      · by_cases hop : st.op = []
        · rw [goF_line_ind n q st r e hop] at h
          cases hi : indF (gapF r) (q + gapF r) st.toks st.blocks with
          | none => rw [hi] at h; cases h
          | some x =>
            rw [hi] at h
            obtain ⟨tk2, bl2⟩ := x
            dsimp only at h
            have hx : (∀ t ∈ tk2, t.kind ≠ 8) ∧ tk2.length + bl2.length ≤ st.toks.length + st.blocks.length + 2 ∧ sumT tk2 = sumT st.toks := by
              unfold indF at hi
              split at hi
              · split at hi
                · cases hi
                · injection hi with hi
                  injection hi with g1 g2
                  subst g1 g2
                  refine ⟨fun t ht => ?_, by simp; omega, by rw [sumT_append]; rfl⟩
                  rcases List.mem_append.1 ht with ht | ht
                  · exact h8 t ht
                  · rw [List.mem_singleton.1 ht]; exact show (6 : Nat) ≠ 8 by decide
              · split at hi
                · injection hi with hi
                  injection hi with g1 g2
                  subst g1 g2
                  refine ⟨fun t ht => ?_, ?_, by rw [sumT_append, sumT_deds]; rfl⟩
                  · rcases List.mem_append.1 ht with ht | ht
                    · exact h8 t ht
                    · rw [List.eq_of_mem_replicate ht]; exact show (7 : Nat) ≠ 8 by decide
                  · have hsum : (st.blocks.takeWhile (gapF r < ·)).length + (st.blocks.dropWhile (gapF r < ·)).length = st.blocks.length := by rw [← List.length_append, List.takeWhile_append_dropWhile]
                    rw [List.length_append, List.length_replicate]; omega
                · cases hi
            obtain ⟨x1, x2, x3⟩ := hx
            obtain ⟨T, p, e1, e2, e3, e4⟩ := ih true (q + gapF r) ⟨tk2, bl2, st.op⟩ _ toks ho x1 h
            refine ⟨T, p, e1, e2, ?_, ?_⟩
            · dsimp only at e3; omega
            · dsimp only at e4; rw [x3, List.length_drop] at e4; omega
        · rw [goF_line_open n q st r e hop] at h
          obtain ⟨T, p, e1, e2, e3, e4⟩ := ih true _ st _ toks ho h8 h
          refine ⟨T, p, e1, e2, by omega, ?_⟩
          rw [List.length_drop] at e4; omega
theorem scan_ends {l : List UInt8} {toks : List Tok} (h : scanF l = .ok toks) : ∃ T p, toks = T ++ [⟨8, [], p⟩] ∧ (∀ t ∈ T, t.kind ≠ 8) ∧ T.length ≤ 4 * l.length + 5 ∧ sumT T ≤ l.length := by
  obtain ⟨T, p, e1, e2, e3, e4⟩ := ends_tk _ _ _ _ _ toks (by simp) (fun t ht => by simp at ht) h
  exact ⟨T, p, e1, e2, by simp at e3; omega, by simp [sumT] at e4; omega⟩
theorem tk_of {T : List Tok} {p : Nat} (h8 : ∀ t ∈ T, t.kind ≠ 8) (hl : T.length < 50000) (hs : sumT T ≤ 100000) : Tk (T ++ [⟨8, [], p⟩]) := by
  refine ⟨by simp, by simp; omega, fun j t ht => ?_, by rw [sumT_append]; exact hs⟩
  by_cases hj : j < T.length
  · rw [List.getElem?_append_left hj] at ht
    have := h8 t (List.mem_of_getElem? ht)
    rw [List.length_append, List.length_singleton]
    exact ⟨fun e => absurd e (by omega), fun e => absurd e this⟩
  · have h1 := (List.getElem?_eq_some_iff.1 ht).1
    rw [List.length_append, List.length_singleton] at h1
    obtain rfl : j = T.length := by omega
    rw [List.getElem?_append_right (Nat.le_refl _), Nat.sub_self] at ht
    obtain rfl : (⟨8, [], p⟩ : Tok) = t := by simpa using ht
    simp
theorem scan_tk {l : List UInt8} (hl : l.length ≤ 10000) {toks : List Tok} (h : scanF l = .ok toks) : Tk toks := by
  obtain ⟨T, p, rfl, h8, h1, h2⟩ := scan_ends h
  exact tk_of h8 (by omega) (by omega)
end Bh
end Go.Proofs.YtnfnlcahlgnahaaGreatDoor
