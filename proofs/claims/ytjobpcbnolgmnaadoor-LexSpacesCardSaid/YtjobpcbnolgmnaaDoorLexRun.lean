/- Runs of the plain scanner: more fuel changes nothing; one run behind another. No conditions. -/
import Derived.Test.YtjobpcbnolgmnaaDoorLexDig
namespace Go.Proofs.YtjobpcbnolgmnaaDoor
open Lx

theorem contF_fuel {n p : Nat} {st : St} {l : List UInt8} (ih : ∀ r, r.length < l.length → goF n false (p + 1) st r = goF (n + 1) false (p + 1) st r) : contF n p st l = contF (n + 1) p st l := by
  cases l with
  | nil => rfl
  | cons b r => exact ih r (by simp)
theorem fuel_more : ∀ (n : Nat) (mid : Bool) (p : Nat) (st : St) (l : List UInt8), st.op.length ≤ 60 → 2 * l.length + (if mid then 1 else 2) ≤ n → goF n mid p st l = goF (n + 1) mid p st l := by
  intro n
  induction n with
  | zero => intro mid p st l _ h; cases mid <;> simp at h
  | succ n ih =>
    intro mid p st l ho h
    cases mid with
    | true =>
      simp only [if_true] at h
      rcases Bool.eq_false_or_eq_true (ends l) with e | e
      · rw [goF_mid_end n p st l e, goF_mid_end (n + 1) p st l e]
        refine contF_fuel fun r hr => ih false _ _ _ ?_ (by simp; omega)
        unfold nlF; split <;> exact ho
      · rw [goF_mid_tok n p st l e, goF_mid_tok (n + 1) p st l e]
        cases ht : tokF st.op l with
        | bad j => rfl
        | ok k t m op =>
          obtain ⟨h1, h2, h3⟩ := tokF_ok ht ho
          exact ih true _ _ _ h1 (by simp; omega)
    | false =>
      simp only [Bool.false_eq_true, if_false] at h
      rcases Bool.eq_false_or_eq_true (ends (l.drop (gapF l))) with e | e
      · rw [goF_line_end n p st l e, goF_line_end (n + 1) p st l e]
        exact contF_fuel fun r hr => ih false _ _ _ ho (by simp at hr ⊢; omega)
      · by_cases hop : st.op = []
        · rw [goF_line_ind n p st l e hop, goF_line_ind (n + 1) p st l e hop]
          cases indF (gapF l) (p + gapF l) st.toks st.blocks with
          | none => rfl
          | some x => exact ih true _ _ _ ho (by simp; omega)
        · rw [goF_line_open n p st l e hop, goF_line_open (n + 1) p st l e hop]
          exact ih true _ _ _ ho (by simp; omega)
theorem fuel_any (k n : Nat) (mid : Bool) (p : Nat) (st : St) (l : List UInt8) (ho : st.op.length ≤ 60) (h : 2 * l.length + (if mid then 1 else 2) ≤ n) : goF (n + k) mid p st l = goF n mid p st l := by
  induction k with
  | zero => rfl
  | succ k ih => rw [← ih]; exact (fuel_more (n + k) mid p st l ho (by omega)).symm
/-- A place of the plain scanner. -/
structure Cf where
  mid : Bool
  p : Nat
  st : St
  l : List UInt8
def at_ (n : Nat) (c : Cf) : RR := goF n c.mid c.p c.st c.l
/-- The scanner comes from one place to another. -/
def Run (c c' : Cf) : Prop := ∃ k, ∀ n, at_ (n + k) c = at_ n c'
/-- The scanner comes to its end. -/
def Out (c : Cf) (R : RR) : Prop := ∃ k, ∀ n, at_ (n + k) c = R
theorem Run.refl (c : Cf) : Run c c := ⟨0, fun _ => rfl⟩
theorem Run.trans {a b c : Cf} (h : Run a b) (h' : Run b c) : Run a c := by
  obtain ⟨k, hk⟩ := h
  obtain ⟨m, hm⟩ := h'
  exact ⟨m + k, fun n => by rw [← Nat.add_assoc, hk, hm]⟩
theorem Run.out {a b : Cf} {R : RR} (h : Run a b) (h' : Out b R) : Out a R := by
  obtain ⟨k, hk⟩ := h
  obtain ⟨m, hm⟩ := h'
  exact ⟨m + k, fun n => by rw [← Nat.add_assoc, hk, hm]⟩
theorem Run.one {a b : Cf} (h : ∀ n, at_ (n + 1) a = at_ n b) : Run a b := ⟨1, h⟩
theorem Out.one {a : Cf} {R : RR} (h : ∀ n, at_ (n + 1) a = R) : Out a R := ⟨1, h⟩
def begin_ (l : List UInt8) : Cf := ⟨false, 0, ⟨[], [0], []⟩, l⟩
theorem scan_out {l : List UInt8} {R : RR} (h : Out (begin_ l) R) : scanF l = R := by
  obtain ⟨k, hk⟩ := h
  have h1 := hk (2 * l.length + 2)
  have h2 := fuel_any k (2 * l.length + 2) false 0 ⟨[], [0], []⟩ l (by simp) (by simp)
  exact h2.symm.trans h1
/-- What comes out is one thing. -/
theorem Out.same {a : Cf} {R R' : RR} (h : Out a R) (h' : Out a R') : R = R' := by
  obtain ⟨k, hk⟩ := h
  obtain ⟨m, hm⟩ := h'
  rw [← hk m, ← hm k, Nat.add_comm]
theorem Out.exists (c : Cf) (ho : c.st.op.length ≤ 60) : ∃ R, Out c R := ⟨_, 2 * c.l.length + 2, fun n => by
  have h : at_ (2 * c.l.length + 2 + n) c = at_ (2 * c.l.length + 2) c := fuel_any n (2 * c.l.length + 2) c.mid c.p c.st c.l ho (by split <;> omega)
  rw [Nat.add_comm]; exact h⟩
theorem Out.scan (l : List UInt8) : Out (begin_ l) (scanF l) := by
  obtain ⟨R, h⟩ := Out.exists (begin_ l) (by simp [begin_])
  rw [scan_out h]; exact h
/-- Behind a run the same comes out. -/
theorem Run.outs {a b : Cf} {R : RR} (h : Run a b) (h' : Out a R) : Out b R := by
  obtain ⟨k, hk⟩ := h
  obtain ⟨m, hm⟩ := h'
  exact ⟨m, fun n => by rw [← hk (n + m), show n + m + k = (n + k) + m by omega]; exact hm _⟩
theorem run_tok {p k m g : Nat} {ts : List Tok} {bl : List Nat} {op op' l r r' tx : List UInt8} (he : ends l = false) (ht : tokF op l = .ok k tx m op') (hr : l.drop m = r) (hg : gapF r = g) (hr' : r.drop g = r') :
    Run ⟨true, p, ⟨ts, bl, op⟩, l⟩ ⟨true, p + m + g, ⟨ts ++ [⟨k, tx, p⟩], bl, op'⟩, r'⟩ := .one fun _ => mid_tok he ht hr hg hr'
theorem run_end {p : Nat} {st : St} {r : List UInt8} : Run ⟨true, p, st, 10 :: r⟩ ⟨false, p + 1, nlF st p, r⟩ := .one fun n => goF_mid_end n p st (10 :: r) rfl
theorem run_blank {p g : Nat} {st : St} {l r : List UInt8} (hg : gapF l = g) (hr : l.drop g = 10 :: r) : Run ⟨false, p, st, l⟩ ⟨false, p + g + 1, st, r⟩ := .one fun n => by
  show goF (n + 1) false p st l = _
  rw [goF_line_end n p st l (by rw [hg, hr]; rfl), hg, hr]; rfl
theorem run_open {p g : Nat} {st : St} {l r : List UInt8} (hg : gapF l = g) (hr : l.drop g = r) (he : ends r = false) (ho : st.op ≠ []) : Run ⟨false, p, st, l⟩ ⟨true, p + g, st, r⟩ := .one fun n => by
  show goF (n + 1) false p st l = _
  rw [goF_line_open n p st l (by rw [hg, hr]; exact he) ho, hg, hr]; rfl
theorem run_ind {p g : Nat} {ts ts' : List Tok} {bl bl' : List Nat} {l r : List UInt8} (hg : gapF l = g) (hr : l.drop g = r) (he : ends r = false) (hi : indF g (p + g) ts bl = some (ts', bl')) :
    Run ⟨false, p, ⟨ts, bl, []⟩, l⟩ ⟨true, p + g, ⟨ts', bl', []⟩, r⟩ := .one fun n => by
  show goF (n + 1) false p ⟨ts, bl, []⟩ l = _
  rw [goF_line_ind n p _ l (by rw [hg, hr]; exact he) rfl, hg, hr, hi]; rfl
theorem out_mid {p : Nat} {st : St} : Out ⟨true, p, st, []⟩ (endF p (nlF st p)) := .one fun n => goF_mid_end n p st [] rfl
theorem out_line {p g : Nat} {st : St} {l : List UInt8} (hg : gapF l = g) (hr : l.drop g = []) : Out ⟨false, p, st, l⟩ (endF (p + g) st) := .one fun n => by
  show goF (n + 1) false p st l = _
  rw [goF_line_end n p st l (by rw [hg, hr]; rfl), hg, hr]; rfl
theorem out_bad {p j : Nat} {st : St} {l : List UInt8} (he : ends l = false) (ht : tokF st.op l = .bad j) : Out ⟨true, p, st, l⟩ (.bad (p + j)) := .one fun n => by
  show goF (n + 1) true p st l = _
  rw [goF_mid_tok n p st l he, ht]
end Go.Proofs.YtjobpcbnolgmnaaDoor
