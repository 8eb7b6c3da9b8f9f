/- Parts of the proof, together. What line makes of a scanner. Conditions: its blocks lie from block B on; short texts; the words and the error of api lie in their variables. -/
import Derived.Test.YtaafhldcdkbnkaaGreatDoorQpbb
namespace Go.Proofs.YtaafhldcdkbnkaaGreatDoor
open Go.RowKit
open Lx

/-- What the scanner's calls want of the world. -/
structure Env (A : Nat → Addr) (W : World) (B : Nat) : Prop where
  words : WordsAt W
  err : W.cell? ⟨4, 0, none⟩ = some (E A 0)
  wB : 17 < B
  eB : 4 < B
theorem Env.below {A : Nat → Addr} {W W' : World} {B : Nat} (h : Env A W B) (hb : Below B W W') : Env A W' B :=
  ⟨fun j v hv => (hb.cell (p := ⟨17, 0 + j, none⟩) h.wB).trans (h.words j v hv), (hb.cell (p := ⟨4, 0, none⟩) h.eB).trans h.err, h.wB, h.eB⟩
/-- The state is one of a scanner at place p, less than c beyond four a byte. -/
structure Good (c p : Nat) (st : St) : Prop where
  op : st.op.length ≤ 60
  bl : st.blocks.length ≤ 61
  last : st.blocks.getLast? = some 0
  cnt : st.toks.length + st.blocks.length ≤ 4 * p + c
theorem brkF_len {b : UInt8} {op op' : List UInt8} (h : brkF b op = some op') (hl : op.length ≤ 60) : op'.length ≤ 60 := by
  unfold brkF at h
  split at h
  · split at h
    · cases h; simp; omega
    · cases h
  · split at h
    · split at h
      · cases h; simp; omega
      · cases h
    · split at h
      · split at h
        · cases h; simp; omega
        · cases h
      · split at h
        · cases op with
          | nil => cases h
          | cons t r =>
            simp only at h
            split at h
            · cases h; simp at hl; omega
            · cases h
        · cases h; exact hl
theorem lenF_pos {p : UInt8 → Bool} {b : UInt8} {l : List UInt8} (h : p b = true) : 1 ≤ lenF p (b :: l) := by
  unfold lenF; rw [if_pos h]; omega
theorem tokF_ok {op : List UInt8} {l : List UInt8} {k n : Nat} {t : List UInt8} {op' : List UInt8} (h : tokF op l = .ok k t n op') (hl : op.length ≤ 60) : op'.length ≤ 60 ∧ 1 ≤ n ∧ n ≤ l.length := by
  cases l with
  | nil => cases h
  | cons b l =>
    rcases Bool.eq_false_or_eq_true (lt b) with e1 | e1
    · rw [tokF_name op b l e1] at h
      injection h with _ _ h3 h4
      subst h3 h4
      exact ⟨hl, lenF_pos (by unfold nb; rw [e1]; rfl), lenF_le _ _⟩
    · rcases Bool.eq_false_or_eq_true (dg b) with e2 | e2
      · rw [tokF_num op b l e1 e2] at h
        split at h
        · cases h
        · injection h with _ _ h3 h4
          subst h3 h4
          exact ⟨hl, lenF_pos e2, lenF_le _ _⟩
      · by_cases hq : b = 34 ∨ b = 39
        · rw [tokF_quo op b l e1 e2 hq] at h
          unfold quoF at h
          cases hc : closedF b false l with
          | none => rw [hc] at h; cases h
          | some m =>
            rw [hc] at h
            have hm := closedF_lt _ _ _ _ hc
            simp only at h
            rcases hu : unqF m (l.take m) with ⟨said, o⟩
            rw [hu] at h
            cases o with
            | none =>
              injection h with _ _ h3 h4
              subst h3 h4
              exact ⟨hl, by omega, by simp; omega⟩
            | some j => cases h
        · rw [tokF_sgn op b l e1 e2 hq] at h
          unfold sgnF at h
          by_cases h0 : signF (b :: l) = 0
          · rw [if_pos h0] at h; cases h
          · rw [if_neg h0, List.headD_cons] at h
            cases hb : brkF b op with
            | none => rw [hb] at h; cases h
            | some o2 =>
              rw [hb] at h
              injection h with _ _ h3 h4
              subst h3 h4
              exact ⟨brkF_len hb hl, by omega, signF_le _⟩
def endF (p : Nat) (st : St) : RR := if st.op = [] then .ok (st.toks ++ deds (st.blocks.takeWhile (0 < ·)).length p ++ [⟨8, [], p⟩]) else .bad p
def contF (n p : Nat) (st : St) : List UInt8 → RR
  | [] => endF p st
  | _ :: r => goF n false (p + 1) st r
def nlF (st : St) (p : Nat) : St := if st.op = [] then { st with toks := st.toks ++ [⟨5, [], p⟩] } else st
theorem goF_mid (n p : Nat) (st : St) (l : List UInt8) : goF (n + 1) true p st l = (if ends l then
        (match l with
        | [] => if st.op = [] then .ok ((st.toks ++ [⟨5, [], p⟩]) ++ List.replicate (st.blocks.takeWhile (0 < ·)).length ⟨7, [], p⟩ ++ [⟨8, [], p⟩]) else .bad p
        | _ :: r => goF n false (p + 1) (if st.op = [] then { st with toks := st.toks ++ [⟨5, [], p⟩] } else st) r)
      else match tokF st.op l with
        | .bad j => .bad (p + j)
        | .ok k t m op => goF n true (p + m + gapF (l.drop m)) { st with toks := st.toks ++ [⟨k, t, p⟩], op := op } ((l.drop m).drop (gapF (l.drop m)))) := rfl
theorem goF_new (n p : Nat) (st : St) (l : List UInt8) : goF (n + 1) false p st l = (if ends (l.drop (gapF l)) then
        (match l.drop (gapF l) with
        | [] => if st.op = [] then .ok (st.toks ++ List.replicate (st.blocks.takeWhile (0 < ·)).length ⟨7, [], p + gapF l⟩ ++ [⟨8, [], p + gapF l⟩]) else .bad (p + gapF l)
        | _ :: r => goF n false (p + gapF l + 1) st r)
      else if st.op = [] then
        (match indF (gapF l) (p + gapF l) st.toks st.blocks with
        | none => .bad (p + gapF l)
        | some (toks, bl) => goF n true (p + gapF l) { st with toks := toks, blocks := bl } (l.drop (gapF l)))
      else goF n true (p + gapF l) st (l.drop (gapF l))) := rfl
theorem goF_mid_end (n p : Nat) (st : St) (l : List UInt8) (h : ends l = true) : goF (n + 1) true p st l = contF n p (nlF st p) l := by
  rw [goF_mid, if_pos h]
  cases l with
  | nil =>
    show (if st.op = [] then _ else _) = endF p (nlF st p)
    unfold endF nlF
    by_cases e : st.op = []
    · rw [if_pos e, if_pos e, if_pos e]; rfl
    · rw [if_neg e, if_neg e, if_neg e]
  | cons b r => rfl
theorem goF_mid_tok (n p : Nat) (st : St) (l : List UInt8) (h : ends l = false) : goF (n + 1) true p st l = match tokF st.op l with
    | .bad j => .bad (p + j)
    | .ok k t m op => goF n true (p + m + gapF (l.drop m)) { st with toks := st.toks ++ [⟨k, t, p⟩], op := op } ((l.drop m).drop (gapF (l.drop m))) := by
  rw [goF_mid, if_neg (by rw [h]; simp)]
theorem goF_line_end (n p : Nat) (st : St) (l : List UInt8) (h : ends (l.drop (gapF l)) = true) : goF (n + 1) false p st l = contF n (p + gapF l) st (l.drop (gapF l)) := by
  rw [goF_new, if_pos h]
  cases l.drop (gapF l) with
  | nil => rfl
  | cons b r => rfl
theorem goF_line_open (n p : Nat) (st : St) (l : List UInt8) (h : ends (l.drop (gapF l)) = false) (ho : st.op ≠ []) : goF (n + 1) false p st l = goF n true (p + gapF l) st (l.drop (gapF l)) := by
  rw [goF_new, if_neg (by rw [h]; simp), if_neg ho]
theorem goF_line_ind (n p : Nat) (st : St) (l : List UInt8) (h : ends (l.drop (gapF l)) = false) (ho : st.op = []) : goF (n + 1) false p st l = match indF (gapF l) (p + gapF l) st.toks st.blocks with
    | none => .bad (p + gapF l)
    | some (toks, bl) => goF n true (p + gapF l) { st with toks := toks, blocks := bl } (l.drop (gapF l)) := by
  rw [goF_new, if_neg (by rw [h]; simp), if_pos ho]
theorem gapF_le (l : List UInt8) : gapF l ≤ l.length := by
  unfold gapF
  have h1 := lenF_le sp l
  split
  · exact h1
  · next b r hb =>
    have h2 := lenF_le tb (b :: r)
    rw [← hb, List.length_drop] at h2
    split
    · exact h1
    · split
      · rw [← hb] at *; omega
      · exact h1
end Go.Proofs.YtaafhldcdkbnkaaGreatDoor
