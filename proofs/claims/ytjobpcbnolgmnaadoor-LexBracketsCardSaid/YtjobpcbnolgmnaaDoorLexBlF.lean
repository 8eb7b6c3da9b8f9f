/- Lines that go in and out, and what the plain scanner makes of them. No conditions. -/
import Derived.Test.YtjobpcbnolgmnaaDoorLexRun
namespace Go.Proofs.YtjobpcbnolgmnaaDoor
open Lx
namespace Blk

/-- The spaces of what is open (the innermost first), behind a line. -/
def opB (first : Bool) (n : Nat) (o : List Nat) : List Nat :=
  if first then [0] else if 4 ≤ n then (o.headD 0 + (n - 3)) :: o else o.drop (min n (o.length - 1))
def goB : Bool → List Nat → List Nat → List (List Nat)
  | _, _, [] => []
  | f, o, n :: ns => opB f n o :: goB false (opB f n o) ns
def lineB (o : List Nat) : List UInt8 := List.replicate (o.headD 0) 32 ++ [120, 10]
def dp (o : List Nat) : Nat := o.length - 1
/-- What the law reckons over tokens: how deep it is, and which line. -/
def chk (D : List Nat) : List Tok → Int → Nat → Option (Int × Nat)
  | [], now, line => some (now, line)
  | t :: ts, now, line =>
    if t.kind = 6 then chk D ts (now + 1) line
    else if t.kind = 7 then chk D ts (now - 1) line
    else if t.kind = 1 then (if line < D.length ∧ ((D.getD line 0 : Nat) : Int) = now then chk D ts now (line + 1) else none)
    else chk D ts now line
theorem chk_nil (D : List Nat) (now : Int) (line : Nat) : chk D [] now line = some (now, line) := rfl
theorem chk_cons (D : List Nat) (t : Tok) (ts : List Tok) (now : Int) (line : Nat) : chk D (t :: ts) now line = if t.kind = 6 then chk D ts (now + 1) line
    else if t.kind = 7 then chk D ts (now - 1) line
    else if t.kind = 1 then (if line < D.length ∧ ((D.getD line 0 : Nat) : Int) = now then chk D ts now (line + 1) else none)
    else chk D ts now line := rfl
theorem chk_six (D : List Nat) (x : List UInt8) (p : Nat) (ts : List Tok) (now : Int) (line : Nat) : chk D (⟨6, x, p⟩ :: ts) now line = chk D ts (now + 1) line := rfl
theorem chk_sev (D : List Nat) (x : List UInt8) (p : Nat) (ts : List Tok) (now : Int) (line : Nat) : chk D (⟨7, x, p⟩ :: ts) now line = chk D ts (now - 1) line := rfl
theorem chk_five (D : List Nat) (x : List UInt8) (p : Nat) (ts : List Tok) (now : Int) (line : Nat) : chk D (⟨5, x, p⟩ :: ts) now line = chk D ts now line := rfl
theorem chk_eight (D : List Nat) (x : List UInt8) (p : Nat) (ts : List Tok) (now : Int) (line : Nat) : chk D (⟨8, x, p⟩ :: ts) now line = chk D ts now line := rfl
theorem chk_name (D : List Nat) (x : List UInt8) (p : Nat) (ts : List Tok) (now : Int) (line : Nat) (h : line < D.length ∧ ((D.getD line 0 : Nat) : Int) = now) : chk D (⟨1, x, p⟩ :: ts) now line = chk D ts now (line + 1) := by
  rw [chk_cons, if_neg (show ¬ (1 : Nat) = 6 by decide), if_neg (show ¬ (1 : Nat) = 7 by decide), if_pos rfl, if_pos h]
theorem chk_app (D : List Nat) (b : List Tok) : ∀ (a : List Tok) (now : Int) (line : Nat) {n' : Int} {l' : Nat}, chk D a now line = some (n', l') → chk D (a ++ b) now line = chk D b n' l'
  | [], now, line, n', l', h => by cases h; rfl
  | t :: a, now, line, n', l', h => by
    rw [List.cons_append, chk_cons]
    rw [chk_cons] at h
    split
    · next e => rw [if_pos e] at h; exact chk_app D b a _ _ h
    · next e =>
      rw [if_neg e] at h
      split
      · next e2 => rw [if_pos e2] at h; exact chk_app D b a _ _ h
      · next e2 =>
        rw [if_neg e2] at h
        split
        · next e3 =>
          rw [if_pos e3] at h
          split
          · next e4 => rw [if_pos e4] at h; exact chk_app D b a _ _ h
          · next e4 => rw [if_neg e4] at h; cases h
        · next e3 => rw [if_neg e3] at h; exact chk_app D b a _ _ h
theorem chk_deds (D : List Nat) (p : Nat) : ∀ (k : Nat) (now : Int) (line : Nat), chk D (deds k p) now line = some (now - k, line)
  | 0, now, line => by simp [deds, chk]
  | k + 1, now, line => by
    rw [deds_succ]
    rw [chk_sev, chk_deds D p k]
    congr 2
    omega
/-- Strictly fewer outwards, down to none. -/
structure Dec (o : List Nat) : Prop where
  dec : o.Pairwise (fun a b => b < a)
  last : o.getLast? = some 0
theorem Dec.pos {o : List Nat} (h : Dec o) : 0 < o.length := by
  cases o with
  | nil => have := h.last; simp at this
  | cons a o => simp
theorem dec_cut : ∀ (j : Nat) (o : List Nat) (d : Nat) (r : List Nat), o.Pairwise (fun a b => b < a) → o.drop j = d :: r → o.takeWhile (fun x => decide (d < x)) = o.take j ∧ o.dropWhile (fun x => decide (d < x)) = d :: r
  | 0, o, d, r, _, e => by
    rw [List.drop_zero] at e
    subst e
    simp
  | j + 1, [], d, r, _, e => by simp at e
  | j + 1, a :: o, d, r, h, e => by
    rw [List.drop_succ_cons] at e
    have hd : d ∈ o := by
      have : d ∈ o.drop j := by rw [e]; simp
      exact List.mem_of_mem_drop this
    have ha : d < a := (List.pairwise_cons.1 h).1 d hd
    obtain ⟨h1, h2⟩ := dec_cut j o d r (List.pairwise_cons.1 h).2 e
    rw [List.takeWhile_cons, List.dropWhile_cons, if_pos (by simpa using ha), if_pos (by simpa using ha), h1, h2]
    exact ⟨rfl, rfl⟩
theorem drop_last {o : List Nat} {j : Nat} (h : o.getLast? = some 0) (hj : j < o.length) : (o.drop j).getLast? = some 0 := by
  rw [List.getLast?_drop, if_neg (by omega), h]
theorem Dec.drop {o : List Nat} {j : Nat} (h : Dec o) (hj : j < o.length) : Dec (o.drop j) := ⟨h.dec.sublist (List.drop_sublist j o), drop_last h.last hj⟩
theorem Dec.push {o : List Nat} {x : Nat} (h : Dec o) (hx : 0 < x) : Dec ((o.headD 0 + x) :: o) := by
  cases o with
  | nil => exact absurd h.pos (by simp)
  | cons a o =>
    refine ⟨List.pairwise_cons.2 ⟨fun b hb => ?_, h.dec⟩, ?_⟩
    · simp only [List.headD_cons]
      rcases List.mem_cons.1 hb with rfl | hb
      · omega
      · have := (List.pairwise_cons.1 h.dec).1 b hb; omega
    · have := h.last; simpa using this
theorem dec_one : Dec [0] := ⟨by simp, rfl⟩
theorem Dec.op {o : List Nat} (h : Dec o) (f : Bool) (n : Nat) : Dec (opB f n o) := by
  unfold opB
  split
  · exact dec_one
  · split
    · exact h.push (by omega)
    · exact h.drop (by have := h.pos; omega)
/-- The tokens ahead of a line's first. -/
def insB (f : Bool) (n : Nat) (o : List Nat) (pos : Nat) : List Tok := if f then [] else if 4 ≤ n then [⟨6, [], pos⟩] else deds (min n (o.length - 1)) pos
theorem ind_op {o : List Nat} (h : Dec o) (f : Bool) (hf : f = true → o = [0]) (n pos : Nat) (T : List Tok) (hl : o.length ≤ 60) : indF ((opB f n o).headD 0) pos T o = some (T ++ insB f n o pos, opB f n o) := by
  unfold opB insB
  cases f with
  | true =>
    rw [hf rfl]
    unfold indF
    simp
  | false =>
    simp only [Bool.false_eq_true, if_false]
    by_cases h4 : 4 ≤ n
    · rw [if_pos h4, if_pos h4, List.headD_cons]
      unfold indF
      rw [if_pos (by omega), if_neg (by omega)]
    · rw [if_neg h4, if_neg h4]
      have hj : min n (o.length - 1) < o.length := by have := h.pos; omega
      generalize min n (o.length - 1) = j at hj
      obtain ⟨d, r, e⟩ : ∃ d r, o.drop j = d :: r := by
        rw [List.drop_eq_getElem_cons hj]; exact ⟨_, _, rfl⟩
      obtain ⟨h1, h2⟩ := dec_cut j o d r h.dec e
      rw [e, List.headD_cons]
      have hng : ¬ o.headD 0 < d := by
        cases o with
        | nil => simp at hj
        | cons a o =>
          rw [List.headD_cons]
          cases j with
          | zero => rw [List.drop_zero] at e; cases e; omega
          | succ j =>
            rw [List.drop_succ_cons] at e
            have : d ∈ o := List.mem_of_mem_drop (by rw [e]; simp)
            have := (List.pairwise_cons.1 h.dec).1 d this; omega
      unfold indF
      rw [if_neg hng, h1, h2, if_pos (by simp)]
      rw [List.length_take, Nat.min_eq_left (by omega)]
      rfl
theorem op_len {o : List Nat} (h : Dec o) (f : Bool) (n : Nat) : (opB f n o).length ≤ o.length + 1 ∧ 1 ≤ (opB f n o).length := by
  have := (h.op f n).pos
  have := h.pos
  refine ⟨?_, by omega⟩
  unfold opB
  split
  · simp
  · split
    · simp
    · simp; omega
theorem chk_ins {o : List Nat} (h : Dec o) (f : Bool) (hf : f = true → o = [0]) (n pos : Nat) (D : List Nat) (line : Nat) : chk D (insB f n o pos) ((o.length - 1 : Nat) : Int) line = some ((((opB f n o).length - 1 : Nat) : Int), line) := by
  have hp := h.pos
  unfold insB opB
  cases f with
  | true => rw [hf rfl]; rfl
  | false =>
    simp only [Bool.false_eq_true, if_false]
    by_cases h4 : 4 ≤ n
    · rw [if_pos h4, if_pos h4]
      rw [chk_six, chk_nil]
      simp only [List.length_cons]
      congr 2
      omega
    · rw [if_neg h4, if_neg h4, chk_deds, List.length_drop]
      congr 2
      omega
theorem gapF_sp (d : Nat) (b : UInt8) (r : List UInt8) (h1 : b ≠ 32) (h2 : b ≠ 35) : gapF (List.replicate d 32 ++ b :: r) = d := by
  have hs : lenF sp (List.replicate d 32 ++ b :: r) = d := by
    have := lenF_all sp (List.replicate d 32) (b :: r) (by intro x hx; rw [List.eq_of_mem_replicate hx]; rfl) (by unfold lenF; rw [if_neg (by unfold sp; simpa using h1)])
    rwa [List.length_replicate] at this
  unfold gapF
  rw [hs, List.drop_left' (by simp)]
  simp only [beq_eq_false_iff_ne.2 h2, Bool.false_eq_true, if_false]
  split <;> rfl
theorem run_line {o : List Nat} (h : Dec o) (f : Bool) (hf : f = true → o = [0]) (n p : Nat) (T : List Tok) (rest : List UInt8) (hl : o.length ≤ 60) :
    Run ⟨false, p, ⟨T, o, []⟩, lineB (opB f n o) ++ rest⟩ ⟨false, p + (opB f n o).headD 0 + 2, ⟨T ++ insB f n o (p + (opB f n o).headD 0) ++ [⟨1, [120], p + (opB f n o).headD 0⟩, ⟨5, [], p + (opB f n o).headD 0 + 1⟩], opB f n o, []⟩, rest⟩ := by
  have e : lineB (opB f n o) ++ rest = List.replicate ((opB f n o).headD 0) 32 ++ 120 :: 10 :: rest := by unfold lineB; simp
  rw [e]
  have hi := ind_op h f hf n (p + (opB f n o).headD 0) T hl
  generalize (opB f n o).headD 0 = d at hi
  refine (run_ind (gapF_sp d 120 _ (by decide) (by decide)) (List.drop_left' (by simp)) rfl hi).trans ?_
  refine (run_tok (k := 1) (m := 1) (g := 0) (tx := [120]) (op' := []) (r := 10 :: rest) (r' := 10 :: rest) rfl (by rfl) rfl (gapF_zero _ _ (by decide) (by decide)) rfl).trans ?_
  refine run_end.trans ?_
  have : nlF ⟨T ++ insB f n o (p + d) ++ [⟨1, [120], p + d⟩], opB f n o, []⟩ (p + d + 1 + 0) = ⟨T ++ insB f n o (p + d) ++ [⟨1, [120], p + d⟩, ⟨5, [], p + d + 1⟩], opB f n o, []⟩ := by
    unfold nlF
    rw [if_pos rfl]
    simp
  rw [this]
  exact Run.refl _
theorem run_lines (D : List Nat) : ∀ (ns : List Nat) (f : Bool) (o : List Nat) (p : Nat) (T : List Tok) (i : Nat), Dec o → (f = true → o = [0]) → o.length + ns.length ≤ 61 → chk D T 0 0 = some (((o.length - 1 : Nat) : Int), i) → D.drop i = (goB f o ns).map dp →
    ∃ toks, Out ⟨false, p, ⟨T, o, []⟩, (goB f o ns).flatMap lineB⟩ (.ok toks) ∧ chk D toks 0 0 = some (0, i + ns.length) ∧ toks.length ≤ T.length + o.length + 4 * ns.length
  | [], f, o, p, T, i, h, hf, hl, hc, hD => by
    have ho := out_line (p := p) (g := 0) (st := ⟨T, o, []⟩) (l := []) rfl rfl
    unfold endF at ho
    rw [if_pos rfl] at ho
    refine ⟨_, ho, ?_⟩
    obtain ⟨d, r, e⟩ : ∃ d r, o.drop (o.length - 1) = d :: r := by
      have := h.pos
      rw [List.drop_eq_getElem_cons (by omega)]; exact ⟨_, _, rfl⟩
    have hlast := drop_last h.last (j := o.length - 1) (by have := h.pos; omega)
    have hr : r = [] := by
      have h1 : (o.drop (o.length - 1)).length = 1 := by have := h.pos; rw [List.length_drop]; omega
      rw [e, List.length_cons] at h1
      exact List.eq_nil_of_length_eq_zero (by omega)
    subst hr
    rw [e] at hlast
    obtain rfl : d = 0 := by simpa using hlast
    obtain ⟨h1, _⟩ := dec_cut _ o 0 [] h.dec e
    have h2 : (o.takeWhile (fun x => decide (0 < x))).length = o.length - 1 := by rw [h1, List.length_take]; omega
    rw [h2, List.append_assoc, chk_app D _ T 0 0 hc, chk_app D _ (deds _ _) _ _ (chk_deds D _ _ _ _)]
    rw [chk_eight, chk_nil]
    refine ⟨by simp, ?_⟩
    have := h.pos
    simp [deds]
    omega
  | n :: ns, f, o, p, T, i, h, hf, hl, hc, hD => by
    simp only [List.length_cons] at hl
    have hlen := op_len h f n
    have hi : i < D.length := by
      rcases Nat.lt_or_ge i D.length with hlt | hge
      · exact hlt
      · rw [List.drop_eq_nil_of_le hge] at hD; cases hD
    rw [List.drop_eq_getElem_cons hi] at hD
    unfold goB at hD ⊢
    rw [List.map_cons] at hD
    injection hD with hd1 hd2
    have hc2 : chk D (T ++ insB f n o (p + (opB f n o).headD 0) ++ [⟨1, [120], p + (opB f n o).headD 0⟩, ⟨5, [], p + (opB f n o).headD 0 + 1⟩]) 0 0 = some ((((opB f n o).length - 1 : Nat) : Int), i + 1) := by
      rw [List.append_assoc, chk_app D _ T 0 0 hc, chk_app D _ (insB f n o _) _ _ (chk_ins h f hf n _ D i)]
      rw [chk_name _ _ _ _ _ _ ⟨hi, by rw [List.getD_eq_getElem?_getD, List.getElem?_eq_getElem hi, Option.getD_some, hd1]; rfl⟩, chk_five, chk_nil]
    have hin : (insB f n o (p + (opB f n o).headD 0)).length + (opB f n o).length ≤ o.length + 2 := by
      have hp := h.pos
      unfold insB opB
      split
      · simp <;> omega
      · split
        · simp <;> omega
        · simp [deds] <;> omega
    obtain ⟨toks, h1, h2, h3⟩ := run_lines D ns false (opB f n o) (p + (opB f n o).headD 0 + 2) _ (i + 1) (h.op f n) (by intro h; cases h) (by omega) hc2 hd2
    refine ⟨toks, ?_, by rw [h2, List.length_cons]; congr 2; omega, by simp only [List.length_append, List.length_cons, List.length_nil] at h3 ⊢; omega⟩
    rw [List.flatMap_cons]
    exact (run_line h f hf n p T _ (by omega)).out h1
theorem scan_lines (ns : List Nat) (hn : ns.length ≤ 40) : ∃ toks, scanF ((goB true [0] ns).flatMap lineB) = .ok toks ∧ chk ((goB true [0] ns).map dp) toks 0 0 = some (0, ns.length) ∧ toks.length ≤ 161 := by
  obtain ⟨toks, h1, h2, h3⟩ := run_lines ((goB true [0] ns).map dp) ns true [0] 0 [] 0 dec_one (fun _ => rfl) (by simp; omega) rfl rfl
  exact ⟨toks, scan_out h1, by rw [h2, Nat.zero_add], by simp at h3; omega⟩
end Blk
end Go.Proofs.YtjobpcbnolgmnaaDoor
