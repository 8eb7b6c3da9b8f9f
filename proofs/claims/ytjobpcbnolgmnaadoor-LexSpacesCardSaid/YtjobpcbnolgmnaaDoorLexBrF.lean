/- Brackets that open and close, and what the plain scanner makes of them. No conditions. -/
import Derived.Test.YtjobpcbnolgmnaaDoorLexRun
namespace Go.Proofs.YtjobpcbnolgmnaaDoor
open Lx
namespace Brk

def opn (k : Nat) : UInt8 := if k = 0 then 40 else if k = 1 then 91 else 123
def cls (k : Nat) : UInt8 := if k = 0 then 41 else if k = 1 then 93 else 125
def IsB (b : UInt8) : Prop := b = 40 ∨ b = 91 ∨ b = 123 ∨ b = 41 ∨ b = 93 ∨ b = 125
/-- Nothing to skip stands here. -/
def NoGap (R : List UInt8) : Prop := R = [] ∨ ∃ b r, R = b :: r ∧ b ≠ 32 ∧ b ≠ 35
theorem isB_opn (k : Nat) : IsB (opn k) := by unfold opn IsB; split <;> (try split) <;> simp
theorem isB_cls (k : Nat) : IsB (cls k) := by unfold cls IsB; split <;> (try split) <;> simp
theorem IsB.plain {b : UInt8} (h : IsB b) : b ≠ 32 ∧ b ≠ 35 ∧ b ≠ 10 := by
  rcases h with rfl | rfl | rfl | rfl | rfl | rfl <;> decide
theorem NoGap.gap {R : List UInt8} (h : NoGap R) : gapF R = 0 := by
  rcases h with rfl | ⟨b, r, rfl, h1, h2⟩
  · rfl
  · exact gapF_zero b r h1 h2
theorem noGap_b {b : UInt8} (h : IsB b) (r : List UInt8) : NoGap (b :: r) := .inr ⟨b, r, rfl, h.plain.1, h.plain.2.1⟩
theorem tok_brk (op : List UInt8) {b : UInt8} (h : IsB b) (R : List UInt8) : tokF op (b :: R) = match brkF b op with | none => .bad 0 | some op' => .ok 4 [b] 1 op' := by
  rcases h with rfl | rfl | rfl | rfl | rfl | rfl <;> cases R <;> rfl
theorem brk_opn (k : Nat) (op : List UInt8) (h : op.length < 60) : brkF (opn k) op = some (cls k :: op) := by
  unfold opn cls
  split
  · show (if op.length < 60 then some (41 :: op) else none) = _
    rw [if_pos h]
  · split
    · show (if op.length < 60 then some (93 :: op) else none) = _
      rw [if_pos h]
    · show (if op.length < 60 then some (125 :: op) else none) = _
      rw [if_pos h]
theorem brk_cls (k : Nat) (op : List UInt8) : brkF (cls k) (cls k :: op) = some op := by
  unfold cls
  split
  · rfl
  · split <;> rfl
theorem brk_bad (k t : Nat) (h : cls k ≠ cls t) (op : List UInt8) : brkF (cls k) (cls t :: op) = none := by
  have hb : (cls t == cls k) = false := beq_eq_false_iff_ne.2 (Ne.symm h)
  have : brkF (cls k) (cls t :: op) = if cls t == cls k then some op else none := by
    generalize cls t = x
    unfold cls
    split
    · rfl
    · split <;> rfl
  rw [this, hb]; rfl
/-- The scanner behind a text of brackets: within a line, or at the beginning of one (so many spaces are still to be read). -/
structure Rch (text : List UInt8) (o : List Nat) (T : List Tok) (mid : Bool) (j : Nat) : Prop where
  kinds : ∀ t ∈ T, t.kind = 4
  few : T.length ≤ text.length
  le : j ≤ text.length
  none : mid = true → j = 0
  ok : mid = true ∨ o ≠ [] ∨ (text = [] ∧ j = 0)
  run : ∀ R, Run (begin_ (text ++ R)) ⟨mid, text.length - j, ⟨T, [0], o.map cls⟩, List.replicate j 32 ++ R⟩ ∨ (mid = true ∧ ¬ NoGap R)
theorem rch_none : Rch [] [] [] false 0 := ⟨by simp, Nat.le_refl _, Nat.le_refl _, fun _ => rfl, .inr (.inr ⟨rfl, rfl⟩), fun R => .inl (Run.refl _)⟩
theorem gapF_sp' (d : Nat) (b : UInt8) (r : List UInt8) (h1 : b ≠ 32) (h2 : b ≠ 35) : gapF (List.replicate d 32 ++ b :: r) = d := by
  have hs : lenF sp (List.replicate d 32 ++ b :: r) = d := by
    have := lenF_all sp (List.replicate d 32) (b :: r) (by intro x hx; rw [List.eq_of_mem_replicate hx]; rfl) (by unfold lenF; rw [if_neg (by unfold sp; simpa using h1)])
    rwa [List.length_replicate] at this
  unfold gapF
  rw [hs, List.drop_left' (by simp)]
  simp only [beq_eq_false_iff_ne.2 h2, Bool.false_eq_true, if_false]
  split <;> rfl
theorem gapF_spn (d : Nat) : gapF (List.replicate d 32) = d := by
  have hs : lenF sp (List.replicate d 32) = d := by
    have := lenF_all sp (List.replicate d 32) [] (by intro x hx; rw [List.eq_of_mem_replicate hx]; rfl) rfl
    rwa [List.length_replicate, List.append_nil] at this
  unfold gapF
  rw [hs, List.drop_eq_nil_of_le (by simp)]
theorem Rch.to_mid {text : List UInt8} {o : List Nat} {T : List Tok} {mid : Bool} {j : Nat} (h : Rch text o T mid j) {b : UInt8} (hb : IsB b) (r : List UInt8) :
    Run (begin_ (text ++ b :: r)) ⟨true, text.length, ⟨T, [0], o.map cls⟩, b :: r⟩ := by
  obtain ⟨h32, h35, h10⟩ := hb.plain
  have he : ends (b :: r) = false := beq_eq_false_iff_ne.2 h10
  have hle := h.le
  rcases h.run (b :: r) with hr | ⟨_, hr⟩
  · cases mid with
    | true =>
      have := h.none rfl
      subst this
      exact hr
    | false =>
      refine hr.trans ?_
      have hg := gapF_sp' j b r h32 h35
      have hd : (List.replicate j 32 ++ b :: r).drop j = b :: r := List.drop_left' (by simp)
      have hp : text.length - j + j = text.length := by omega
      by_cases ho : o = []
      · subst ho
        have hj : j = 0 := by
          rcases h.ok with h | h | h
          · cases h
          · exact absurd rfl h
          · exact h.2
        subst hj
        have hi : indF 0 (text.length - 0 + 0) T [0] = some (T, [0]) := by
          unfold indF; simp
        exact run_ind hg hd he hi
      · have := run_open (p := text.length - j) (st := ⟨T, [0], o.map cls⟩) hg hd he (by simpa using ho)
        rwa [hp] at this
  · exact absurd (noGap_b hb r) hr
theorem Rch.tok {text : List UInt8} {o o' : List Nat} {T : List Tok} {mid : Bool} {j : Nat} (h : Rch text o T mid j) {b : UInt8} (hb : IsB b) (hk : brkF b (o.map cls) = some (o'.map cls)) (R : List UInt8) (hR : NoGap R) :
    Run (begin_ ((text ++ [b]) ++ R)) ⟨true, (text ++ [b]).length, ⟨T ++ [⟨4, [b], text.length⟩], [0], o'.map cls⟩, R⟩ := by
  rw [List.append_assoc]
  refine (h.to_mid hb R).trans ?_
  have he : ends (b :: R) = false := beq_eq_false_iff_ne.2 hb.plain.2.2
  have ht := tok_brk (o.map cls) hb R
  rw [hk] at ht
  have := run_tok (p := text.length) (ts := T) (bl := [0]) he ht (r := R) rfl hR.gap (r' := R) rfl
  simpa using this
theorem Rch.one {text : List UInt8} {o o' : List Nat} {T : List Tok} {mid : Bool} {j : Nat} (h : Rch text o T mid j) {b : UInt8} (hb : IsB b) (hk : brkF b (o.map cls) = some (o'.map cls)) :
    Rch (text ++ [b]) o' (T ++ [⟨4, [b], text.length⟩]) true 0 := by
  refine ⟨?_, ?_, Nat.zero_le _, fun _ => rfl, .inl rfl, fun R => ?_⟩
  · intro t ht
    rcases List.mem_append.1 ht with ht | ht
    · exact h.kinds t ht
    · rw [List.mem_singleton.1 ht]
  · have := h.few; simp; omega
  · by_cases hR : NoGap R
    · exact .inl (h.tok hb hk R hR)
    · exact .inr ⟨rfl, hR⟩
/-- A new line within brackets. -/
theorem Rch.line {text : List UInt8} {o : List Nat} {T : List Tok} (h : Rch text o T true 0) (ho : o ≠ []) (j : Nat) : Rch (text ++ 10 :: List.replicate j 32) o T false j := by
  have hf := h.few
  refine ⟨h.kinds, by simp; omega, by simp; omega, (fun e => by cases e), .inr (.inl ho), fun R => .inl ?_⟩
  have hn : NoGap (10 :: (List.replicate j 32 ++ R)) := .inr ⟨10, _, rfl, by decide, by decide⟩
  rcases h.run (10 :: (List.replicate j 32 ++ R)) with hr | ⟨_, hr⟩
  · have e : (text ++ 10 :: List.replicate j 32) ++ R = text ++ 10 :: (List.replicate j 32 ++ R) := by simp
    rw [e]
    refine hr.trans ?_
    have := run_end (p := text.length - 0) (st := ⟨T, [0], o.map cls⟩) (r := List.replicate j 32 ++ R)
    have hnl : nlF ⟨T, [0], o.map cls⟩ (text.length - 0) = ⟨T, [0], o.map cls⟩ := by
      unfold nlF
      rw [if_neg (by simpa using ho)]
    rw [hnl] at this
    have hp : (text ++ 10 :: List.replicate j 32).length - j = text.length - 0 + 1 := by simp; omega
    rw [hp]
    exact this
  · exact absurd hn hr
theorem Rch.push {text : List UInt8} {o : List Nat} {T : List Tok} {mid : Bool} {j : Nat} (h : Rch text o T mid j) (k : Nat) (ho : o.length < 60) : ∃ T', Rch (text ++ [opn k]) (k :: o) T' true 0 :=
  ⟨_, h.one (o' := k :: o) (isB_opn k) (brk_opn k _ (by simpa using ho))⟩
theorem Rch.pop {text : List UInt8} {t : Nat} {o : List Nat} {T : List Tok} {mid : Bool} {j : Nat} (h : Rch text (t :: o) T mid j) : ∃ T', Rch (text ++ [cls t]) o T' true 0 :=
  ⟨_, h.one (o' := o) (isB_cls t) (brk_cls t _)⟩
/-- What a number of the list does to the text and to what is open: k (which bracket), whether it closes, whether a new line follows. -/
def brkStep (k : Nat) (pop nl : Bool) (text : List UInt8) (o : List Nat) : List UInt8 × List Nat :=
  match o, pop with
  | t :: r, true => ((text ++ [cls t]) ++ (if r = [] then [] else [10]), r)
  | o, _ => ((text ++ [opn k]) ++ (if nl then [10, 32, 32, 32] else []), k :: o)
theorem Rch.step {text : List UInt8} {o : List Nat} {T : List Tok} {mid : Bool} {j : Nat} (h : Rch text o T mid j) (k : Nat) (pop nl : Bool) (ho : o.length < 60) :
    ∃ T' mid' j', Rch (brkStep k pop nl text o).1 (brkStep k pop nl text o).2 T' mid' j' ∧ (mid' = true ∨ (brkStep k pop nl text o).2 ≠ []) := by
  have hopen : ∃ T' mid' j', Rch ((text ++ [opn k]) ++ (if nl then [10, 32, 32, 32] else [])) (k :: o) T' mid' j' ∧ (mid' = true ∨ k :: o ≠ []) := by
    obtain ⟨T', h'⟩ := h.push k ho
    cases nl with
    | true => exact ⟨T', false, 3, h'.line (by simp) 3, .inr (by simp)⟩
    | false => exact ⟨T', true, 0, by simpa using h', .inl rfl⟩
  cases o with
  | nil => cases pop <;> exact hopen
  | cons t r =>
    cases pop with
    | false => exact hopen
    | true =>
      obtain ⟨T', h'⟩ := h.pop
      show ∃ T' mid' j', Rch ((text ++ [cls t]) ++ (if r = [] then [] else [10])) r T' mid' j' ∧ (mid' = true ∨ r ≠ [])
      by_cases hr : r = []
      · rw [if_pos hr]
        exact ⟨T', true, 0, by simpa using h', .inl rfl⟩
      · rw [if_neg hr]
        exact ⟨T', false, 0, h'.line hr 0, .inr hr⟩
theorem Rch.close : ∀ (o : List Nat) {text : List UInt8} {T : List Tok} {mid : Bool} {j : Nat}, Rch text o T mid j → (mid = true ∨ o ≠ []) → ∃ T', Rch (text ++ o.map cls) [] T' true 0
  | [], text, T, mid, j, h, hm => by
    rcases hm with rfl | hm
    · have := h.none rfl
      subst this
      exact ⟨T, by simpa using h⟩
    · exact absurd rfl hm
  | t :: o, text, T, mid, j, h, hm => by
    obtain ⟨T', h'⟩ := h.pop
    obtain ⟨T2, h2⟩ := Rch.close o h' (.inl rfl)
    exact ⟨T2, by simpa using h2⟩
/-- How many tokens are newlines. -/
def nls : List Tok → Nat
  | [] => 0
  | t :: ts => (if t.kind = 5 then 1 else 0) + nls ts
theorem nls_cons (t : Tok) (ts : List Tok) : nls (t :: ts) = (if t.kind = 5 then 1 else 0) + nls ts := rfl
theorem nls_four : ∀ (T : List Tok) (ts : List Tok), (∀ t ∈ T, t.kind = 4) → nls (T ++ ts) = nls ts
  | [], ts, _ => rfl
  | t :: T, ts, h => by
    rw [List.cons_append, nls_cons, if_neg (by rw [h t (by simp)]; decide), Nat.zero_add]
    exact nls_four T ts fun x hx => h x (by simp [hx])
theorem scan_closed {text : List UInt8} {T : List Tok} (h : Rch text [] T true 0) : scanF text = .ok (T ++ [⟨5, [], text.length⟩] ++ [⟨8, [], text.length⟩]) := by
  refine scan_out ?_
  rcases h.run [] with hr | ⟨_, hr⟩
  · rw [List.append_nil] at hr
    refine hr.out ?_
    have := out_mid (p := text.length) (st := ⟨T, [0], []⟩)
    have e : endF text.length (nlF ⟨T, [0], []⟩ text.length) = .ok (T ++ [⟨5, [], text.length⟩] ++ [⟨8, [], text.length⟩]) := by
      unfold endF nlF
      rw [if_pos rfl, if_pos rfl]
      simp [deds]
    rw [e] at this
    exact this
  · exact absurd (.inl rfl) hr
theorem scan_left {text : List UInt8} {o : List Nat} {T : List Tok} {mid : Bool} {j : Nat} (h : Rch text o T mid j) (ho : o ≠ []) : scanF text = .bad text.length := by
  refine scan_out ?_
  have hop : o.map cls ≠ [] := by simpa using ho
  rcases h.run [] with hr | ⟨_, hr⟩
  · rw [List.append_nil] at hr
    refine hr.out ?_
    cases mid with
    | true =>
      have := h.none rfl
      subst this
      have := out_mid (p := text.length) (st := ⟨T, [0], o.map cls⟩)
      have e : endF text.length (nlF ⟨T, [0], o.map cls⟩ text.length) = .bad text.length := by
        unfold endF nlF
        simp only [if_neg hop]
      rw [e] at this
      exact this
    | false =>
      have hle := h.le
      have hp : text.length - j + j = text.length := by omega
      have := out_line (p := text.length - j) (g := j) (st := ⟨T, [0], o.map cls⟩) (l := List.replicate j 32 ++ []) (by rw [List.append_nil]; exact gapF_spn j) (by simp)
      rw [hp] at this
      have e : endF text.length ⟨T, [0], o.map cls⟩ = .bad text.length := by unfold endF; rw [if_neg hop]
      rw [e] at this
      exact this
  · exact absurd (.inl rfl) hr
theorem scan_wrong {text : List UInt8} {t k : Nat} {o : List Nat} {T : List Tok} {mid : Bool} {j : Nat} (h : Rch text (t :: o) T mid j) (hk : cls k ≠ cls t) : scanF (text ++ [cls k]) = .bad text.length := by
  refine scan_out ?_
  refine (h.to_mid (isB_cls k) []).out ?_
  have he : ends [cls k] = false := beq_eq_false_iff_ne.2 (isB_cls k).plain.2.2
  have ht := tok_brk ((t :: o).map cls) (isB_cls k) []
  rw [List.map_cons, brk_bad k t hk] at ht
  exact out_bad (p := text.length) (j := 0) (st := ⟨T, [0], (t :: o).map cls⟩) he ht
end Brk
end Go.Proofs.YtjobpcbnolgmnaaDoor
