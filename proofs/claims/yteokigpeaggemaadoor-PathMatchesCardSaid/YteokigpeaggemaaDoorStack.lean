/- Plain facts on cleaned paths: path.Clean keeps a stack of parts; a text is its parts with strokes between; what is cleaned is clean; a path's directory and its last part are it. Conditions: none; nothing of the program is named. -/
import Derived.Test.YteokigpeaggemaaDoorCleanPlain
import Derived.Test.YteokigpeaggemaaDoorStarsPlain
import Derived.Test.YteokigpeaggemaaDoorDirsPlain
import Derived.Lib.Join
namespace Go.Proofs.YteokigpeaggemaaDoor
open Go
namespace Stk

/-- Parts with strokes between. -/
def glue (l : List (List UInt8)) : List UInt8 := Lib.join l [47]
theorem glue_nil : glue [] = [] := rfl
theorem glue_one (x : List UInt8) : glue [x] = x := Lib.join_one x [47]
theorem tail_snoc (r : List (List UInt8)) (y : List UInt8) : Lib.joinTail [47] (r ++ [y]) = Lib.joinTail [47] r ++ 47 :: y := by
  simp [Lib.joinTail]
theorem glue_snoc (l : List (List UInt8)) (y : List UInt8) (h : l ≠ []) : glue (l ++ [y]) = glue l ++ 47 :: y := by
  unfold glue
  cases l with
  | nil => exact absurd rfl h
  | cons x r => rw [List.cons_append, Lib.join_cons, Lib.join_cons, tail_snoc, List.append_assoc]
theorem glue_append (l m : List (List UInt8)) (h : l ≠ []) (k : m ≠ []) : glue (l ++ m) = glue l ++ 47 :: glue m := by
  unfold glue
  cases l with
  | nil => exact absurd rfl h
  | cons x r => cases m with
    | nil => exact absurd rfl k
    | cons y s =>
      rw [List.cons_append, Lib.join_cons, Lib.join_cons, Lib.join_cons]
      simp [Lib.joinTail]
theorem glue_two (x y : List UInt8) : glue [x, y] = x ++ 47 :: y := by
  rw [show [x, y] = [x] ++ [y] from rfl, glue_snoc [x] y (by simp), glue_one]

def whole (p : List UInt8) : Prop := Pth.parts p = [p]
theorem whole_of {p : List UInt8} (h : ∀ b ∈ p, b ≠ 47) : whole p := Stars.parts_plain p h
theorem parts_glue (l : List (List UInt8)) (h : l ≠ []) (hw : ∀ p ∈ l, whole p) : Pth.parts (glue l) = l := by
  induction l with
  | nil => exact absurd rfl h
  | cons x r ih =>
    cases r with
    | nil => rw [glue_one]; exact hw x (by simp)
    | cons y s =>
      rw [show x :: y :: s = [x] ++ (y :: s) from rfl, glue_append [x] (y :: s) (by simp) (by simp), glue_one, Stars.parts_append, hw x (by simp), ih (by simp) (fun p hp => hw p (by simp [hp]))]
theorem glue_parts (l : List UInt8) : glue (Pth.parts l) = l := by
  induction l with
  | nil => rfl
  | cons b l ih =>
    by_cases hb : b = 47
    · subst hb
      rw [Pth.parts, if_pos rfl, show ([] : List UInt8) :: Pth.parts l = [[]] ++ Pth.parts l from rfl, glue_append [[]] _ (by simp) (Pth.parts_ne l), glue_one, ih]; rfl
    · rw [Pth.parts, if_neg hb]
      cases e : Pth.parts l with
      | nil => exact absurd e (Pth.parts_ne l)
      | cons p ps =>
        rw [e] at ih
        show glue ((b :: p) :: ps) = b :: l
        unfold glue at *
        rw [Lib.join_cons] at *
        rw [List.cons_append, ih]
theorem parts_whole (l p : List UInt8) (h : p ∈ Pth.parts l) : whole p := by
  induction l generalizing p with
  | nil => simp [Pth.parts] at h; subst h; rfl
  | cons b l ih =>
    unfold Pth.parts at h
    split at h
    · rcases List.mem_cons.1 h with rfl | h
      · rfl
      · exact ih p h
    · rename_i hb
      split at h
      · rename_i e; exact absurd e (Pth.parts_ne l)
      · rename_i q qs e
        rcases List.mem_cons.1 h with rfl | h
        · have := ih q (by rw [e]; simp)
          unfold whole at *
          rw [Pth.parts, if_neg hb, this]
        · exact ih p (by rw [e]; simp [h])
theorem not_up {p : List UInt8} (h : Pth.partOK p = true) : ¬ p = [46, 46] := by rintro rfl; revert h; decide
theorem not_skip {p : List UInt8} (h : Pth.partOK p = true) : ¬ (p = [] ∨ p = [46]) := by
  rintro (rfl | rfl) <;> (revert h; decide)
theorem not_empty {p : List UInt8} (h : Pth.partOK p = true) : p ≠ [] := fun e => not_skip h (.inl e)
theorem byte_no {b : UInt8} (h : (b == 42 || Pth.byteOK b) = true) : b ≠ 47 := by rintro rfl; revert h; decide
theorem whole_ok {p : List UInt8} (h : Pth.partOK p = true) : whole p := by
  refine whole_of fun b hb => ?_
  unfold Pth.partOK Pth.patOK at h
  rw [Bool.and_eq_true, Bool.and_eq_true, Bool.and_eq_true] at h
  exact byte_no (List.all_eq_true.1 h.2.1.2 b hb)

/-- One part more on the stack. -/
def push (st : List (List UInt8)) (p : List UInt8) : Option (List (List UInt8)) :=
  if p = [] ∨ p = [46] then some st else if p = [46, 46] then (if st = [] then none else some st.dropLast) else if Pth.partOK p then some (st ++ [p]) else none
def stack (st : List (List UInt8)) : List (List UInt8) → Option (List (List UInt8))
  | [] => some st
  | p :: ps => (push st p).bind fun s => stack s ps
def allOK (st : List (List UInt8)) : Prop := ∀ p ∈ st, Pth.partOK p = true
theorem push_ok {st s : List (List UInt8)} {p : List UInt8} (h : allOK st) (e : push st p = some s) : allOK s := by
  unfold push at e
  split at e
  · cases e; exact h
  · split at e
    · split at e
      · cases e
      · cases e; exact fun q hq => h q (List.dropLast_subset _ hq)
    · split at e
      · rename_i hp
        cases e
        intro q hq
        rcases List.mem_append.1 hq with hq | hq
        · exact h q hq
        · rw [List.mem_singleton.1 hq]; exact hp
      · cases e
theorem stack_ok {ps st s : List (List UInt8)} (h : allOK st) (e : stack st ps = some s) : allOK s := by
  induction ps generalizing st with
  | nil => cases e; exact h
  | cons p ps ih =>
    rw [stack] at e
    cases hp : push st p with
    | none => rw [hp] at e; cases e
    | some s' => rw [hp] at e; exact ih (push_ok h hp) e
theorem stack_append (ps qs st : List (List UInt8)) : stack st (ps ++ qs) = (stack st ps).bind fun s => stack s qs := by
  induction ps generalizing st with
  | nil => rfl
  | cons p ps ih =>
    rw [List.cons_append, stack, stack]
    cases push st p with
    | none => rfl
    | some s => exact ih s
theorem stack_all {st ps : List (List UInt8)} (h : allOK ps) : stack st ps = some (st ++ ps) := by
  induction ps generalizing st with
  | nil => simp [stack]
  | cons p ps ih =>
    have hp := h p (by simp)
    rw [stack, push, if_neg (not_skip hp), if_neg (not_up hp), if_pos hp, Option.bind_some, ih (fun q hq => h q (by simp [hq]))]
    simp
theorem glue_eq_nil {st : List (List UInt8)} (h : allOK st) (e : glue st = []) : st = [] := by
  cases st with
  | nil => rfl
  | cons x r =>
    unfold glue at e
    rw [Lib.join_cons] at e
    exact absurd (List.append_eq_nil_iff.1 e).1 (not_empty (h x (by simp)))
theorem last_slash {a l : List UInt8} (hl : ∀ b ∈ l, b ≠ 47) : (Lib.lastIndexByte ⟨(a ++ 47 :: l).toArray⟩ 47).toNat = a.length := by
  have hz : (⟨(a ++ 47 :: l).toArray⟩ : ByteArray).data.toList = a ++ 47 :: l := rfl
  have hs : (⟨(a ++ 47 :: l).toArray⟩ : ByteArray).size = a.length + 1 + l.length := by rw [Lib.size_eq, hz]; simp; omega
  have hat := Stars.at_bang ⟨(a ++ 47 :: l).toArray⟩
  rcases Lib.lastIndexByte_spec ⟨(a ++ 47 :: l).toArray⟩ 47 with ⟨_, hn⟩ | ⟨i, hi, h, hc, hn⟩
  · refine absurd ?_ (hn a.length (by omega))
    rw [hat a.length (by rw [hz]; simp)]
    simp only
    rw [List.getElem_append_right (by omega)]; simp
  · rw [h]
    simp only [Int.toNat_natCast]
    rw [hat i (by rw [hz]; simp; omega)] at hc
    simp only at hc
    have h1 : ¬ i < a.length := by
      intro hlt
      refine hn a.length hlt (by omega) ?_
      rw [hat a.length (by rw [hz]; simp)]
      simp only
      rw [List.getElem_append_right (by omega)]; simp
    have h2 : ¬ a.length < i := by
      intro hlt
      rw [List.getElem_append_right (by omega), List.getElem_cons, dif_neg (by omega)] at hc
      refine hl _ (List.getElem_mem (l := l) (n := i - a.length - 1) (by omega)) ?_
      apply UInt8.toNat_inj.1
      have : (47 : UInt8).toNat = 47 := rfl
      omega
    omega
theorem no_slash {l : List UInt8} (hl : ∀ b ∈ l, b ≠ 47) : (Lib.lastIndexByte ⟨l.toArray⟩ 47).toNat = 0 := by
  rcases Lib.lastIndexByte_spec ⟨l.toArray⟩ 47 with ⟨h, _⟩ | ⟨i, hi, h, hc, _⟩
  · rw [h]; rfl
  · have hz : (⟨l.toArray⟩ : ByteArray).data.toList = l := rfl
    have hi' : i < l.length := by rw [Lib.size_eq, hz] at hi; exact hi
    rw [Stars.at_bang ⟨l.toArray⟩ i (by rw [hz]; exact hi')] at hc
    refine absurd ?_ (hl _ (List.getElem_mem hi'))
    apply UInt8.toNat_inj.1
    have : (47 : UInt8).toNat = 47 := rfl
    simp only at hc
    omega
theorem bytes_no {p : List UInt8} (h : Pth.partOK p = true) : ∀ b ∈ p, b ≠ 47 := by
  intro b hb
  unfold Pth.partOK Pth.patOK at h
  rw [Bool.and_eq_true, Bool.and_eq_true, Bool.and_eq_true] at h
  exact byte_no (List.all_eq_true.1 h.2.1.2 b hb)
theorem take_glue {st : List (List UInt8)} (h : allOK st) (hne : st ≠ []) : (glue st).take (Cln.cutN (glue st)) = glue st.dropLast := by
  obtain ⟨init, last, rfl⟩ : ∃ init last, st = init ++ [last] := ⟨st.dropLast, st.getLast hne, (List.dropLast_concat_getLast hne).symm⟩
  have hl := bytes_no (h last (by simp))
  rw [List.dropLast_concat]
  unfold Cln.cutN
  by_cases hi : init = []
  · subst hi
    rw [List.nil_append, glue_one, no_slash hl]; rfl
  · rw [glue_snoc init last hi, last_slash hl]; simp
theorem step_push {st : List (List UInt8)} (p : List UInt8) (h : allOK st) : Cln.step (glue st) p = (push st p).map glue := by
  unfold Cln.step push
  split
  · rfl
  · split
    · by_cases e : st = []
      · subst e; rfl
      · rw [if_neg e, if_neg (fun e' => e (glue_eq_nil h e')), take_glue h e]; rfl
    · split
      · by_cases e : st = []
        · subst e; rw [if_pos glue_nil, List.nil_append]; show some p = some (glue [p]); rw [glue_one]
        · rw [if_neg (fun e' => e (glue_eq_nil h e'))]
          show some _ = some (glue (st ++ [p]))
          rw [glue_snoc st p e]; simp
      · rfl
theorem run_stack (ps : List (List UInt8)) : ∀ st, allOK st → ps.foldl (fun o p => o.bind fun acc => Cln.step acc p) (some (glue st)) = (stack st ps).map glue := by
  induction ps with
  | nil => intro st _; rfl
  | cons p ps ih =>
    intro st h
    rw [List.foldl_cons, Option.bind_some, step_push p h, stack]
    cases hp : push st p with
    | none => rw [Option.map_none, Cln.foldl_none]; rfl
    | some s => exact ih s (push_ok h hp)
theorem none_ok : allOK [] := fun _ h => by cases h
theorem run_is (ps : List (List UInt8)) : Cln.run ps = (stack [] ps).map glue := run_stack ps [] none_ok
/-- What is cleaned is parts with strokes between. -/
theorem clean_is (l : List UInt8) : Cln.clean l = (stack [] (Pth.parts l)).bind fun st => if (glue st).length ≤ 200 then some (glue st) else none := by
  unfold Cln.clean
  rw [run_is]
  cases stack [] (Pth.parts l) <;> rfl
theorem clean_some {l c : List UInt8} (h : Cln.clean l = some c) : ∃ st, stack [] (Pth.parts l) = some st ∧ allOK st ∧ c = glue st ∧ c.length ≤ 200 := by
  rw [clean_is] at h
  cases hs : stack [] (Pth.parts l) with
  | none => rw [hs] at h; cases h
  | some st =>
    rw [hs, Option.bind_some] at h
    split at h
    · cases h; exact ⟨st, rfl, stack_ok none_ok hs, rfl, by assumption⟩
    · cases h
theorem clean_of {l : List UInt8} {st : List (List UInt8)} (h : stack [] (Pth.parts l) = some st) (hl : (glue st).length ≤ 200) : Cln.clean l = some (glue st) := by
  rw [clean_is, h, Option.bind_some, if_pos hl]
theorem clean_big {l : List UInt8} {st : List (List UInt8)} (h : stack [] (Pth.parts l) = some st) (hl : 200 < (glue st).length) : Cln.clean l = none := by
  rw [clean_is, h, Option.bind_some, if_neg (by omega)]
/-- The parts of a text that is glued, empty or not. -/
theorem stack_glue {st : List (List UInt8)} (r : List (List UInt8)) (h : allOK st) : stack [] (Pth.parts (glue st) ++ r) = stack st r := by
  by_cases e : st = []
  · subst e; rfl
  · rw [parts_glue st e (fun p hp => whole_ok (h p hp)), stack_append, stack_all h]; rfl
theorem glue_self {st : List (List UInt8)} (h : allOK st) : stack [] (Pth.parts (glue st)) = some st := by
  have := stack_glue [] h
  rwa [List.append_nil] at this
theorem clean_again {st : List (List UInt8)} (h : allOK st) (hl : (glue st).length ≤ 200) : Cln.clean (glue st) = some (glue st) := clean_of (glue_self h) hl
theorem valid_glue {st : List (List UInt8)} (h : allOK st) (hne : st ≠ []) (hl : (glue st).length ≤ 200) : Pth.splitOK Pth.partOK (glue st) = true :=
  Stars.split_mk hl (by rw [parts_glue st hne (fun p hp => whole_ok (h p hp))]; exact h)
theorem valid_stack {l : List UInt8} (h : Pth.splitOK Pth.partOK l = true) : allOK (Pth.parts l) ∧ glue (Pth.parts l) = l ∧ l.length ≤ 200 := ⟨Stars.split_all h, glue_parts l, splitOK_len h⟩
theorem valid_clean {l : List UInt8} (h : Pth.splitOK Pth.partOK l = true) : Cln.clean l = some l := by
  obtain ⟨h1, h2, h3⟩ := valid_stack h
  have := clean_again h1 (by rw [h2]; exact h3)
  rwa [h2] at this

/-- A path's directory is its parts but the last one. -/
theorem dir_init (s : ByteArray) : ∃ init last, Pth.parts s.data.toList = init ++ [last] ∧ (s.extract 0 (dirN s)).data.toList = glue init ∧ (s.extract (baseN s) s.size).data.toList = last := by
  have hz := Lib.size_eq s
  obtain ⟨init, last, hp, hb, hw⟩ := Stars.base_last s
  refine ⟨init, last, hp, ?_, hb⟩
  rw [Lib.extract_from_zero]
  have hl : ∀ b ∈ last, b ≠ 47 := by
    rintro b hm rfl
    obtain ⟨x, y, e⟩ := List.append_of_mem hm
    rw [e, Stars.parts_append] at hw
    have := congrArg List.length hw
    rw [List.length_append] at this
    have h1 := Stars.parts_pos x
    have h2 := Stars.parts_pos y
    simp at this; omega
  have hg := glue_parts s.data.toList
  have hs : s = ⟨s.data.toList.toArray⟩ := by simp
  unfold dirN
  by_cases hi : init = []
  · subst hi
    rw [hp, List.nil_append, glue_one] at hg
    rw [hs, ← hg, no_slash hl]; rfl
  · rw [hp, glue_snoc init last hi] at hg
    rw [show Lib.lastIndexByte s 47 = Lib.lastIndexByte ⟨(glue init ++ 47 :: last).toArray⟩ 47 from by rw [hg], last_slash hl, ← hg]; simp

end Stk
end Go.Proofs.YteokigpeaggemaaDoor
