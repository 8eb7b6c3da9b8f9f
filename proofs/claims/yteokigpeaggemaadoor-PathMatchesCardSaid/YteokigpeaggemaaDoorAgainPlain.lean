/- Plain facts for a path that is cleaned again: its directory and its last part joined are it; what is joined behind it lies under it, and ends as it ends. Conditions: none; nothing of the program is named. -/
import Derived.Test.YteokigpeaggemaaDoorStack
namespace Go.Proofs.YteokigpeaggemaaDoor
open Go
namespace Agn

/-- A text that was cleaned. -/
def Cleaned (a : ByteArray) : Prop := ∃ st, Stk.allOK st ∧ a.data.toList = Stk.glue st ∧ a.size ≤ 200
theorem cleaned_of {l c : List UInt8} (h : Cln.clean l = some c) : Cleaned ⟨c.toArray⟩ := by
  obtain ⟨st, _, h2, h3, h4⟩ := Stk.clean_some h
  exact ⟨st, h2, h3, by rw [Lib.size_eq]; exact h4⟩
theorem Cleaned.again {a : ByteArray} (h : Cleaned a) : Cln.clean a.data.toList = some a.data.toList := by
  obtain ⟨st, h1, h2, h3⟩ := h
  rw [h2]
  exact Stk.clean_again h1 (by rw [← h2, ← Lib.size_eq]; exact h3)
theorem Cleaned.valid {a : ByteArray} (h : Cleaned a) (hne : ¬ a.data.toList = []) : Pth.splitOK Pth.partOK a.data.toList = true := by
  obtain ⟨st, h1, h2, h3⟩ := h
  rw [h2]
  refine Stk.valid_glue h1 ?_ (by rw [← h2, ← Lib.size_eq]; exact h3)
  rintro rfl
  exact hne h2
theorem not_valid {l : List UInt8} (h : Cln.clean l = none) : Pth.splitOK Pth.partOK l = false := by
  cases hv : Pth.splitOK Pth.partOK l with
  | false => rfl
  | true => rw [Stk.valid_clean hv] at h; cases h
theorem glueB_two (x y : ByteArray) : Stk.glue ([x, y].map (·.data.toList)) = x.data.toList ++ 47 :: y.data.toList := Stk.glue_two _ _
theorem last_of {st init : List (List UInt8)} {last : List UInt8} (h : Stk.allOK st) (hne : st ≠ []) (e : Pth.parts (Stk.glue st) = init ++ [last]) : st = init ++ [last] := by
  rw [Stk.parts_glue st hne (fun p hp => Stk.whole_ok (h p hp))] at e
  exact e
/-- Directory and last part, joined. -/
theorem Cleaned.halves {a : ByteArray} (h : Cleaned a) : Cln.clean ((a.extract 0 (dirN a)).data.toList ++ 47 :: (a.extract (baseN a) a.size).data.toList) = some a.data.toList := by
  obtain ⟨st, h1, h2, h3⟩ := h
  obtain ⟨init, last, hp, hd, hb⟩ := Stk.dir_init a
  rw [hd, hb, h2]
  rw [h2] at hp
  by_cases hne : st = []
  · subst hne
    have e : init = [] ∧ last = [] := by
      cases init with
      | nil => exact ⟨rfl, by rw [show Pth.parts (Stk.glue []) = [[]] from rfl] at hp; simpa using hp.symm⟩
      | cons x r =>
        rw [show Pth.parts (Stk.glue []) = [[]] from rfl] at hp
        have := congrArg List.length hp
        simp at this
    rw [e.1, e.2]; rfl
  · have hst := last_of h1 hne hp
    have hi : Stk.allOK init := fun p hp => h1 p (by rw [hst]; simp [hp])
    have hl : Pth.partOK last = true := h1 last (by rw [hst]; simp)
    have := Stk.clean_of (l := Stk.glue init ++ 47 :: last) (st := init ++ [last]) (by
      rw [Stars.parts_append, show Pth.parts last = [last] from Stk.whole_ok hl, Stk.stack_glue [last] hi]
      exact Stk.stack_all (fun p hp => by rw [List.mem_singleton.1 hp]; exact hl)) (by rw [← hst, ← h2, ← Lib.size_eq]; exact h3)
    rw [this, ← hst]
theorem base_glue {a : ByteArray} {st : List (List UInt8)} {last : List UInt8} (h : Stk.allOK (st ++ [last])) (e : a.data.toList = Stk.glue (st ++ [last])) : (a.extract (baseN a) a.size).data.toList = last := by
  obtain ⟨init, l2, hp, _, hb⟩ := Stk.dir_init a
  rw [e] at hp
  have := last_of h (by simp) hp
  have := (List.append_inj' this rfl).2
  rw [hb]
  simpa using this.symm
/-- What is joined behind a directory. -/
theorem Cleaned.behind {a d : ByteArray} (ha : Cleaned a) (hd : Cleaned d) (hne : ¬ d.data.toList = []) :
    (Cln.clean (a.data.toList ++ 47 :: d.data.toList) = none ∧ 200 < a.size + d.size + 1) ∨
    (∃ x, Cln.clean (a.data.toList ++ 47 :: d.data.toList) = some x ∧ x.length ≤ 200 ∧ underB ⟨x.toArray⟩ a = true ∧ (⟨x.toArray⟩ : ByteArray) ≠ a ∧
      (⟨x.toArray⟩ : ByteArray).extract (baseN ⟨x.toArray⟩) (⟨x.toArray⟩ : ByteArray).size = d.extract (baseN d) d.size) := by
  obtain ⟨s1, h1, e1, l1⟩ := ha
  obtain ⟨s2, h2, e2, l2⟩ := hd
  have n2 : s2 ≠ [] := by rintro rfl; exact hne e2
  have h12 : Stk.allOK (s1 ++ s2) := fun p hp => (List.mem_append.1 hp).elim (h1 p) (h2 p)
  have hst : Stk.stack [] (Pth.parts (a.data.toList ++ 47 :: d.data.toList)) = some (s1 ++ s2) := by
    rw [e1, e2, Stars.parts_append, Stk.parts_glue s2 n2 (fun p hp => Stk.whole_ok (h2 p hp)), Stk.stack_glue s2 h1, Stk.stack_all h2]
  have hlen : (Stk.glue (s1 ++ s2)).length ≤ a.size + d.size + 1 ∧ (s1 = [] → (Stk.glue (s1 ++ s2)).length = d.size) := by
    rw [Lib.size_eq, Lib.size_eq, e1, e2]
    by_cases n1 : s1 = []
    · subst n1; exact ⟨by rw [List.nil_append]; omega, fun _ => by rw [List.nil_append]⟩
    · refine ⟨?_, fun e => absurd e n1⟩
      rw [Stk.glue_append s1 s2 n1 n2]; simp; omega
  by_cases hbig : 200 < (Stk.glue (s1 ++ s2)).length
  · exact .inl ⟨Stk.clean_big hst hbig, by omega⟩
  · refine .inr ⟨_, Stk.clean_of hst (by omega), by omega, ?_, ?_, ?_⟩
    · unfold underB
      rw [Lib.toList_data, Lib.toList_data, e1]
      by_cases n1 : s1 = []
      · subst n1
        show (!(Stk.glue ([] ++ s2)).isEmpty) = true
        rw [List.nil_append]
        cases e : Stk.glue s2 with
        | nil => exact absurd (Stk.glue_eq_nil h2 e) n2
        | cons => rfl
      · have hf : (Stk.glue s1).isEmpty = false := by
          cases e : Stk.glue s1 with
          | nil => exact absurd (Stk.glue_eq_nil h1 e) n1
          | cons => rfl
        rw [hf, if_neg (by simp)]
        show (Lib.hasPrefix (Stk.glue (s1 ++ s2)) (Stk.glue s1) && Lib.hasPrefix (Lib.trimPrefix (Stk.glue (s1 ++ s2)) (Stk.glue s1)) [47]) = true
        rw [Stk.glue_append s1 s2 n1 n2]
        have hp : Lib.hasPrefix (Stk.glue s1 ++ 47 :: Stk.glue s2) (Stk.glue s1) = true := by
          unfold Lib.hasPrefix; rw [List.isPrefixOf_iff_prefix]; exact List.prefix_append _ _
        rw [hp, Bool.true_and]
        unfold Lib.trimPrefix
        rw [hp, if_pos rfl, List.drop_left]
        rfl
    · intro e
      have e' : Stk.glue (s1 ++ s2) = Stk.glue s1 := by rw [← e1, ← e]
      have hw := fun s hs => Stk.glue_self (st := s) hs
      have k := hw _ h12
      rw [e', hw _ h1] at k
      have := List.self_eq_append_right.1 (Option.some.inj k)
      exact n2 this
    · obtain ⟨init, last, rfl⟩ : ∃ init last, s2 = init ++ [last] := ⟨s2.dropLast, s2.getLast n2, (List.dropLast_concat_getLast n2).symm⟩
      have b2 := base_glue h2 e2
      have b1 := base_glue (a := ⟨(Stk.glue (s1 ++ (init ++ [last]))).toArray⟩) (st := s1 ++ init) (last := last) (by rw [List.append_assoc]; exact h12) (by rw [List.append_assoc])
      apply ByteArray.ext
      apply Array.ext'
      rw [b2]; exact b1

end Agn
end Go.Proofs.YteokigpeaggemaaDoor
