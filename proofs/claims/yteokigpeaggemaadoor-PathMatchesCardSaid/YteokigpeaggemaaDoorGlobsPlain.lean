/- What is globbed: plain facts on lists. Conditions: none. -/
import Derived.Test.YteokigpeaggemaaDoorTexts
import Derived.Sort.Walk0
namespace Go.Proofs.YteokigpeaggemaaDoor

theorem want_more (l but : List ByteArray) (m : ByteArray) (q : List UInt8) (h : want8 l but q = true) : want8 (l ++ [m]) but q = true := by
  unfold want8 anyB at *
  rw [List.any_append]
  simp only [Bool.and_eq_true, Bool.or_eq_true] at *
  exact ⟨h.1, .inl h.2.1, h.2.2⟩
theorem want_less (l but : List ByteArray) (m : ByteArray) (q : List UInt8) (h : want8 l but q = true) : want8 l (but ++ [m]) q = !partsB (Pth.parts m.data.toList) (Pth.parts q) := by
  unfold want8 anyB at *
  rw [List.any_append]
  simp only [Bool.and_eq_true, Bool.not_eq_true'] at h
  rw [h.1, h.2.1, h.2.2, toB_list]
  simp
theorem want_fewer (l but : List ByteArray) (m : ByteArray) (q : List UInt8) (h : want8 l (but ++ [m]) q = true) : want8 l but q = true := by
  unfold want8 anyB at *
  rw [List.any_append] at h
  simp only [Bool.and_eq_true, Bool.not_eq_true', Bool.or_eq_false_iff] at *
  exact ⟨h.1, h.2.1, h.2.2.1⟩
theorem want_path {l but : List ByteArray} {q : List UInt8} (h : want8 l but q = true) : Pth.splitOK Pth.partOK q = true := by
  unfold want8 at h
  simp only [Bool.and_eq_true] at h
  exact h.1

theorem mem_glob {l but xs : List ByteArray} {x : ByteArray} : x ∈ globB l but xs ↔ x.data.toList ∈ tidy8 xs ∧ want8 l but x.data.toList = true := by
  unfold globB
  rw [List.mem_map]
  constructor
  · rintro ⟨q, hq, rfl⟩
    rw [toB_list]
    exact List.mem_filter.1 hq
  · intro h
    exact ⟨_, List.mem_filter.2 h, toB_data x⟩
theorem glob_in {l but xs : List ByteArray} {x : ByteArray} (h : x ∈ globB l but xs) : x ∈ xs := by
  obtain ⟨y, hy, e⟩ := mem_tidy (mem_glob.1 h).1
  rw [text_inj e]; exact hy
theorem glob_more {l but xs : List ByteArray} {x : ByteArray} (m : ByteArray) (h : x ∈ globB l but xs) : x ∈ globB (l ++ [m]) but xs :=
  mem_glob.2 ⟨(mem_glob.1 h).1, want_more l but m _ (mem_glob.1 h).2⟩
theorem glob_less {l but xs : List ByteArray} {x : ByteArray} (m : ByteArray) (h : x ∈ globB l but xs) : matchB m.data.toList x.data.toList = true ↔ x ∉ globB l (but ++ [m]) xs := by
  obtain ⟨h1, h2⟩ := mem_glob.1 h
  rw [mem_glob, want_less l but m _ h2]
  unfold matchB
  rw [want_path h2]
  simp [h1]
theorem glob_len (l but xs : List ByteArray) (m : ByteArray) : (globB l (but ++ [m]) xs).length ≤ (globB l but xs).length := by
  unfold globB
  rw [List.length_map, List.length_map, ← List.countP_eq_length_filter, ← List.countP_eq_length_filter]
  exact List.countP_mono_left fun q _ h => want_fewer l but m q h

theorem sorted_up (ls : List (List UInt8)) : (sorted8 ls).Pairwise (fun a b => a ≤ b) := by
  have := List.pairwise_mergeSort (le := fun x y : List UInt8 => decide (x ≤ y)) (fun a b c h1 h2 => by simp only [decide_eq_true_eq] at *; exact List.le_trans h1 h2)
    (fun a b => by simp only [Bool.or_eq_true, decide_eq_true_eq]; exact List.le_total a b) ls
  exact this.imp fun h => by simpa using h
theorem compact_up {ls : List (List UInt8)} (h : ls.Pairwise (fun a b => a ≤ b)) : (Lib.compact ls).Pairwise (fun a b => a < b) := by
  unfold Lib.compact Lib.compactUpTo
  rw [List.pairwise_map]
  have hr : (List.range ls.length).Pairwise (fun i j => i < j) := List.pairwise_lt_range
  refine List.Pairwise.imp_of_mem ?_ (hr.filter _)
  intro i j hi hj hij
  have hi' : i < ls.length := by simpa using (List.mem_filter.1 hi).1
  have hj' : j < ls.length := by simpa using (List.mem_filter.1 hj).1
  have hk := (List.mem_filter.1 hj).2
  unfold Lib.keeps at hk
  have hne : ls.toArray[j]! ≠ ls.toArray[j - 1]! := by
    rcases of_decide_eq_true hk with h0 | h0
    · omega
    · exact h0
  rw [getElem!_pos _ _ (by simpa using hj'), getElem!_pos _ _ (by simp; omega)] at hne
  rw [getElem!_pos _ _ (by simpa using hi'), getElem!_pos _ _ (by simpa using hj')]
  simp only [List.getElem_toArray] at hne ⊢
  have h1 : ls[j - 1] ≤ ls[j] := List.pairwise_iff_getElem.1 h (j - 1) j (by omega) hj' (by omega)
  have h2 : ls[i] ≤ ls[j - 1] := by
    rcases Nat.lt_or_ge i (j - 1) with h3 | h3
    · exact List.pairwise_iff_getElem.1 h i (j - 1) hi' (by omega) h3
    · obtain rfl : i = j - 1 := by omega
      exact List.le_refl _
  have h3 : ls[i] ≤ ls[j] := List.le_trans h2 h1
  rcases List.le_iff_lt_or_eq.1 h3 with h4 | h4
  · exact h4
  · exact absurd (List.le_antisymm h1 (h4 ▸ h2)) (fun e => hne e.symm)
theorem glob_up (l but xs : List ByteArray) (i : Nat) (h0 : 0 < i) (h : i < (globB l but xs).length) : (globB l but xs)[i - 1].data.toList < (globB l but xs)[i].data.toList := by
  have hp : (globB l but xs).Pairwise (fun a b => a.data.toList < b.data.toList) := by
    unfold globB
    rw [List.pairwise_map]
    have := (compact_up (sorted_up (xs.map (·.data.toList)))).filter (want8 l but)
    refine this.imp fun h => ?_
    rw [toB_list, toB_list]; exact h
  exact List.pairwise_iff_getElem.1 hp (i - 1) i (by omega) h (by omega)

theorem not_up {x y : ByteArray} (h : y.data.toList < x.data.toList) : (Op.bytesLess x.toList y.toList || x.toList == y.toList) = false := by
  rw [ByteArray.toList_eq, ByteArray.toList_eq, bytesLess_eq, Bool.or_eq_false_iff]
  refine ⟨decide_eq_false (fun h2 => ?_), beq_eq_false_iff_ne.2 fun e => ?_⟩
  · exact List.lt_irrefl _ (List.lt_trans h h2)
  · rw [e] at h; exact List.lt_irrefl _ h
theorem glob_facts {l but xs A : List ByteArray} (hA : globB l but xs = A) : (∀ j (hj : j < A.length), 0 ≤ amongI xs A[j]) ∧ (∀ j (hj : j < A.length), 0 < j → (Op.bytesLess A[j].toList A[j - 1].toList || A[j].toList == A[j - 1].toList) = false) := by
  subst hA
  exact ⟨fun j hj => amongI_in (glob_in (List.getElem_mem hj)), fun j hj h0 => not_up (glob_up l but xs j h0 hj)⟩
theorem glob_small {l but xs A : List ByteArray} {n : Nat} (hA : globB l but xs = A) (h : ∀ x ∈ xs, x.size ≤ n) : ∀ j (hj : j < A.length), A[j].size ≤ n := by
  subst hA
  exact fun j hj => h _ (glob_in (List.getElem_mem hj))
theorem glob_few {l but xs A : List ByteArray} (hA : globB l but xs = A) : A.length ≤ xs.length := by
  subst hA
  unfold globB
  rw [List.length_map]
  exact Nat.le_trans (List.length_filter_le _ _) (tidy_len xs)
theorem more_facts {l but xs A B C : List ByteArray} {m : ByteArray} (hA : globB l but xs = A) (hB : globB (l ++ [m]) but xs = B) (hC : globB l (but ++ [m]) xs = C) :
    (∀ j (hj : j < A.length), 0 ≤ amongI B A[j]) ∧ (∀ j (hj : j < A.length), decide (amongI C A[j] < 0) = matchB m.data.toList A[j].data.toList) ∧ C.length ≤ A.length := by
  subst hA; subst hB; subst hC
  refine ⟨fun j hj => amongI_in (glob_more m (List.getElem_mem hj)), fun j hj => ?_, glob_len l but xs m⟩
  have h := glob_less m (List.getElem_mem hj)
  by_cases hm : (globB l but xs)[j] ∈ globB l (but ++ [m]) xs
  · have h1 := amongI_in hm
    have h2 : matchB m.data.toList (globB l but xs)[j].data.toList = false := by
      rw [Bool.eq_false_iff]; exact fun e => h.1 e hm
    rw [h2, decide_eq_false (by omega)]
  · rw [h.2 hm, amongI_out hm]; rfl
/-- Is there a pattern that is none? -/
theorem bad_not {ys : List ByteArray} {k : Nat} (h : badAt ys k) : ¬ patsOK ys ys.length := by
  obtain ⟨h1, _, h2⟩ := h
  intro h
  rw [h k h1 h1] at h2
  cases h2
theorem patsOK_split {l but : List ByteArray} (h : patsOK (l ++ but) (l ++ but).length) : patsOK l l.length ∧ patsOK but but.length := by
  refine ⟨fun j hj _ => ?_, fun j hj _ => ?_⟩
  · have := h j (by simp; omega) (by simp; omega)
    rwa [List.getElem_append_left hj] at this
  · have := h (l.length + j) (by simp; omega) (by simp; omega)
    rw [List.getElem_append_right (by omega)] at this
    simpa using this
theorem patsOK_glue {l but : List ByteArray} (h1 : patsOK l l.length) (h2 : patsOK but but.length) : patsOK (l ++ but) (l ++ but).length := by
  have := patsOK_append h1 h2
  rwa [← List.length_append] at this
theorem patsOK_one {m : ByteArray} : patsOK [m] 1 ↔ Pth.splitOK Pth.patOK m.data.toList = true := by
  constructor
  · intro h; exact h 0 (by simp) (by omega)
  · intro h j hj hk
    obtain rfl : j = 0 := by omega
    exact h

end Go.Proofs.YteokigpeaggemaaDoor
