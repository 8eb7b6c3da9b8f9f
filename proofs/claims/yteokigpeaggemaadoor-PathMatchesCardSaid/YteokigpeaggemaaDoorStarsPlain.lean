/- Plain facts on paths and the patterns that are laid round them: a path fits itself, and what is laid between stars; one of two parts fits no single star. Conditions: the parts are parts of paths. -/
import Derived.Test.YteokigpeaggemaaDoorMatchAll
import Derived.Lib.SmallJoins
namespace Go.Proofs.YteokigpeaggemaaDoor
open Go
namespace Stars

theorem parts_append (a b : List UInt8) : Pth.parts (a ++ 47 :: b) = Pth.parts a ++ Pth.parts b := by
  induction a with
  | nil => simp [Pth.parts]
  | cons c a ih =>
    rw [List.cons_append]
    by_cases h : c = 47
    · subst h; simp [Pth.parts, ih]
    · rw [Pth.parts, if_neg h, ih, Pth.parts, if_neg h]
      cases e : Pth.parts a with
      | nil => exact absurd e (Pth.parts_ne a)
      | cons p ps => rfl
theorem parts_plain (l : List UInt8) (hl : ∀ b ∈ l, b ≠ 47) : Pth.parts l = [l] := by
  induction l with
  | nil => rfl
  | cons b l ih => rw [Pth.parts, if_neg (hl b (by simp)), ih (fun x hx => hl x (by simp [hx]))]
/-- What is put behind a text, and has no stroke, is put behind its last part. -/
theorem parts_behind (a l : List UInt8) (hl : ∀ b ∈ l, b ≠ 47) : ∃ init last, Pth.parts a = init ++ [last] ∧ Pth.parts (a ++ l) = init ++ [last ++ l] := by
  induction a with
  | nil =>
    refine ⟨[], [], rfl, ?_⟩
    rw [List.nil_append, List.nil_append]
    induction l with
    | nil => rfl
    | cons b l ih => rw [Pth.parts, if_neg (hl b (by simp)), ih (fun x hx => hl x (by simp [hx]))]
  | cons c a ih =>
    obtain ⟨init, last, h1, h2⟩ := ih
    rw [List.cons_append]
    by_cases h : c = 47
    · subst h
      exact ⟨[] :: init, last, by simp [Pth.parts, h1], by simp [Pth.parts, h2]⟩
    · rw [Pth.parts, if_neg h, h1, Pth.parts, if_neg h, h2]
      cases init with
      | nil => exact ⟨[], c :: last, rfl, rfl⟩
      | cons q qs => exact ⟨(c :: q) :: qs, last, rfl, rfl⟩
theorem part_pat {p : List UInt8} (h : Pth.partOK p = true) : Pth.patOK p = true := by
  unfold Pth.partOK at h
  rw [Bool.and_eq_true] at h
  exact h.2
theorem no_star {p : List UInt8} (h : Pth.partOK p = true) (i : Nat) (hi : i < p.length) : (byteAt p i == 42) = false := by
  unfold Pth.partOK at h
  rw [Bool.and_eq_true] at h
  have h1 := h.1
  have hm : Lib.indexByte p 42 < 0 := by simpa using h1
  clear h h1
  unfold byteAt
  rw [List.getElem?_eq_getElem hi, Option.getD_some, beq_eq_false_iff_ne]
  induction p generalizing i with
  | nil => simp at hi
  | cons b p ih =>
    unfold Lib.indexByte at hm
    have hb : b ≠ 42 := by intro e; subst e; simp at hm
    cases i with
    | zero => exact hb
    | succ i =>
      refine ih i (by simpa using hi) ?_
      have hg := Lib.indexByte_ge p 42
      simp [hb] at hm
      by_cases e : Lib.indexByte p 42 = -1
      · omega
      · simp [e] at hm; omega
theorem not_stars {p : List UInt8} (h : Pth.partOK p = true) : (p == [42, 42]) = false := by
  rw [beq_eq_false_iff_ne]
  rintro rfl
  revert h; decide
/-- A run of things that fit, one by one. -/
theorem run {n m : Nat} {st : Nat → Bool} {ft : Nat → Nat → Bool} (t i j : Nat) (hi : i + t ≤ n) (hj : j + t ≤ m) (h : ∀ x, x < t → st (i + x) = false ∧ ft (i + x) (j + x) = true) (hf : Row.Fit n m st ft (i + t) (j + t)) : Row.Fit n m st ft i j := by
  induction t generalizing i j with
  | zero => exact hf
  | succ t ih =>
    have h0 := h 0 (by omega)
    refine .one i j (by omega) (by omega) h0.1 h0.2 (ih (i + 1) (j + 1) (by omega) (by omega) (fun x hx => ?_) ?_)
    · have := h (x + 1) (by omega)
      rwa [show i + (x + 1) = i + 1 + x from by omega, show j + (x + 1) = j + 1 + x from by omega] at this
    · rwa [show i + 1 + t = i + (t + 1) from by omega, show j + 1 + t = j + (t + 1) from by omega]
theorem run_back {n m : Nat} {st : Nat → Bool} {ft : Nat → Nat → Bool} (t i j : Nat) (hi : i + t ≤ n) (h : ∀ x, x < t → st (i + x) = false) (hf : Row.Fit n m st ft i j) : Row.Fit n m st ft (i + t) (j + t) := by
  induction t generalizing i j with
  | zero => exact hf
  | succ t ih =>
    have h1 := (hf.of_one (h 0 (by omega)) (by omega)).2.2
    have := ih (i + 1) (j + 1) (by omega) (fun x hx => by have := h (x + 1) (by omega); rwa [show i + (x + 1) = i + 1 + x from by omega] at this) h1
    rwa [show i + 1 + t = i + (t + 1) from by omega, show j + 1 + t = j + (t + 1) from by omega] at this
theorem part_self {p : List UInt8} (h : Pth.partOK p = true) : partB p p = true := by
  unfold partB
  rw [Row.rowB_iff]
  refine run p.length 0 0 (by omega) (by omega) (fun x hx => ⟨no_star h _ (by omega), by simp⟩) ?_
  rw [Nat.zero_add]
  exact .done
theorem part_star (p : List UInt8) : partB [42] p = true := by
  unfold partB
  rw [Row.rowB_iff]
  exact .star 0 0 p.length (by simp) rfl (Nat.zero_le _) (Nat.le_refl _) .done
theorem part_long {p : List UInt8} (h : Pth.partOK p = true) (b : UInt8) : partB p (p ++ [b]) = false := by
  unfold partB
  refine Row.rowB_false fun hf => ?_
  have h1 := run_back p.length 0 0 (by omega) (fun x hx => no_star h _ (by omega)) hf
  rw [Nat.zero_add] at h1
  rcases h1.parts with h2 | h2 | h2
  · simp at h2
  · omega
  · omega

theorem at_left {ps qs : List (List UInt8)} {i : Nat} (h : i < ps.length) : listAt (ps ++ qs) i = listAt ps i := by
  unfold listAt; rw [List.getElem?_append_left h]
theorem at_right {ps qs : List (List UInt8)} {i : Nat} : listAt (ps ++ qs) (ps.length + i) = listAt qs i := by
  unfold listAt; rw [List.getElem?_append_right (by omega)]; congr 2; omega
theorem at_mem {ps : List (List UInt8)} {i : Nat} (h : i < ps.length) : listAt ps i ∈ ps := by
  rw [← listAt_get h]; exact List.getElem_mem h

/-- Parts ahead, parts behind: what stands of a pattern between them may be a star that stands for what the path has there. -/
theorem fits_mid {A B M : List (List UInt8)} (hA : ∀ p ∈ A, Pth.partOK p = true) (hB : ∀ p ∈ B, Pth.partOK p = true) : partsB (A ++ [[42, 42]] ++ B) (A ++ M ++ B) = true := by
  unfold partsB
  rw [Row.rowB_iff]
  refine run A.length 0 0 (by simp) (by simp) (fun x hx => ?_) ?_
  · rw [Nat.zero_add, List.append_assoc, List.append_assoc, at_left hx, at_left hx]
    exact ⟨not_stars (hA _ (at_mem hx)), part_self (hA _ (at_mem hx))⟩
  · rw [Nat.zero_add]
    refine .star A.length A.length (A.length + M.length) (by simp) ?_ (by omega) (by simp) ?_
    · rw [List.append_assoc, show A.length = A.length + 0 from rfl, at_right]; rfl
    · refine run B.length _ _ (by simp; omega) (by simp; omega) (fun x hx => ?_) ?_
      · have e1 : listAt (A ++ [[42, 42]] ++ B) (A.length + 1 + x) = listAt B x := by
          rw [show A.length + 1 + x = (A ++ [[42, 42]]).length + x from by simp, at_right]
        have e2 : listAt (A ++ M ++ B) (A.length + M.length + x) = listAt B x := by
          rw [show A.length + M.length + x = (A ++ M).length + x from by simp, at_right]
        rw [e1, e2]
        exact ⟨not_stars (hB _ (at_mem hx)), part_self (hB _ (at_mem hx))⟩
      · have e1 : (A ++ [[42, 42]] ++ B).length = A.length + 1 + B.length := by simp; omega
        have e2 : (A ++ M ++ B).length = A.length + M.length + B.length := by simp; omega
        rw [e1, e2]
        exact .done
theorem fits_self {A : List (List UInt8)} (hA : ∀ p ∈ A, Pth.partOK p = true) : partsB A A = true := by
  unfold partsB
  rw [Row.rowB_iff]
  refine run A.length 0 0 (by omega) (by omega) (fun x hx => ?_) ?_
  · rw [Nat.zero_add]
    exact ⟨not_stars (hA _ (at_mem hx)), part_self (hA _ (at_mem hx))⟩
  · rw [Nat.zero_add]; exact .done
theorem one_star (p : List UInt8) : partsB [[42]] [p] = true := by
  unfold partsB
  rw [Row.rowB_iff]
  exact .one 0 0 (by simp) (by simp) rfl (by show partB [42] p = true; exact part_star p) .done
theorem one_star_no {ps : List (List UInt8)} (h : 2 ≤ ps.length) : partsB [[42]] ps = false := by
  unfold partsB
  refine Row.rowB_false fun hf => ?_
  have h1 := (hf.of_one rfl (by simp)).2.2
  rcases h1.parts with h2 | h2 | h2
  · simp at h2; omega
  · simp at h2
  · simp at h2
theorem fits_not {A : List (List UInt8)} {last : List UInt8} (b : UInt8) (hA : ∀ p ∈ A, Pth.partOK p = true) (hl : Pth.partOK last = true) : partsB (A ++ [last] ++ [[42, 42]]) (A ++ [last ++ [b]]) = false := by
  unfold partsB
  refine Row.rowB_false fun hf => ?_
  have h1 := run_back A.length 0 0 (by simp) (fun x hx => by
    rw [Nat.zero_add, List.append_assoc, at_left hx]
    exact not_stars (hA _ (at_mem hx))) hf
  rw [Nat.zero_add] at h1
  have e1 : listAt (A ++ [last] ++ [[42, 42]]) A.length = last := by
    rw [List.append_assoc, show A.length = A.length + 0 from rfl, at_right]; rfl
  have e2 : listAt (A ++ [last ++ [b]]) A.length = last ++ [b] := by
    rw [show A.length = A.length + 0 from rfl, at_right]; rfl
  have h2 := (h1.of_one (by rw [e1]; exact not_stars hl) (by simp)).2.1
  rw [e1, e2, part_long hl] at h2
  cases h2

theorem split_all {ok : List UInt8 → Bool} {l : List UInt8} (h : Pth.splitOK ok l = true) : ∀ p ∈ Pth.parts l, ok p = true := by
  unfold Pth.splitOK at h
  simp at h
  exact h.2
theorem split_mk {ok : List UInt8 → Bool} {l : List UInt8} (hl : l.length ≤ 200) (h : ∀ p ∈ Pth.parts l, ok p = true) : Pth.splitOK ok l = true := by
  unfold Pth.splitOK
  simp
  exact ⟨hl, h⟩

theorem at_bang (s : ByteArray) (j : Nat) (h : j < s.data.toList.length) : (s.data[j]!).toNat = (s.data.toList[j]).toNat := by
  have h' : j < s.data.size := by simpa using h
  rw [getElem!_pos s.data j h']
  simp
/-- What path.Base cuts off is the last part. -/
theorem base_last (s : ByteArray) : ∃ init last, Pth.parts s.data.toList = init ++ [last] ∧ (s.extract (baseN s) s.size).data.toList = last ∧ Pth.parts last = [last] := by
  have hz := Lib.size_eq s
  have c47 : (47 : UInt8).toNat = 47 := rfl
  rcases Lib.lastIndexByte_spec s 47 with ⟨h, hn⟩ | ⟨i, hi, h, hc, hn⟩
  · have hb : baseN s = 0 := by unfold baseN; rw [h]; rfl
    have hl : ∀ b ∈ s.data.toList, b ≠ 47 := by
      rintro b hm rfl
      obtain ⟨j, hj, e⟩ := List.mem_iff_getElem.1 hm
      refine hn j (by omega) ?_
      rw [at_bang s j hj, e]; rfl
    refine ⟨[], s.data.toList, parts_plain _ hl, ?_, parts_plain _ hl⟩
    rw [hb]; simp
  · have hb : baseN s = i + 1 := by unfold baseN; rw [h]; omega
    have hi' : i < s.data.toList.length := by omega
    have hl : ∀ b ∈ s.data.toList.drop (i + 1), b ≠ 47 := by
      rintro b hm rfl
      obtain ⟨j, hj, e⟩ := List.mem_iff_getElem.1 hm
      rw [List.length_drop] at hj
      rw [List.getElem_drop] at e
      refine hn (i + 1 + j) (by omega) (by omega) ?_
      rw [at_bang s (i + 1 + j) (by omega), e]; rfl
    have hcut : s.data.toList = s.data.toList.take i ++ 47 :: s.data.toList.drop (i + 1) := by
      have e47 : s.data.toList[i] = 47 := by
        apply UInt8.toNat_inj.1
        rw [at_bang s i hi'] at hc
        omega
      rw [← e47, ← List.drop_eq_getElem_cons, List.take_append_drop]
    refine ⟨Pth.parts (s.data.toList.take i), s.data.toList.drop (i + 1), ?_, ?_, parts_plain _ hl⟩
    · conv => lhs; rw [hcut]
      rw [parts_append, parts_plain _ hl]
    · rw [hb, Lib.extract_to_end]

/-- The law's seven patterns. -/
def pats (a b : ByteArray) : List ByteArray :=
  [⟨#[42, 42]⟩, a ++ ⟨#[47]⟩ ++ b, a ++ ⟨#[47, 42, 42]⟩, ⟨#[42, 42, 47]⟩ ++ b, a ++ ⟨#[47, 42, 42, 47]⟩ ++ b, ⟨#[42, 42, 47]⟩ ++ b.extract (baseN b) b.size, a ++ ⟨#[47]⟩ ++ b ++ ⟨#[47, 42, 42]⟩]
structure Good (q : List UInt8) (p : List UInt8) : Prop where
  len : q.length ≤ 200
  pat : Pth.splitOK Pth.patOK q = true
  fit : matchB q p = true
theorem pat_stars : Pth.patOK [42, 42] = true := by decide
theorem pat_star : Pth.patOK [42] = true := by decide
theorem good_mk {q p : List UInt8} {Q P : List (List UInt8)} (hl : q.length ≤ 200) (hq : Pth.parts q = Q) (hQ : ∀ x ∈ Q, Pth.patOK x = true) (hp : Pth.splitOK Pth.partOK p = true) (hP : Pth.parts p = P) (hfit : partsB Q P = true) : Good q p :=
  ⟨hl, split_mk hl (by rw [hq]; exact hQ), by unfold matchB; rw [hp, hq, hP, hfit]; rfl⟩

variable {a b : List UInt8}
theorem join_ok (la : a.length ≤ 60) (lb : b.length ≤ 60) (ha : Pth.splitOK Pth.partOK a = true) (hb : Pth.splitOK Pth.partOK b = true) : Pth.splitOK Pth.partOK (a ++ 47 :: b) = true := by
  refine split_mk (by simp; omega) ?_
  rw [parts_append]
  intro p hp
  rcases List.mem_append.1 hp with h | h
  · exact split_all ha p h
  · exact split_all hb p h
theorem pat_mid {A B : List (List UInt8)} (hA : ∀ p ∈ A, Pth.partOK p = true) (hB : ∀ p ∈ B, Pth.partOK p = true) : ∀ x ∈ A ++ [[42, 42]] ++ B, Pth.patOK x = true := by
  intro x hx
  simp only [List.mem_append, List.mem_cons, List.not_mem_nil, or_false] at hx
  rcases hx with (h | h) | h
  · exact part_pat (hA x h)
  · subst h; exact pat_stars
  · exact part_pat (hB x h)
theorem pats_good (x y : ByteArray) (la : x.data.toList.length ≤ 60) (lb : y.data.toList.length ≤ 60) (ha : Pth.splitOK Pth.partOK x.data.toList = true) (hb : Pth.splitOK Pth.partOK y.data.toList = true) :
    ∀ q ∈ pats x y, Good q.data.toList (x.data.toList ++ 47 :: y.data.toList) := by
  have hA := split_all ha
  have hB := split_all hb
  have hp := join_ok la lb ha hb
  have hP := parts_append x.data.toList y.data.toList
  have hAB : ∀ p ∈ Pth.parts x.data.toList ++ Pth.parts y.data.toList, Pth.partOK p = true := fun p h => (List.mem_append.1 h).elim (hA p) (hB p)
  have d1 : (⟨#[47]⟩ : ByteArray).data.toList = [47] := rfl
  have d2 : (⟨#[47, 42, 42]⟩ : ByteArray).data.toList = [47, 42, 42] := rfl
  have d3 : (⟨#[42, 42, 47]⟩ : ByteArray).data.toList = [42, 42, 47] := rfl
  have d4 : (⟨#[47, 42, 42, 47]⟩ : ByteArray).data.toList = [47, 42, 42, 47] := rfl
  have none : ∀ p ∈ ([] : List (List UInt8)), Pth.partOK p = true := fun _ h => by cases h
  obtain ⟨init, last, hl, hbase, hlast⟩ := base_last y
  have hlok : Pth.partOK last = true := hB last (by rw [hl]; simp)
  have hll : last.length ≤ 60 := Nat.le_trans (Pth.parts_le _ last (by rw [hl]; simp)) lb
  intro q hq
  unfold pats at hq
  simp only [List.mem_cons, List.not_mem_nil, or_false] at hq
  rcases hq with rfl | rfl | rfl | rfl | rfl | rfl | rfl
  · refine good_mk (Q := [] ++ [[42, 42]] ++ []) (by decide) rfl (pat_mid none none) hp hP ?_
    have := fits_mid (M := Pth.parts x.data.toList ++ Pth.parts y.data.toList) none none
    simpa using this
  · refine good_mk (Q := Pth.parts x.data.toList ++ Pth.parts y.data.toList) ?_ ?_ (fun p h => part_pat (hAB p h)) hp hP (fits_self hAB)
    · simp only [Joins.data_append, List.length_append, List.length_cons, List.length_nil]; omega
    · simp only [Joins.data_append, List.append_assoc, List.cons_append, List.nil_append]; exact hP
  · refine good_mk (Q := Pth.parts x.data.toList ++ [[42, 42]] ++ []) ?_ ?_ (pat_mid hA none) hp hP ?_
    · simp only [Joins.data_append, List.length_append, List.length_cons, List.length_nil]; omega
    · simp only [Joins.data_append]; rw [parts_append x.data.toList [42, 42], List.append_nil]; rfl
    · have := fits_mid (M := Pth.parts y.data.toList) hA none
      simpa using this
  · refine good_mk (Q := [] ++ [[42, 42]] ++ Pth.parts y.data.toList) ?_ ?_ (pat_mid none hB) hp hP ?_
    · simp only [Joins.data_append, List.length_append, List.length_cons, List.length_nil]; omega
    · simp only [Joins.data_append]; exact parts_append [42, 42] y.data.toList
    · exact fits_mid (M := Pth.parts x.data.toList) none hB
  · refine good_mk (Q := Pth.parts x.data.toList ++ [[42, 42]] ++ Pth.parts y.data.toList) ?_ ?_ (pat_mid hA hB) hp hP ?_
    · simp only [Joins.data_append, List.length_append, List.length_cons, List.length_nil]; omega
    · simp only [Joins.data_append, List.append_assoc, List.cons_append, List.nil_append]
      rw [parts_append, show (42 :: 42 :: 47 :: y.data.toList : List UInt8) = [42, 42] ++ 47 :: y.data.toList from rfl, parts_append]; rfl
    · have := fits_mid (M := []) hA hB
      simpa using this
  · refine good_mk (Q := [] ++ [[42, 42]] ++ [last]) ?_ ?_ (pat_mid none (fun p h => by simp at h; subst h; exact hlok)) hp hP ?_
    · simp only [Joins.data_append, hbase, List.length_append, List.length_cons, List.length_nil]; omega
    · simp only [Joins.data_append, hbase]
      rw [show ([42, 42, 47] ++ last : List UInt8) = [42, 42] ++ 47 :: last from rfl, parts_append, hlast]; rfl
    · rw [hl]
      have := fits_mid (M := Pth.parts x.data.toList ++ init) (A := []) (B := [last]) none (fun p h => by simp at h; subst h; exact hlok)
      simpa using this
  · refine good_mk (Q := (Pth.parts x.data.toList ++ Pth.parts y.data.toList) ++ [[42, 42]] ++ []) ?_ ?_ (pat_mid hAB none) hp hP ?_
    · simp only [Joins.data_append, List.length_append, List.length_cons, List.length_nil]; omega
    · simp only [Joins.data_append, List.append_assoc, List.cons_append, List.nil_append]
      rw [parts_append, parts_append]; simp; rfl
    · have := fits_mid (M := []) hAB none
      simpa using this

theorem parts_pos (l : List UInt8) : 1 ≤ (Pth.parts l).length := by
  cases e : Pth.parts l with
  | nil => exact absurd e (Pth.parts_ne l)
  | cons => simp
theorem star_two {p a b : List UInt8} (hp : p = a ++ 47 :: b) : matchB [42] p = false := by
  unfold matchB
  have h1 := parts_pos a
  have h2 := parts_pos b
  rw [show Pth.parts [42] = [[42]] from rfl, hp, parts_append, one_star_no (by rw [List.length_append]; omega), Bool.and_false]
theorem star_base (p : ByteArray) (h : Pth.splitOK Pth.partOK p.data.toList = true) : matchB [42] (p.extract (baseN p) p.size).data.toList = true := by
  obtain ⟨init, last, hl, hbase, hlast⟩ := base_last p
  have hm : last ∈ Pth.parts p.data.toList := by rw [hl]; simp
  have hok := split_all h last hm
  unfold matchB
  rw [hbase, show Pth.parts [42] = [[42]] from rfl, hlast, one_star, Bool.and_true]
  exact split_mk (Nat.le_trans (Pth.parts_le _ last hm) (splitOK_len h)) (by rw [hlast]; intro q hq; simp at hq; subst hq; exact hok)
theorem behind_pat (x : ByteArray) (la : x.data.toList.length ≤ 60) (ha : Pth.splitOK Pth.partOK x.data.toList = true) : Pth.splitOK Pth.patOK (x ++ (⟨#[47, 42, 42]⟩ : ByteArray)).data.toList = true := by
  have d2 : (⟨#[47, 42, 42]⟩ : ByteArray).data.toList = [47, 42, 42] := rfl
  rw [Joins.data_append, d2]
  refine split_mk (by simp only [List.length_append, List.length_cons, List.length_nil]; omega) ?_
  rw [parts_append x.data.toList [42, 42], show Pth.parts [42, 42] = [[42, 42]] from rfl]
  have := pat_mid (A := Pth.parts x.data.toList) (B := []) (split_all ha) (fun _ h => by cases h)
  rwa [List.append_nil] at this
theorem behind_not (x : ByteArray) (ha : Pth.splitOK Pth.partOK x.data.toList = true) : matchB (x ++ (⟨#[47, 42, 42]⟩ : ByteArray)).data.toList (x ++ (⟨#[120]⟩ : ByteArray)).data.toList = false := by
  have d2 : (⟨#[47, 42, 42]⟩ : ByteArray).data.toList = [47, 42, 42] := rfl
  have d5 : (⟨#[120]⟩ : ByteArray).data.toList = [120] := rfl
  rw [Joins.data_append, Joins.data_append, d2, d5]
  obtain ⟨init, last, h1, h2⟩ := parts_behind x.data.toList [120] (by decide)
  have hA := split_all ha
  rw [h1] at hA
  unfold matchB
  rw [parts_append x.data.toList [42, 42], h1, h2]
  rw [show Pth.parts [42, 42] = [[42, 42]] from rfl, fits_not 120 (fun p hp => hA p (by simp [hp])) (hA last (by simp)), Bool.and_false]

end Stars
end Go.Proofs.YteokigpeaggemaaDoor
