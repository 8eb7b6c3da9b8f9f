/- The trees of smithylaw5.AstRows: a row of sums over names; what is true of them. Plain mathematics. No conditions. -/
import Derived.Test.YtnjbhcjdlbmmhaaDoorAstTreesF
import Derived.Test.YtnjbhcjdlbmmhaaDoorAstNames
namespace Go.Proofs.YtnjbhcjdlbmmhaaDoor
open Go.RowKit
namespace Ax
open Lx

def adN (x y : Int) : Nd := ⟨21, 0, 0, ⟨#[]⟩, [x, y]⟩
def rowN (f : Nat → ByteArray) : Nat → List Nd
  | 0 => []
  | 1 => [nmN (f 0)]
  | i + 2 => rowN f (i + 1) ++ [nmN (f (i + 1)), adN (2 * (i : Int)) (2 * (i : Int) + 1)]
theorem rowN_length (f : Nat → ByteArray) : ∀ i, (rowN f (i + 1)).length = 2 * i + 1
  | 0 => rfl
  | i + 1 => by rw [rowN, List.length_append, rowN_length f i]; simp; omega
theorem form_add (tk : List Bool) (so : List Int) (j : Nat) (hl : tk.length = j) (hs : so.length = j + 1) (h1 : okS (so.getD j 0) 1 = true) : formF (adN (j : Int) ((j : Int) + 1)) ⟨tk ++ [false, false], so ++ [25]⟩ = some ⟨tk ++ [true, true] ++ [false], so ++ [25] ++ [1]⟩ := by
  have e : takeF [(j : Int), (j : Int) + 1] (tk ++ [false, false]) = some (tk ++ [true, true]) := by
    rw [takeF, if_pos ⟨by omega, by rw [Int.toNat_natCast, List.getElem?_append_right (by omega), hl, Nat.sub_self]; rfl⟩, Int.toNat_natCast, List.set_append, if_neg (by omega), hl, Nat.sub_self, List.set_cons_zero]
    have ht : ((j : Int) + 1).toNat = j + 1 := by omega
    rw [takeF, ht, if_pos ⟨by omega, by rw [List.getElem?_append_right (by omega), hl, show j + 1 - j = 1 by omega]; rfl⟩, List.set_append, if_neg (by omega), hl, show j + 1 - j = 1 by omega]
    rfl
  unfold formF
  have e' : takeF (adN (j : Int) ((j : Int) + 1)).kids (tk ++ [false, false]) = some (tk ++ [true, true]) := e
  rw [e']
  simp only
  have hh : hasF (so ++ [25]) (adN (j : Int) ((j : Int) + 1)) = true := by
    unfold hasF adN
    rw [if_neg (show ¬ (21 : Int) = 6 by decide), if_pos rfl]
    have ht : ((j : Int) + 1).toNat = j + 1 := by omega
    have e1 : (so ++ [25]).getD j 0 = so.getD j 0 := by
      rw [List.getD_eq_getElem?_getD, List.getD_eq_getElem?_getD, List.getElem?_append_left (by omega)]
    have e2 : (so ++ [25]).getD (j + 1) 0 = 25 := by
      rw [List.getD_eq_getElem?_getD, List.getElem?_append_right (by omega), hs, Nat.sub_self]; rfl
    rw [areF, areF, Int.toNat_natCast, ht, e1, e2, h1, okS_25]; rfl
  have hso : sortN (adN (j : Int) ((j : Int) + 1)).op = 1 := rfl
  rw [if_pos ⟨rfl, rfl, hh⟩, hso]
theorem forms_row (f : Nat → ByteArray) (hf : ∀ j, nameB (f j).data.toList = true) : ∀ i, ∃ so : List Int, formsF (rowN f (i + 1)) 0 ⟨[], []⟩ = .inr ⟨List.replicate (2 * i) true ++ [false], so⟩ ∧ so.length = 2 * i + 1 ∧ okS (so.getD (2 * i) 0) 1 = true
  | 0 => ⟨[25], by
      show formsF [nmN (f 0)] 0 ⟨[], []⟩ = _
      rw [formsF, form_name _ _ _ (hf 0)]; rfl, rfl, okS_25⟩
  | i + 1 => by
    obtain ⟨so, h1, h2, h3⟩ := forms_row f hf i
    refine ⟨so ++ [25] ++ [1], ?_, by simp [h2]; omega, ?_⟩
    · rw [rowN, formsF_append, h1]
      show formsF [nmN (f (i + 1)), adN (2 * (i : Int)) (2 * (i : Int) + 1)] (0 + (rowN f (i + 1)).length) ⟨List.replicate (2 * i) true ++ [false], so⟩ = _
      rw [formsF, form_name _ _ _ (hf (i + 1))]
      simp only
      have h4 := form_add (List.replicate (2 * i) true) so (2 * i) (by simp) h2 h3
      rw [show ((2 * i : Nat) : Int) = 2 * (i : Int) by omega] at h4
      rw [formsF, List.append_assoc]
      show (match formF (adN (2 * (i : Int)) (2 * (i : Int) + 1)) ⟨List.replicate (2 * i) true ++ [false, false], so ++ [25]⟩ with | none => _ | some st' => formsF [] _ st') = _
      rw [h4]
      simp only
      rw [formsF]
      have e : List.replicate (2 * i) true ++ [true, true] = List.replicate (2 * (i + 1)) true := by
        rw [show 2 * (i + 1) = (2 * i + 1) + 1 by omega, List.replicate_succ' (n := 2 * i + 1), List.replicate_succ' (n := 2 * i), List.append_assoc]; rfl
      rw [e]
    · rw [List.getD_eq_getElem?_getD, List.getElem?_append_right (by simp [h2]; omega)]
      have : 2 * (i + 1) - (so ++ [25]).length = 0 := by simp [h2]; omega
      rw [this]
      exact okS_1
def rowT (f : Nat → ByteArray) (i : Nat) : List Nd := rowN f (i + 1) ++ [exN (2 * (i : Int))] ++ [blN [2 * (i : Int) + 1]]
theorem rowT_length (f : Nat → ByteArray) (i : Nat) : (rowT f i).length = 2 * i + 3 := by simp [rowT, rowN_length]
theorem forms_rowT (f : Nat → ByteArray) (hf : ∀ j, nameB (f j).data.toList = true) (i : Nat) : ∃ so, formsF (rowT f i) 0 ⟨[], []⟩ = .inr ⟨List.replicate (2 * i + 2) true ++ [false], so⟩ := by
  obtain ⟨so, h1, h2, h3⟩ := forms_row f hf i
  have e1 : formF (exN (2 * (i : Int))) ⟨List.replicate (2 * i) true ++ [false], so⟩ = some ⟨List.replicate (2 * i + 1) true ++ [false], so ++ [32]⟩ := by
    unfold formF
    have e : takeF (exN (2 * (i : Int))).kids (List.replicate (2 * i) true ++ [false]) = some (List.replicate (2 * i) true ++ [true]) := take_last _ _ (by simp)
    rw [e]
    simp only
    have hh : hasF so (exN (2 * (i : Int))) = true := by
      unfold hasF exN
      rw [if_neg (show ¬ (35 : Int) = 6 by decide), if_neg (show ¬ (35 : Int) = 21 by decide), if_pos rfl]
      have ht : (2 * (i : Int)).toNat = 2 * i := by omega
      rw [areF, ht, h3]; rfl
    have hso : sortN (exN (2 * (i : Int))).op = 32 := rfl
    rw [if_pos ⟨rfl, rfl, hh⟩, hso, List.replicate_succ']
  have e2 : formF (blN [2 * (i : Int) + 1]) ⟨List.replicate (2 * i + 1) true ++ [false], so ++ [32]⟩ = some ⟨List.replicate (2 * i + 2) true ++ [false], so ++ [32] ++ [256]⟩ := by
    unfold formF
    have e : takeF (blN [2 * (i : Int) + 1]).kids (List.replicate (2 * i + 1) true ++ [false]) = some (List.replicate (2 * i + 1) true ++ [true]) := take_last _ _ (by simp)
    rw [e]
    simp only
    have hh : hasF (so ++ [32]) (blN [2 * (i : Int) + 1]) = true := by
      unfold hasF blN
      rw [if_neg (show ¬ (47 : Int) = 6 by decide), if_neg (show ¬ (47 : Int) = 21 by decide), if_neg (show ¬ (47 : Int) = 35 by decide)]
      have ht : (2 * (i : Int) + 1).toNat = 2 * i + 1 := by omega
      have e3 : (so ++ [32]).getD (2 * i + 1) 0 = 32 := by
        rw [List.getD_eq_getElem?_getD, List.getElem?_append_right (by omega), h2, Nat.sub_self]; rfl
      rw [allF, ht, e3, okS_32]; rfl
    have hso : sortN (blN [2 * (i : Int) + 1]).op = 256 := rfl
    rw [if_pos ⟨rfl, rfl, hh⟩, hso, show 2 * i + 2 = (2 * i + 1) + 1 by omega, List.replicate_succ' (n := 2 * i + 1)]
  refine ⟨so ++ [32] ++ [256], ?_⟩
  unfold rowT
  rw [formsF_append, formsF_append, h1]
  show Sum.elim Sum.inl (formsF [blN [2 * (i : Int) + 1]] _) (formsF [exN (2 * (i : Int))] _ ⟨List.replicate (2 * i) true ++ [false], so⟩) = _
  rw [formsF, e1]
  simp only
  rw [formsF]
  show formsF [blN [2 * (i : Int) + 1]] _ ⟨List.replicate (2 * i + 1) true ++ [false], so ++ [32]⟩ = _
  rw [formsF, e2]
  simp only
  rw [formsF]
theorem last_rowT (f : Nat → ByteArray) (i : Nat) : ((rowT f i).getLast?.map (·.op)) = some 47 := by simp [rowT, blN]
theorem valid_rowT (f : Nat → ByteArray) (hf : ∀ j, nameB (f j).data.toList = true) (i : Nat) : validF (rowT f i) = none := by
  obtain ⟨so, h⟩ := forms_rowT f hf i
  unfold validF
  rw [h]
  simp only
  rw [if_pos ⟨whole_of (fun b hb => (List.mem_replicate.1 hb).2), last_rowT f i⟩]
theorem isTree_rowT (f : Nat → ByteArray) (hf : ∀ j, nameB (f j).data.toList = true) (i : Nat) : isTreeF (rowT f i) = true := by
  obtain ⟨so, h⟩ := forms_rowT f hf i
  have h2 := formsF_tree h
  unfold isTreeF
  simp only at h2
  rw [h2]
  exact whole_of (fun b hb => (List.mem_replicate.1 hb).2)
theorem deeps_row (f : Nat → ByteArray) : ∀ i, ∃ d : List Int, deepsF (rowN f (i + 1)) [] = d ∧ d.length = 2 * i + 1 ∧ d.getD (2 * i) 0 = (i : Int) + 1
  | 0 => ⟨[1], rfl, rfl, rfl⟩
  | i + 1 => by
    obtain ⟨d, h1, h2, h3⟩ := deeps_row f i
    refine ⟨_, rfl, ?_, ?_⟩
    all_goals
      rw [rowN, deepsF_append, h1, deepsF_cons, deepsF_cons, deepsF]
    · simp [h2]; omega
    · have ht : (2 * (i : Int)).toNat = 2 * i := by omega
      have ht2 : (2 * (i : Int) + 1).toNat = 2 * i + 1 := by omega
      show ((d ++ [(1 : Int)]) ++ [max (max (0 : Int) ((d ++ [1]).getD (2 * (i : Int)).toNat 0)) ((d ++ [1]).getD (2 * (i : Int) + 1).toNat 0) + 1]).getD (2 * (i + 1)) 0 = _
      have e1 : (d ++ [1]).getD (2 * i) 0 = (i : Int) + 1 := by
        rw [List.getD_eq_getElem?_getD, List.getElem?_append_left (by omega), ← List.getD_eq_getElem?_getD]; exact h3
      have e2 : (d ++ [1]).getD (2 * i + 1) 0 = 1 := by
        rw [List.getD_eq_getElem?_getD, List.getElem?_append_right (by omega), h2, Nat.sub_self]; rfl
      rw [ht, ht2, e1, e2, List.getD_eq_getElem?_getD, List.getElem?_append_right (by simp [h2]; omega)]
      have : 2 * (i + 1) - (d ++ [1]).length = 0 := by simp [h2]; omega
      rw [this]
      show max (max 0 ((i : Int) + 1)) 1 + 1 = _
      omega
theorem deep_rowT (f : Nat → ByteArray) (hf : ∀ j, nameB (f j).data.toList = true) (i : Nat) : deepF (rowT f i) = (i : Int) + 3 := by
  obtain ⟨d, h1, h2, h3⟩ := deeps_row f i
  unfold deepF
  rw [isTree_rowT f hf i, if_pos rfl]
  unfold rowT
  rw [deepsF_append, deepsF_append, h1, deepsF_cons, deepsF_cons, deepsF, deepsF]
  have ht : (2 * (i : Int)).toNat = 2 * i := by omega
  have ht2 : (2 * (i : Int) + 1).toNat = 2 * i + 1 := by omega
  show (((d ++ [max 0 (d.getD (2 * (i : Int)).toNat 0) + 1]) ++ [max 0 ((d ++ [max 0 (d.getD (2 * (i : Int)).toNat 0) + 1]).getD (2 * (i : Int) + 1).toNat 0) + 1]).getLast?).getD 0 = _
  rw [ht, ht2, h3, List.getLast?_append]
  have e2 : (d ++ [max 0 ((i : Int) + 1) + 1]).getD (2 * i + 1) 0 = max 0 ((i : Int) + 1) + 1 := by
    rw [List.getD_eq_getElem?_getD, List.getElem?_append_right (by omega), h2, Nat.sub_self]; rfl
  rw [e2]
  show max 0 (max 0 ((i : Int) + 1) + 1) + 1 = _
  omega
theorem names_row (f : Nat → ByteArray) : ∀ i, namesF (rowN f (i + 1)) = (List.range (i + 1)).map f
  | 0 => rfl
  | i + 1 => by
    rw [rowN, show rowN f (i + 1) ++ [nmN (f (i + 1)), adN (2 * (i : Int)) (2 * (i : Int) + 1)] = (rowN f (i + 1) ++ [nmN (f (i + 1))]) ++ [adN (2 * (i : Int)) (2 * (i : Int) + 1)] by simp, namesF_snoc, namesF_snoc, names_row f i, List.range_succ (n := i + 1), List.map_append]
    show (List.map f (List.range (i + 1)) ++ [f (i + 1)]) ++ [] = _
    rw [List.append_nil]; rfl
theorem names_rowT (f : Nat → ByteArray) (i : Nat) : namesF (rowT f i) = (List.range (i + 1)).map f := by
  unfold rowT
  rw [namesF_snoc, namesF_snoc, names_row]
  show ((List.range (i + 1)).map f ++ []) ++ [] = _
  simp
theorem ok_rowT (f : Nat → ByteArray) (hs : ∀ j, (f j).size ≤ 1000000) (i : Nat) : (∀ x ∈ rowT f i, OpOK x.op) ∧ (∀ x ∈ rowT f i, x.s.size ≤ 1000000) := by
  have h : ∀ i, ∀ x ∈ rowN f (i + 1), OpOK x.op ∧ x.s.size ≤ 1000000 := by
    intro i
    induction i with
    | zero => intro x hx; obtain rfl : x = nmN (f 0) := by simpa [rowN] using hx
              exact ⟨.inl rfl, hs 0⟩
    | succ i ih =>
      intro x hx
      rw [rowN] at hx
      rcases List.mem_append.1 hx with hx | hx
      · exact ih x hx
      · simp only [List.mem_cons, List.not_mem_nil, or_false] at hx
        rcases hx with rfl | rfl
        · exact ⟨.inl rfl, hs _⟩
        · exact ⟨.inr (.inl rfl), by show (0 : Nat) ≤ _; omega⟩
  have h2 : ∀ x ∈ rowT f i, OpOK x.op ∧ x.s.size ≤ 1000000 := by
    intro x hx
    unfold rowT at hx
    simp only [List.mem_append, List.mem_singleton] at hx
    rcases hx with (hx | rfl) | rfl
    · exact h i x hx
    · exact ⟨.inr (.inr (.inl rfl)), by show (0 : Nat) ≤ _; omega⟩
    · exact ⟨.inr (.inr (.inr rfl)), by show (0 : Nat) ≤ _; omega⟩
  exact ⟨fun x hx => (h2 x hx).1, fun x hx => (h2 x hx).2⟩
/-- The text of a number of 0 to 7. -/
def letT (n : Nat) : ByteArray := ⟨#[118, UInt8.ofNat (97 + n)]⟩
theorem letT_name (n : Nat) (h : n < 8) : nameB (letT n).data.toList = true := by
  have h' : n = 0 ∨ n = 1 ∨ n = 2 ∨ n = 3 ∨ n = 4 ∨ n = 5 ∨ n = 6 ∨ n = 7 := by omega
  rcases h' with rfl | rfl | rfl | rfl | rfl | rfl | rfl | rfl <;> decide
end Ax
end Go.Proofs.YtnjbhcjdlbmmhaaDoor
