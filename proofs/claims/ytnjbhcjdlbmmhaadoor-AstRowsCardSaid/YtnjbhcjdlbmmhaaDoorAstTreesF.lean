/- The trees of smithylaw5.AstTrees: pairs of a name and an expression, a block over them; what is true of them, and of those with a fault. Plain mathematics. No conditions. -/
import Derived.Test.YtnjbhcjdlbmmhaaDoorAstValid
namespace Go.Proofs.YtnjbhcjdlbmmhaaDoor
open Go.RowKit
namespace Ax
open Lx

def xT : ByteArray := ⟨#[120]⟩
def nmN (s : ByteArray) : Nd := ⟨6, 0, 0, s, []⟩
def exN (z : Int) : Nd := ⟨35, 0, 0, ⟨#[]⟩, [z]⟩
def blN (zs : List Int) : Nd := ⟨47, 0, 0, ⟨#[]⟩, zs⟩
def pairs : Nat → Nat → List Nd
  | _, 0 => []
  | j, m + 1 => nmN xT :: exN (2 * (j : Int)) :: pairs (j + 1) m
def odds : Nat → Nat → List Int
  | _, 0 => []
  | j, m + 1 => (2 * (j : Int) + 1) :: odds (j + 1) m
theorem pairs_length : ∀ j m, (pairs j m).length = 2 * m
  | _, 0 => rfl
  | j, m + 1 => by simp [pairs, pairs_length (j + 1) m]; omega
theorem odds_length : ∀ j m, (odds j m).length = m
  | _, 0 => rfl
  | j, m + 1 => by simp [odds, odds_length (j + 1) m]
theorem pairs_snoc : ∀ j m, pairs j (m + 1) = pairs j m ++ [nmN xT, exN (2 * ((j + m : Nat) : Int))]
  | j, 0 => rfl
  | j, m + 1 => by
    show nmN xT :: exN (2 * (j : Int)) :: pairs (j + 1) (m + 1) = (nmN xT :: exN (2 * (j : Int)) :: pairs (j + 1) m) ++ _
    rw [pairs_snoc (j + 1) m, show j + 1 + m = j + (m + 1) by omega]; rfl
theorem odds_snoc : ∀ j m, odds j (m + 1) = odds j m ++ [2 * ((j + m : Nat) : Int) + 1]
  | j, 0 => rfl
  | j, m + 1 => by
    show (2 * (j : Int) + 1) :: odds (j + 1) (m + 1) = ((2 * (j : Int) + 1) :: odds (j + 1) m) ++ _
    rw [odds_snoc (j + 1) m, show j + 1 + m = j + (m + 1) by omega]; rfl
theorem name_x : nameB xT.data.toList = true := by decide
theorem name_for : nameB [102, 111, 114] = false := by decide
def fl (b : Bool) (m : Nat) : List Bool := (List.replicate m [true, b]).flatten
def sl (m : Nat) : List Int := (List.replicate m [25, 32]).flatten
theorem fl_length (b : Bool) : ∀ m, (fl b m).length = 2 * m
  | 0 => rfl
  | m + 1 => by
    have := fl_length b m
    simp only [fl, List.replicate_succ, List.flatten_cons, List.length_append] at this ⊢
    simp; omega
theorem sl_length : ∀ m, (sl m).length = 2 * m
  | 0 => rfl
  | m + 1 => by
    have := sl_length m
    simp only [sl, List.replicate_succ, List.flatten_cons, List.length_append] at this ⊢
    simp; omega
theorem fl_snoc (b : Bool) (m : Nat) : fl b (m + 1) = fl b m ++ [true, b] := by
  unfold fl
  rw [List.replicate_succ', List.flatten_append]; rfl
theorem sl_snoc (m : Nat) : sl (m + 1) = sl m ++ [25, 32] := by
  unfold sl
  rw [List.replicate_succ', List.flatten_append]; rfl
theorem sl_odd : ∀ (m i : Nat), i < m → (sl m)[2 * i + 1]? = some 32
  | 0, _, h => by omega
  | m + 1, i, h => by
    rw [sl_snoc]
    by_cases e : i = m
    · subst e
      rw [List.getElem?_append_right (by rw [sl_length]; omega), sl_length, show 2 * i + 1 - 2 * i = 1 by omega]; rfl
    · rw [List.getElem?_append_left (by rw [sl_length]; omega)]
      exact sl_odd m i (by omega)
theorem form_name (tk : List Bool) (so : List Int) (s : ByteArray) (h : nameB s.data.toList = true) : formF (nmN s) ⟨tk, so⟩ = some ⟨tk ++ [false], so ++ [25]⟩ := by
  unfold formF
  have e : takeF (nmN s).kids tk = some tk := rfl
  rw [e]
  simp only
  rw [if_pos ⟨rfl, h, rfl⟩]; rfl
theorem take_last (tk : List Bool) (i : Int) (h : i = (tk.length : Int)) : takeF [i] (tk ++ [false]) = some (tk ++ [true]) := by
  subst h
  rw [takeF, if_pos ⟨by omega, by rw [Int.toNat_natCast, List.getElem?_append_right (Nat.le_refl _), Nat.sub_self]; rfl⟩, Int.toNat_natCast, List.set_append, if_neg (by omega), Nat.sub_self]; rfl
theorem okS_25 : okS 25 1 = true := by decide
theorem okS_32 : okS 32 32 = true := by decide
theorem okS_1 : okS 1 1 = true := by decide
theorem form_expr (tk : List Bool) (so : List Int) (i : Int) (h : i = (tk.length : Int)) (hs : so.length = tk.length) : formF (exN i) ⟨tk ++ [false], so ++ [25]⟩ = some ⟨tk ++ [true, false], so ++ [25, 32]⟩ := by
  unfold formF
  have e : takeF (exN i).kids (tk ++ [false]) = some (tk ++ [true]) := take_last tk i h
  rw [e]
  simp only
  have hh : hasF (so ++ [25]) (exN i) = true := by
    unfold hasF exN
    rw [if_neg (show ¬ (35 : Int) = 6 by decide), if_neg (show ¬ (35 : Int) = 21 by decide), if_pos rfl]
    subst h
    have e2 : (so ++ [25]).getD ((tk.length : Nat) : Int).toNat 0 = 25 := by
      rw [Int.toNat_natCast, List.getD_eq_getElem?_getD, List.getElem?_append_right (by omega), ← hs, Nat.sub_self]; rfl
    rw [areF, e2, okS_25]; rfl
  have hso : sortN (exN i).op = 32 := rfl
  rw [if_pos ⟨rfl, rfl, hh⟩, hso, List.append_assoc, List.append_assoc]
  rfl
theorem forms_pairs : ∀ (m i : Nat), i = 0 → formsF (pairs 0 m) i ⟨[], []⟩ = .inr ⟨fl false m, sl m⟩
  | 0, i, _ => rfl
  | m + 1, i, hi => by
    rw [pairs_snoc, formsF_append, forms_pairs m i hi]
    show formsF [nmN xT, exN (2 * ((0 + m : Nat) : Int))] (i + (pairs 0 m).length) ⟨fl false m, sl m⟩ = _
    rw [formsF, form_name _ _ _ name_x]
    simp only
    rw [formsF, form_expr _ _ _ (by rw [fl_length]; omega) (by rw [fl_length, sl_length])]
    simp only
    rw [formsF, fl_snoc, sl_snoc]
theorem take_odds : ∀ (m j : Nat) (T : List Bool), T.length = 2 * j → takeF (odds j m) (T ++ fl false m) = some (T ++ fl true m)
  | 0, j, T, _ => rfl
  | m + 1, j, T, h => by
    have e1 : T ++ fl false (m + 1) = (T ++ [true]) ++ false :: fl false m := by simp [fl, List.replicate_succ]
    have hl : (T ++ [true]).length = 2 * j + 1 := by simp; omega
    rw [odds, takeF, e1]
    have ht : (2 * (j : Int) + 1).toNat = 2 * j + 1 := by omega
    rw [ht, if_pos ⟨by omega, by rw [List.getElem?_append_right (by omega), hl, Nat.sub_self]; rfl⟩, List.set_append, if_neg (by omega), hl, Nat.sub_self, List.set_cons_zero]
    have e2 : (T ++ [true]) ++ true :: fl false m = (T ++ [true, true]) ++ fl false m := by simp
    rw [e2, take_odds m (j + 1) (T ++ [true, true]) (by simp; omega)]
    simp [fl, List.replicate_succ]
theorem all_odds : ∀ (m j n : Nat), j + m ≤ n → allF (sl n) 32 (odds j m) = true
  | 0, _, _, _ => rfl
  | m + 1, j, n, h => by
    rw [odds, allF, all_odds m (j + 1) n (by omega)]
    have ht : (2 * (j : Int) + 1).toNat = 2 * j + 1 := by omega
    rw [ht, List.getD_eq_getElem?_getD, sl_odd n j (by omega)]
    decide
theorem fl_true (m : Nat) : ∀ b ∈ fl true m, b = true := by
  intro b hb
  unfold fl at hb
  rw [List.mem_flatten] at hb
  obtain ⟨l, hl, hb⟩ := hb
  rw [List.mem_replicate] at hl
  rw [hl.2] at hb
  simpa using hb
theorem whole_of {k : List Bool} (h : ∀ b ∈ k, b = true) : wholeF (k ++ [false]) = true := by
  unfold wholeF
  rw [List.dropLast_concat]
  have : k.all id = true := by rw [List.all_eq_true]; intro b hb; rw [h b hb]; rfl
  rw [this]
  cases k <;> rfl
def treeL (m : Nat) : List Nd := pairs 0 m ++ [blN (odds 0 m)]
theorem treeL_length (m : Nat) : (treeL m).length = 2 * m + 1 := by simp [treeL, pairs_length]
theorem forms_tree (m : Nat) (hm : 0 < m) : formsF (treeL m) 0 ⟨[], []⟩ = .inr ⟨fl true m ++ [false], sl m ++ [256]⟩ := by
  unfold treeL
  rw [formsF_append, forms_pairs m 0 rfl]
  show formsF [blN (odds 0 m)] (0 + (pairs 0 m).length) ⟨fl false m, sl m⟩ = _
  have e : takeF (blN (odds 0 m)).kids (fl false m) = some (fl true m) := by
    have := take_odds m 0 [] rfl
    rw [List.nil_append, List.nil_append] at this
    exact this
  have hh : hasF (sl m) (blN (odds 0 m)) = true := by
    show (!(odds 0 m).isEmpty && allF (sl m) 32 (odds 0 m)) = true
    rw [all_odds m 0 m (by omega)]
    cases m with
    | zero => omega
    | succ m => rfl
  rw [formsF, formF, e]
  simp only
  rw [if_pos ⟨rfl, rfl, hh⟩]
  rfl
theorem last_tree (m : Nat) : ((treeL m).getLast?.map (·.op)) = some 47 := by simp [treeL, blN]
theorem valid_tree (m : Nat) (hm : 0 < m) : validF (treeL m) = none := by
  unfold validF
  rw [forms_tree m hm]
  simp only
  rw [if_pos ⟨whole_of (fl_true m), last_tree m⟩]
theorem isTree_tree (m : Nat) (hm : 0 < m) : isTreeF (treeL m) = true := by
  have h := formsF_tree (forms_tree m hm)
  unfold isTreeF
  simp only at h
  rw [h]
  exact whole_of (fl_true m)
def dl (m : Nat) : List Int := (List.replicate m [1, 2]).flatten
theorem dl_length : ∀ m, (dl m).length = 2 * m
  | 0 => rfl
  | m + 1 => by
    have := dl_length m
    simp only [dl, List.replicate_succ, List.flatten_cons, List.length_append] at this ⊢
    simp; omega
theorem dl_snoc (m : Nat) : dl (m + 1) = dl m ++ [1, 2] := by
  unfold dl
  rw [List.replicate_succ', List.flatten_append]; rfl
theorem dl_odd : ∀ (m i : Nat), i < m → (dl m)[2 * i + 1]? = some 2
  | 0, _, h => by omega
  | m + 1, i, h => by
    rw [dl_snoc]
    by_cases e : i = m
    · subst e
      rw [List.getElem?_append_right (by rw [dl_length]; omega), dl_length, show 2 * i + 1 - 2 * i = 1 by omega]; rfl
    · rw [List.getElem?_append_left (by rw [dl_length]; omega)]
      exact dl_odd m i (by omega)
theorem deepsF_append : ∀ (a b : List Nd) (d : List Int), deepsF (a ++ b) d = deepsF b (deepsF a d)
  | [], _, _ => rfl
  | x :: a, b, d => by rw [List.cons_append, deepsF_cons, deepsF_cons, deepsF_append a b]
theorem deeps_pairs : ∀ m, deepsF (pairs 0 m) [] = dl m
  | 0 => rfl
  | m + 1 => by
    rw [pairs_snoc, deepsF_append, deeps_pairs m, deepsF_cons, deepsF_cons, dl_snoc]
    show deepsF [] _ = _
    rw [deepsF]
    have ht : (2 * ((0 + m : Nat) : Int)).toNat = (dl m).length := by rw [dl_length]; omega
    show (dl m ++ [1]) ++ [max 0 ((dl m ++ [1]).getD (2 * ((0 + m : Nat) : Int)).toNat 0) + 1] = _
    rw [ht, List.getD_eq_getElem?_getD, List.getElem?_append_right (Nat.le_refl _), Nat.sub_self]
    simp
    rfl
theorem deepM_odds : ∀ (k j n : Nat) (v : Int), j + k ≤ n → (v = 0 ∧ 0 < k ∨ v = 2) → deepM (dl n) v (odds j k) = 2
  | 0, j, n, v, h, hv => by rcases hv with ⟨_, h0⟩ | rfl; omega; rfl
  | k + 1, j, n, v, h, hv => by
    have ht : (2 * (j : Int) + 1).toNat = 2 * j + 1 := by omega
    show deepM (dl n) (max v ((dl n).getD (2 * (j : Int) + 1).toNat 0)) (odds (j + 1) k) = 2
    rw [ht, List.getD_eq_getElem?_getD, dl_odd n j (by omega)]
    exact deepM_odds k (j + 1) n _ (by omega) (.inr (by rcases hv with ⟨rfl, _⟩ | rfl <;> rfl))
theorem deep_tree (m : Nat) (hm : 0 < m) : deepF (treeL m) = 3 := by
  unfold deepF
  rw [isTree_tree m hm, if_pos rfl]
  unfold treeL
  rw [deepsF_append, deeps_pairs, deepsF_cons]
  show ((dl m ++ [deepM (dl m) 0 (odds 0 m) + 1]).getLast?).getD 0 = 3
  rw [deepM_odds m 0 m 0 (by omega) (.inl ⟨rfl, hm⟩)]
  simp
/-- A fault at the second node. -/
theorem valid_second (s : ByteArray) (z : Int) (r : List Nd) (h : nameB s.data.toList = true) (hz : z ≠ 0) : validF (nmN s :: exN z :: r) = some 1 := by
  unfold validF
  rw [formsF, form_name [] [] s h]
  simp only
  have e : formF (exN z) ⟨[] ++ [false], [] ++ [25]⟩ = none := by
    unfold formF
    have : takeF (exN z).kids ([] ++ [false]) = none := by
      show (if 0 ≤ z ∧ ([] ++ [false])[z.toNat]? = some false then _ else none) = none
      rw [if_neg]
      rintro ⟨h1, h2⟩
      have := (List.getElem?_eq_some_iff.1 h2).1
      simp at this
      omega
    rw [this]
  rw [formsF, e]
theorem valid_first (s : ByteArray) (r : List Nd) (h : nameB s.data.toList = false) : validF (nmN s :: r) = some 0 := by
  unfold validF
  have e : formF (nmN s) ⟨[], []⟩ = none := by
    unfold formF
    have e1 : takeF (nmN s).kids [] = some [] := rfl
    rw [e1]
    simp only
    rw [if_neg]
    rintro ⟨_, h2, _⟩
    have : saysF (nmN s) = nameB s.data.toList := rfl
    rw [this, h] at h2
    cases h2
  rw [formsF, e]
/-- A fault at the last node: its kids can't be taken, or are none, or are not all. -/
theorem valid_last (m : Nat) (zs : List Int) (h : ∀ st, formF (blN zs) ⟨fl false m, sl m⟩ = some st → wholeF st.tk = false) : validF (pairs 0 m ++ [blN zs]) = some (2 * m) := by
  unfold validF
  rw [formsF_append, forms_pairs m 0 rfl]
  show (match formsF [blN zs] (0 + (pairs 0 m).length) ⟨fl false m, sl m⟩ with | .inl i => some i | .inr st => _) = _
  rw [formsF, pairs_length]
  cases e : formF (blN zs) ⟨fl false m, sl m⟩ with
  | none => simp only; rw [Nat.zero_add]
  | some st =>
    simp only
    rw [formsF]
    simp only
    rw [if_neg (fun h2 => by rw [h st e] at h2; cases h2.1)]
    simp [pairs_length]
theorem treeL_set (m : Nat) (x : Nd) : (treeL m).set (2 * m) x = pairs 0 m ++ [x] := by
  unfold treeL
  rw [List.set_append, pairs_length, if_neg (by omega), Nat.sub_self, List.set_cons_zero]
theorem takeF_append : ∀ (a b : List Int) (k : List Bool), takeF (a ++ b) k = (takeF a k).bind (takeF b)
  | [], b, k => rfl
  | z :: a, b, k => by
    rw [List.cons_append, takeF, takeF]
    split
    · exact takeF_append a b _
    · rfl
theorem valid_twice (m : Nat) : validF (pairs 0 m ++ [blN (odds 0 m ++ [1])]) = some (2 * m) := by
  refine valid_last m _ fun st h => ?_
  have e : takeF (blN (odds 0 m ++ [1])).kids (fl false m) = none := by
    show takeF (odds 0 m ++ [1]) (fl false m) = none
    have h1 := take_odds m 0 [] rfl
    rw [List.nil_append, List.nil_append] at h1
    rw [takeF_append, h1, Option.bind_some, takeF, if_neg]
    rintro ⟨_, h2⟩
    have := fl_true m _ (List.mem_of_getElem? h2)
    cases this
  unfold formF at h
  rw [e] at h
  cases h
theorem valid_less (m : Nat) : validF (pairs 0 (m + 1) ++ [blN (odds 1 m)]) = some (2 * (m + 1)) := by
  refine valid_last (m + 1) _ fun st h => ?_
  have e : takeF (blN (odds 1 m)).kids (fl false (m + 1)) = some ([true, false] ++ fl true m) := by
    have := take_odds m 1 [true, false] rfl
    have e2 : fl false (m + 1) = [true, false] ++ fl false m := by simp [fl, List.replicate_succ]
    rw [e2]
    exact this
  unfold formF at h
  rw [e] at h
  simp only at h
  split at h
  · obtain rfl := Option.some.inj h
    show wholeF (([true, false] ++ fl true m) ++ [false]) = false
    unfold wholeF
    rw [List.dropLast_concat]
    rfl
  · cases h
theorem valid_empty : validF (pairs 0 1 ++ [blN []]) = some 2 := by
  refine valid_last 1 _ fun st h => ?_
  have e : formF (blN []) ⟨fl false 1, sl 1⟩ = none := by
    unfold formF
    have : takeF (blN []).kids (fl false 1) = some (fl false 1) := rfl
    rw [this]
    simp only
    rw [if_neg]
    rintro ⟨_, _, h3⟩
    have : hasF (sl 1) (blN []) = false := by
      unfold hasF blN
      rw [if_neg (show ¬ (47 : Int) = 6 by decide), if_neg (show ¬ (47 : Int) = 21 by decide), if_neg (show ¬ (47 : Int) = 35 by decide)]; rfl
    rw [this] at h3
    cases h3
  rw [e] at h
  cases h
end Ax
end Go.Proofs.YtnjbhcjdlbmmhaaDoor
