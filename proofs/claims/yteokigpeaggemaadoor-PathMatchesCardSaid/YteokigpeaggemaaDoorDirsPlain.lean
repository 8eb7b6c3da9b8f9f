/- Plain facts on a path's directories: what is cut off at the last stroke, and what lies under what. Conditions: none. -/
import Derived.Test.YteokigpeaggemaaDoorPartA
namespace Go.Proofs.YteokigpeaggemaaDoor
namespace Drs

/-- How many strokes the first e bytes have. -/
def cnt (p : ByteArray) (e : Nat) : Nat := (p.data.toList.take e).count 47
theorem cnt_zero (p : ByteArray) : cnt p 0 = 0 := by simp [cnt]
theorem cnt_le (p : ByteArray) (k : Nat) : cnt p k ≤ k := by
  unfold cnt; exact Nat.le_trans List.count_le_length (by simp; omega)
theorem cnt_hit (p : ByteArray) (k : Nat) (h : k < p.size) (hb : p[k] = 47) : cnt p (k + 1) = cnt p k + 1 := by
  unfold cnt; rw [take_snoc p k h, List.count_append, hb]; rfl
theorem cnt_miss (p : ByteArray) (k : Nat) (h : k < p.size) (hb : p[k] ≠ 47) : cnt p (k + 1) = cnt p k := by
  unfold cnt; rw [take_snoc p k h, List.count_append]
  simp [hb]
theorem cnt_none (p : ByteArray) (e f : Nat) (hf : f ≤ e) (he : e ≤ p.size) (h : ∀ j (hj : j < e), f ≤ j → p[j]'(by omega) ≠ 47) : cnt p e = cnt p f := by
  induction e with
  | zero => obtain rfl : f = 0 := by omega
            rfl
  | succ e ih =>
    by_cases e1 : f = e + 1
    · subst e1; rfl
    · rw [cnt_miss p e (by omega) (h e (by omega) (by omega)), ih (by omega) (by omega) (fun j hj hfj => h j (by omega) hfj)]
theorem at_data (p : ByteArray) (e j : Nat) (he : e ≤ p.size) (hj : j < e) : ((p.extract 0 e).data[j]!).toNat = (p[j]'(by omega)).toNat := by
  have h : j < (p.extract 0 e).data.size := by
    show j < (p.extract 0 e).size
    rw [ByteArray.size_extract]; omega
  rw [getElem!_pos (p.extract 0 e).data j h]
  simp [ByteArray.getElem_eq_getElem_data]
theorem cut_size (p : ByteArray) (e : Nat) (he : e ≤ p.size) : (p.extract 0 e).size = e := by rw [ByteArray.size_extract]; omega
theorem dirN_cut (p : ByteArray) (e : Nat) (he : e ≤ p.size) :
    (dirN (p.extract 0 e) = 0 ∧ cnt p e = 0) ∨ (∃ h : dirN (p.extract 0 e) < e, p[dirN (p.extract 0 e)]'(by omega) = 47 ∧ cnt p e = cnt p (dirN (p.extract 0 e)) + 1) := by
  have hs := cut_size p e he
  rcases Lib.lastIndexByte_spec (p.extract 0 e) 47 with ⟨h, hn⟩ | ⟨i, hi, h, hc, hn⟩
  · left
    refine ⟨by unfold dirN; rw [h]; rfl, ?_⟩
    rw [cnt_none p e 0 (Nat.zero_le _) he (fun j hj _ e1 => hn j (by omega) (by rw [at_data p e j he hj, e1]; rfl)), cnt_zero]
  · right
    have hd : dirN (p.extract 0 e) = i := by unfold dirN; rw [h]; rfl
    rw [hs] at hi
    have hb : p[i]'(by omega) = 47 := by
      rw [at_data p e i he hi] at hc
      apply UInt8.toNat_inj.1
      have : (47 : UInt8).toNat = 47 := rfl
      omega
    simp only [hd]
    refine ⟨hi, hb, ?_⟩
    rw [cnt_none p e (i + 1) (by omega) he (fun j hj hij e1 => hn j (by omega) (by omega) (by rw [at_data p e j he hj, e1]; rfl)), cnt_hit p i (by omega) hb]
theorem dirN_some (p : ByteArray) (e : Nat) (he : e ≤ p.size) : ∃ f, f = dirN (p.extract 0 e) ∧ ((f = 0 ∧ cnt p e = 0) ∨ (∃ h : f < e, p[f]'(by omega) = 47 ∧ cnt p e = cnt p f + 1)) :=
  ⟨_, rfl, dirN_cut p e he⟩
theorem cut_cut (p : ByteArray) (e f : Nat) (hf : f ≤ e) : (p.extract 0 e).extract 0 f = p.extract 0 f := by
  apply ByteArray.ext
  apply Array.ext'
  show ((p.extract 0 e).extract 0 f).data.toList = (p.extract 0 f).data.toList
  rw [Lib.extract_from_zero, Lib.extract_from_zero, Lib.extract_from_zero, List.take_take, Nat.min_eq_left hf]
theorem cut_empty (p : ByteArray) (e : Nat) (he : e ≤ p.size) : (p.extract 0 e).toList.isEmpty = decide (e = 0) := by
  rw [Lib.toList_data, Lib.extract_from_zero, Bool.eq_iff_iff, List.isEmpty_iff, decide_eq_true_eq, ← List.length_eq_zero_iff, List.length_take]
  have := Lib.size_eq p
  omega
theorem under_up (p : ByteArray) (f : Nat) (hp : 0 < p.size) (hf : f = 0 ∨ ∃ h : f < p.size, p[f] = 47) : underB p (p.extract 0 f) = true := by
  have hfs : f ≤ p.size := by
    rcases hf with h | ⟨h, _⟩ <;> omega
  unfold underB
  rw [cut_empty p f hfs]
  by_cases h0 : f = 0
  · subst h0
    rw [decide_eq_true rfl, if_pos rfl]
    cases e : p.toList with
    | nil => rw [Lib.toList_data] at e; have := Lib.size_eq p; rw [e, List.length_nil] at this; omega
    | cons => rfl
  · rcases hf with h | ⟨h, hb⟩
    · exact absurd h h0
    · rw [decide_eq_false h0, if_neg (by simp), Lib.extract_from_zero]
      have hl := Lib.size_eq p
      have h1 : Lib.hasPrefix p.data.toList (p.data.toList.take f) = true := by
        unfold Lib.hasPrefix; rw [List.isPrefixOf_iff_prefix]; exact List.take_prefix _ _
      rw [h1]
      have h2 : Lib.trimPrefix p.data.toList (p.data.toList.take f) = p.data.toList.drop f := by
        unfold Lib.trimPrefix; rw [h1, if_pos rfl, List.length_take, Nat.min_eq_left (by omega)]
      rw [h2, List.drop_eq_getElem_cons (by omega)]
      have h3 : p.data.toList[f]'(by omega) = 47 := hb
      rw [h3]
      simp [Lib.hasPrefix, List.isPrefixOf]
theorem not_under (p : ByteArray) (e f : Nat) (he : e ≤ p.size) (hf : f < e ∨ (f = 0 ∧ e = 0)) : underB (p.extract 0 f) (p.extract 0 e) = false := by
  unfold underB
  rw [cut_empty p e he]
  rcases hf with h | ⟨rfl, rfl⟩
  · rw [decide_eq_false (by omega), if_neg (by simp)]
    have h1 : Lib.hasPrefix (p.extract 0 f).data.toList (p.extract 0 e).data.toList = false := by
      unfold Lib.hasPrefix
      rw [Bool.eq_false_iff]
      intro hp
      have := (List.isPrefixOf_iff_prefix.1 hp).length_le
      rw [← Lib.size_eq, ← Lib.size_eq, cut_size p e he, cut_size p f (by omega)] at this
      omega
    rw [h1]; rfl
  · rw [decide_eq_true rfl, if_pos rfl, cut_empty p 0 he]; rfl

end Drs
end Go.Proofs.YteokigpeaggemaaDoor
