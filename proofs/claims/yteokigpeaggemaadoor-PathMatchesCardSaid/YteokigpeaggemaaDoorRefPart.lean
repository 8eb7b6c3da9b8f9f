/- What smithyref1.part answers: is a text a part, with stars or without? Condition: a text of fewer than 2^32 bytes. -/
import Derived.Test.YteokigpeaggemaaDoorRefLetter
import Derived.Lib.IndexAny
namespace Go.Proofs.YteokigpeaggemaaDoor
open Go.RowKit

def signOK (star : Bool) (b : UInt8) : Bool := Pth.byteOK b || (star && b == 42)
def refPart (star : Bool) (l : List UInt8) : Bool := l.all (signOK star) && !(l == [] || l == [46] || l == [46, 46])
def signTo (star : Bool) (s : ByteArray) (k : Nat) : Prop := (s.data.toList.take k).all (signOK star) = true
theorem signTo_zero (star : Bool) (s : ByteArray) : signTo star s 0 := by simp [signTo]
theorem signTo_succ {star : Bool} {s : ByteArray} {k : Nat} (h : k < s.size) (h1 : signTo star s k) (h2 : signOK star s[k] = true) : signTo star s (k + 1) := by
  unfold signTo at *
  rw [take_snoc s k h, List.all_append, h1]
  simp [h2]
theorem signTo_all {star : Bool} {s : ByteArray} (h : signTo star s s.size) : s.data.toList.all (signOK star) = true := by
  unfold signTo at h
  rwa [List.take_of_length_le (by rw [← Lib.size_eq]; exact Nat.le_refl _)] at h
theorem sign_bad {star : Bool} {s : ByteArray} {k : Nat} (h : k < s.size) (h2 : signOK star s[k] = false) : refPart star s.data.toList = false := by
  have : s.data.toList.all (signOK star) = false := by
    rw [List.all_eq_false]
    exact ⟨s[k], by rw [show s[k] = s.data.toList[k]'(by rw [← Lib.size_eq]; exact h) from rfl]; exact List.getElem_mem _, by simp [h2]⟩
  unfold refPart; rw [this, Bool.false_and]
theorem sign_end {star : Bool} {s : ByteArray} (h : signTo star s s.size) : refPart star s.data.toList = (!(s.toList == [] || s.toList == [46] || s.toList == [46, 46])) := by
  unfold refPart; rw [signTo_all h, Bool.true_and, Lib.toList_data]

set_option maxRecDepth 100000 in
set_option maxHeartbeats 4000000 in
theorem part_any (s : ByteArray) (star : Bool) (w : World) (hs : s.size < 4294967281) :
    Calls Tryd.prog 38 #[.string s, .bool star] w fun e w' => e = .returned (.bool (refPart star s.data.toList)) ∧ w = w' := by
  have HL := Lib.hid (fun b => letter_any b w)
  go_enter Tryd.func38, Tryd.ntmps38
  go_wp2
  go_loop [5] (fun i => ∃ k : Nat, k ≤ s.size ∧ i = .int .i64 k ∧ Hid (signTo star s k)) (fun i => s.size - (intOf i).toNat)
  case atStart => exact ⟨0, Nat.zero_le _, rfl, Lib.hid (signTo_zero _ _)⟩
  case round =>
    obtain ⟨k, hk, rfl, hto⟩ := hrel
    by_cases hlt : k < s.size
    · have HL1 := Lib.hid (HL.out s[k])
      cases hb : Pth.byteOK s[k] with
      | true =>
        have H : Hid (signTo star s (k + 1)) := Lib.hid (signTo_succ hlt hto.out (by unfold signOK; rw [hb]; rfl))
        rw [hb] at HL1
        clear hto hb
        go_wp2_with fail
        refine HL1.out.mono ?_
        rintro e w' ⟨rfl, rfl⟩
        go_wp2
        go_round
        case rel => exact ⟨k + 1, by omega, by go_num, H⟩
        case measure => simp [intOf]; omega
      | false =>
        rw [hb] at HL1
        cases star with
        | false =>
          have H : Hid (refPart false s.data.toList = false) := Lib.hid (sign_bad hlt (by unfold signOK; rw [hb]; rfl))
          clear hto hb
          go_wp2_with fail
          refine HL1.out.mono ?_
          rintro e w' ⟨rfl, rfl⟩
          go_wp2
          go_ret
          exact ⟨ret_bool H.out.symm, rfl⟩
        | true =>
          by_cases h42 : (s[k].toNat : Int) = 42
          · have H : Hid (signTo true s (k + 1)) := Lib.hid (signTo_succ hlt hto.out (by
              unfold signOK
              have : s[k] = 42 := by apply UInt8.toNat_inj.1; have c : (42 : UInt8).toNat = 42 := rfl; omega
              rw [this]; decide))
            have H42 := Lib.hid h42
            clear hto hb h42
            go_wp2_with fail
            refine HL1.out.mono ?_
            rintro e w' ⟨rfl, rfl⟩
            have h42 := H42.out
            go_wp2
            go_round
            case rel => exact ⟨k + 1, by omega, by go_num, H⟩
            case measure => simp [intOf]; omega
          · have H : Hid (refPart true s.data.toList = false) := Lib.hid (sign_bad hlt (by
              unfold signOK
              rw [hb, ne_star h42]; rfl))
            have H42 : Hid (((s[k].toNat : Int) == 42) = false) := Lib.hid (by rw [beq_eq_false_iff_ne]; exact h42)
            clear hto hb
            go_wp2_with fail
            refine HL1.out.mono ?_
            rintro e w' ⟨rfl, rfl⟩
            have h42b := H42.out
            go_wp2
            go_ret
            exact ⟨ret_bool H.out.symm, rfl⟩
    · obtain rfl : k = s.size := by omega
      have H := Lib.hid (sign_end hto.out)
      clear hto
      go_wp2
      all_goals go_ret
      all_goals refine ⟨ret_bool ?_, rfl⟩
      all_goals rw [H.out]
      all_goals simp [*]

theorem contains_cons (b : UInt8) (l sub : List UInt8) : Lib.contains (b :: l) sub = (sub.isPrefixOf (b :: l) || Lib.contains l sub) := by
  unfold Lib.contains
  rw [Lib.index]
  by_cases h : sub.isPrefixOf (b :: l) = true
  · rw [if_pos h, h]; rfl
  · rw [if_neg h]
    have hg := Lib.index_ge l sub
    have hf : sub.isPrefixOf (b :: l) = false := Bool.eq_false_iff.2 h
    rw [hf, Bool.false_or]
    by_cases e : Lib.index l sub = -1
    · rw [if_pos (by simpa using e), e]
    · rw [if_neg (by simpa using e)]
      rw [Bool.eq_iff_iff, decide_eq_true_eq, decide_eq_true_eq]
      omega
theorem no_pair {l : List UInt8} (h : ∀ b ∈ l, b ≠ 42) : Lib.contains l [42, 42] = false := by
  induction l with
  | nil => decide
  | cons b l ih =>
    rw [contains_cons, ih (fun x hx => h x (by simp [hx])), Bool.or_false]
    have hb : ¬ (42 : UInt8) = b := fun e => h b (by simp) e.symm
    simp [List.isPrefixOf, hb]
theorem refPart_false (l : List UInt8) : refPart false l = Pth.partOK l := by
  unfold refPart Pth.partOK Pth.patOK
  have h1 : signOK false = Pth.byteOK := by funext b; unfold signOK; simp
  rw [h1, ← Lib.contains_iff_indexByte]
  by_cases h : l.all Pth.byteOK = true
  · have hne : ∀ b ∈ l, b ≠ 42 := by
      rintro b hb rfl
      have := List.all_eq_true.1 h 42 hb
      revert this; decide
    have hc : l.contains 42 = false := by
      rw [Bool.eq_false_iff]
      intro hx
      exact hne 42 (by simpa using hx) rfl
    have ha : l.all (fun b => b == 42 || Pth.byteOK b) = true := by
      rw [List.all_eq_true]
      intro b hb
      rw [List.all_eq_true.1 h b hb, Bool.or_true]
    rw [h, hc, ha, no_pair hne]
    simp
  · have hf : l.all Pth.byteOK = false := by simpa using h
    rw [hf, Bool.false_and]
    by_cases hc : l.contains 42 = true
    · rw [hc]; rfl
    · have ha : l.all (fun b => b == 42 || Pth.byteOK b) = false := by
        rw [List.all_eq_false] at hf ⊢
        obtain ⟨b, hb, hk⟩ := hf
        refine ⟨b, hb, ?_⟩
        have : b ≠ 42 := by rintro rfl; exact hc (by simpa using hb)
        simp [this, hk]
      rw [ha]; simp

end Go.Proofs.YteokigpeaggemaaDoor
