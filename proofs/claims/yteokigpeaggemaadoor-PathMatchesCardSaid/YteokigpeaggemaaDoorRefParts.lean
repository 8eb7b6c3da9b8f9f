/- What smithyref1.Parts answers: a text's parts, in new memory. Condition: a text of fewer than 2^31 bytes. -/
import Derived.Test.YteokigpeaggemaaDoorRefKit
namespace Go.Proofs.YteokigpeaggemaaDoor
open Go.RowKit

/-- Between two rounds: k bytes looked at, the part under way begins at f. -/
structure PInv (l : List UInt8) (k f : Nat) (acc : List (List UInt8)) : Prop where
  le : f ≤ k ∧ k ≤ l.length
  parts : Pth.parts l = acc ++ Pth.parts (l.drop f)
  none : ∀ j (h : j < l.length), f ≤ j → j < k → l[j] ≠ 47
  count : acc.length ≤ f
theorem PInv.start (l : List UInt8) : PInv l 0 0 [] := ⟨⟨Nat.le_refl _, Nat.zero_le _⟩, by simp, fun j _ _ h => absurd h (by omega), Nat.le_refl _⟩
theorem PInv.miss {l : List UInt8} {k f : Nat} {acc : List (List UInt8)} (h : PInv l k f acc) (hk : k < l.length) (hb : l[k] ≠ 47) : PInv l (k + 1) f acc :=
  ⟨⟨by have := h.le; omega, by omega⟩, h.parts, fun j hj hf hjk => by
    by_cases e : j = k
    · subst e; exact hb
    · exact h.none j hj hf (by omega), h.count⟩
theorem PInv.cut {l : List UInt8} {k f : Nat} {acc : List (List UInt8)} (h : PInv l k f acc) : ∀ b ∈ (l.drop f).take (k - f), b ≠ 47 := by
  rintro b hb rfl
  obtain ⟨j, hj, e⟩ := List.mem_iff_getElem.1 hb
  have h1 := h.le
  rw [List.length_take, List.length_drop] at hj
  rw [List.getElem_take, List.getElem_drop] at e
  exact h.none (f + j) (by omega) (by omega) (by omega) e
theorem PInv.hit {l : List UInt8} {k f : Nat} {acc : List (List UInt8)} (h : PInv l k f acc) (hk : k < l.length) (hb : l[k] = 47) : PInv l (k + 1) (k + 1) (acc ++ [(l.drop f).take (k - f)]) := by
  have h1 := h.le
  have h2 := h.count
  refine ⟨⟨Nat.le_refl _, by omega⟩, ?_, fun j _ a b => absurd a (by omega), by simp; omega⟩
  have hs : l.drop f = (l.drop f).take (k - f) ++ 47 :: l.drop (k + 1) := by
    conv => lhs; rw [← List.take_append_drop (k - f) (l.drop f)]
    rw [List.drop_drop, show f + (k - f) = k from by omega, List.drop_eq_getElem_cons hk, hb]
  have hp : Pth.parts (l.drop f) = [(l.drop f).take (k - f)] ++ Pth.parts (l.drop (k + 1)) := by
    conv => lhs; rw [hs]
    rw [Stars.parts_append, Stars.parts_plain _ h.cut]
  rw [h.parts, hp, List.append_assoc]
theorem PInv.end_ {l : List UInt8} {f : Nat} {acc : List (List UInt8)} (h : PInv l l.length f acc) : Pth.parts l = acc ++ [(l.drop f).take (l.length - f)] := by
  have h1 : (l.drop f).take (l.length - f) = l.drop f := List.take_of_length_le (by simp)
  rw [h.parts]
  have := h.cut
  rw [h1] at this ⊢
  rw [Stars.parts_plain _ this]
theorem extract_list (s : ByteArray) (f k : Nat) : (s.extract f k).data.toList = (s.data.toList.drop f).take (k - f) := by
  simp

set_option maxHeartbeats 400000 in
set_option maxRecDepth 100000 in
theorem Parts_any (s : ByteArray) (w : World) (hs : s.size < 2147483648) :
    Calls Tryd.prog 37 #[.string s] w fun e w' => ∃ g cap, e = .returned (.slice (some ⟨g, 0, none⟩) (Pth.parts s.data.toList).length cap) ∧
      w'.ownsRow w.heap.size 9 1 (.slice (some ⟨g, 0, none⟩) (Pth.parts s.data.toList).length cap) (Pth.parts s.data.toList).length (textsV (Pth.parts s.data.toList)) ∧ Below w.heap.size w w' := by
  obtain ⟨i0, hi, hz0, hz1, hz2⟩ := info_parts info_string
  have Hz := Lib.hid (Lib.size_eq s)
  go_enter Tryd.func37, Tryd.ntmps37
  go_wp2
  go_loopw [3, 4, 5] (fun v fr i wr => (∃ k f : Nat, ∃ acc, i = .int .i64 k ∧ fr = .int .i64 f ∧ Hid (PInv s.data.toList k f acc) ∧ k ≤ s.size ∧ acc.length ≤ f ∧ f ≤ k ∧ wr.ownsRow w.heap.size 9 1 v acc.length (textsV acc) ∧ Below w.heap.size w wr ∧ w.heap.size ≤ wr.heap.size) ∨
      (∃ g cap, i = .int .i64 ((s.size + 1 : Nat) : Int) ∧ v = .slice (some ⟨g, 0, none⟩) (Pth.parts s.data.toList).length cap ∧ wr.ownsRow w.heap.size 9 1 v (Pth.parts s.data.toList).length (textsV (Pth.parts s.data.toList)) ∧ Below w.heap.size w wr)) (fun _ _ i _ => s.size + 1 - (intOf i).toNat)
  case atStart => exact .inl ⟨0, 0, [], rfl, rfl, Lib.hid (PInv.start _), Nat.zero_le _, Nat.le_refl _, Nat.le_refl _, World.ownsRow_nil _ _ _ _, Below.refl _ _, Nat.le_refl _⟩
  case round =>
    rcases hrel with ⟨k, f, acc, rfl, rfl, hP, hk, hacc, hfk, hown, hb, hsz⟩ | ⟨g, cap, rfl, rfl, hown, hb⟩
    · by_cases hlt : k < s.size
      · by_cases h47 : (s[k].toNat : Int) = 47
        · have hP2 : Hid (PInv s.data.toList (k + 1) (k + 1) (acc ++ [(s.extract f k).data.toList])) := Lib.hid (by
            have hz := Hz.out
            rw [extract_list]
            refine hP.out.hit (by omega) ?_
            apply UInt8.toNat_inj.1
            have c : (47 : UInt8).toNat = 47 := rfl
            have : (s.data.toList[k]'(by omega)) = s[k] := rfl
            rw [this]; omega)
          go_wp2_with (at_builtin; refine append_one wr rfl (.tmp 22) (.tmp 27) 22 rfl w.heap.size 9 i0 (.string ⟨#[]⟩) 16 Tryd.underlying22 hi hz0 hz1 hz2 rfl _ _ _ rfl hown (.string (s.extract f k)) rfl rfl rfl (by omega) (by unfold maxLen; omega) hsz w.heap.size w hb (Nat.le_refl _) ?_; intro g2 cap2 w2 hown2 hb2 hsz2)
          go_roundw
          case rel => exact .inl ⟨k + 1, k + 1, acc ++ [(s.extract f k).data.toList], by go_num, by go_num, hP2, by omega, by simp; omega, Nat.le_refl _, by rw [← textsV_snoc, List.length_append]; exact hown2, hb2, hsz2⟩
          case measure => simp [intOf]; omega
        · have hP2 : Hid (PInv s.data.toList (k + 1) f acc) := Lib.hid (hP.out.miss (by have := Hz.out; omega) (by
            have hz := Hz.out
            intro e
            have : (s.data.toList[k]'(by omega)) = s[k] := rfl
            rw [this] at e
            rw [e] at h47; exact h47 rfl))
          have hor : (((k : Int) == (s.size : Int)) || ((s[k].toNat : Int) == 47)) = false := by
            rw [Bool.or_eq_false_iff, beq_eq_false_iff_ne, beq_eq_false_iff_ne]
            exact ⟨by omega, h47⟩
          go_wp2_with fail
          go_roundw
          case rel => exact .inl ⟨k + 1, f, acc, by go_num, rfl, hP2, by omega, hacc, by omega, hown, hb, hsz⟩
          case measure => simp [intOf]; omega
      · obtain rfl : k = s.size := by omega
        have hP2 : Hid (Pth.parts s.data.toList = acc ++ [(s.extract f s.size).data.toList]) := Lib.hid (by
          have hz := Hz.out
          have := hP.out
          rw [hz] at this
          rw [extract_list, this.end_, ← hz])
        clear hP
        go_wp2_with (at_builtin; refine append_one wr rfl (.tmp 22) (.tmp 27) 22 rfl w.heap.size 9 i0 (.string ⟨#[]⟩) 16 Tryd.underlying22 hi hz0 hz1 hz2 rfl _ _ _ rfl hown (.string (s.extract f s.size)) rfl rfl rfl (by omega) (by unfold maxLen; omega) hsz w.heap.size w hb (Nat.le_refl _) ?_; intro g2 cap2 w2 hown2 hb2 hsz2)
        go_roundw
        case rel => exact .inr ⟨g2, cap2, by go_num, by rw [hP2.out, List.length_append]; rfl, by rw [hP2.out, ← textsV_snoc, List.length_append]; exact hown2, hb2⟩
        case measure => simp [intOf]
    · go_wp2_with fail
      go_ret
      exact ⟨g, cap, rfl, hown, hb⟩

end Go.Proofs.YteokigpeaggemaaDoor
