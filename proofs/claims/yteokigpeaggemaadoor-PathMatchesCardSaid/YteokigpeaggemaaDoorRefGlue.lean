/- What smithyref1.glue answers: the texts with strokes between. Conditions: fewer than 2^31 bytes in all, fewer than 2^31 texts. -/
import Derived.Test.YteokigpeaggemaaDoorRefParts
import Derived.Test.YteokigpeaggemaaDoorAgainLaw
namespace Go.Proofs.YteokigpeaggemaaDoor
open Go.RowKit

theorem glueB_snoc (xs : List ByteArray) (k : Nat) (h : k < xs.length) : glueB (xs.take (k + 1)) = (if k = 0 then glueB (xs.take k) else glueB (xs.take k) ++ ⟨#[47]⟩) ++ xs[k] := by
  have hs : xs.take (k + 1) = xs.take k ++ [xs[k]] := List.take_succ_eq_append_getElem h
  apply ByteArray.ext
  apply Array.ext'
  rw [Joins.data_append, glueB_list, hs, List.map_append]
  by_cases h0 : k = 0
  · subst h0
    rw [if_pos rfl]
    show Stk.glue ([] ++ [_]) = _
    rw [List.nil_append, Stk.glue_one]; rfl
  · rw [if_neg h0, Joins.data_append, glueB_list]
    show Stk.glue (_ ++ [_]) = _
    rw [Stk.glue_snoc _ _ (by
      intro e
      have := congrArg List.length e
      rw [List.length_map, List.length_take, List.length_nil] at this; omega)]
    simp
theorem glue_take_le (l : List (List UInt8)) (k : Nat) : (Stk.glue (l.take k)).length ≤ (Stk.glue l).length := by
  by_cases h1 : l.take k = []
  · rw [h1]; simp [Stk.glue_nil]
  · by_cases h2 : l.drop k = []
    · have := List.take_append_drop k l
      rw [h2, List.append_nil] at this
      rw [this]; exact Nat.le_refl _
    · conv => rhs; rw [← List.take_append_drop k l]
      rw [Stk.glue_append _ _ h1 h2]; simp
theorem glueB_take_le (xs : List ByteArray) (k : Nat) : (glueB (xs.take k)).size ≤ (glueB xs).size := by
  rw [Lib.size_eq, Lib.size_eq, glueB_list, glueB_list, List.map_take]
  exact glue_take_le _ _
theorem glueB_room (xs : List ByteArray) (k : Nat) (h : k < xs.length) : (glueB (xs.take k)).size + (if k = 0 then 0 else 1) + xs[k].size ≤ (glueB xs).size := by
  have h1 := glueB_take_le xs (k + 1)
  rw [glueB_snoc xs k h] at h1
  rw [ByteArray.size_append] at h1
  split at h1
  · rw [if_pos (by assumption)]; omega
  · rw [if_neg (by assumption)]
    rw [ByteArray.size_append] at h1
    have : (⟨#[47]⟩ : ByteArray).size = 1 := rfl
    omega

set_option maxRecDepth 100000 in
set_option maxHeartbeats 400000 in
theorem glue_any (xs : List ByteArray) (bk o c : Nat) (w : World) (hn : xs.length < 2147483648) (hlen : (glueB xs).size < 2147483648) (hc : ∀ (j : Nat) (h : j < xs.length), w.cell? ⟨bk, o + j, none⟩ = some (.string xs[j])) :
    Calls Tryd.prog 39 #[.slice (some ⟨bk, o, none⟩) xs.length c] w fun e w' => e = .returned (.string (glueB xs)) ∧ w = w' := by
  have Hc := Lib.hid hc
  clear hc
  go_enter Tryd.func39, Tryd.ntmps39
  go_wp2
  go_loop [3, 4] (fun s i => ∃ k : Nat, k ≤ xs.length ∧ i = .int .i64 k ∧ s = .string (glueB (xs.take k))) (fun _ i => xs.length - (intOf i).toNat)
  case atStart => exact ⟨0, Nat.zero_le _, rfl, rfl⟩
  case round =>
    obtain ⟨k, hk, rfl, rfl⟩ := hrel
    by_cases hlt : k < xs.length
    · have hcell := Hc.out k hlt
      have Hs := Lib.hid (glueB_snoc xs k hlt)
      have hr := glueB_room xs k hlt
      generalize glueB (xs.take k) = G at hr Hs ⊢
      by_cases h0 : k = 0
      · rw [if_pos h0] at hr
        have Hs0 : Hid (glueB (xs.take (k + 1)) = G ++ xs[k]) := Lib.hid (by rw [Hs.out, if_pos h0])
        clear Hs
        subst h0
        rw [Nat.add_zero] at hcell
        go_wp2_with fail
        go_round
        case rel => exact ⟨1, by omega, by go_num, by rw [Hs0.out]⟩
        case measure => simp [intOf]; omega
      · rw [if_neg h0] at hr
        have h0' : 0 < k := by omega
        go_wp2_with fail
        go_round
        case rel => exact ⟨k + 1, by omega, by go_num, by rw [Hs.out, if_neg h0]⟩
        case measure => simp [intOf]; omega
    · obtain rfl : k = xs.length := by omega
      go_wp2_with fail
      go_ret
      exact ⟨rfl, rfl⟩
theorem glue_none (a : Option Addr) (c : Nat) (w : World) :
    Calls Tryd.prog 39 #[.slice a 0 c] w fun e w' => e = .returned (.string (glueB [])) ∧ w = w' := by
  go_enter Tryd.func39, Tryd.ntmps39
  go_wp2
  refine wp_loop_rounds 1 ?_
  rw [rounds_succ]
  go_wp2
  go_ret
  exact ⟨rfl, rfl⟩

end Go.Proofs.YteokigpeaggemaaDoor
