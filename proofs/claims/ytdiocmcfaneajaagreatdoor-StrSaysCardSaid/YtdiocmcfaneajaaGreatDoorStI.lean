/- What IsDigits answers. Conditions: a text of at most 100000 bytes. -/
import Derived.Test.YtdiocmcfaneajaaGreatDoorStP
namespace Go.Proofs.YtdiocmcfaneajaaGreatDoor
open Go.RowKit
namespace St

def digB (c : UInt8) : Bool := decide (48 ≤ c.toNat ∧ c.toNat ≤ 57)
def isDigF (s : L) : Bool := s.all digB && !s.isEmpty
set_option maxRecDepth 100000 in
set_option maxHeartbeats 1600000 in
theorem isDigits_any (s : ByteArray) (w : World) (hs : s.size ≤ 100000) :
    Calls Tryz.prog 30 #[.string s] w fun e w' => e = .returned (.bool (isDigF s.data.toList)) ∧ w' = w := by
  go_enter Tryz.func30, Tryz.ntmps30
  go_wp2
  go_loop [6] (fun i => ∃ k : Nat, k ≤ s.size ∧ i = .int .i64 k ∧ Hid ((s.data.toList.take k).all digB = true)) (fun i => s.size - (intOf i).toNat)
  case atStart => exact ⟨0, Nat.zero_le _, rfl, hidden rfl⟩
  case round =>
    obtain ⟨k, hk, rfl, hall⟩ := hrel
    by_cases hlt : k < s.size
    · have hix := idx_at s k hlt
      have hlt' : k < s.data.toList.length := by rw [size_data]; exact hlt
      have hts : s.data.toList.take (k + 1) = s.data.toList.take k ++ [s[k]] := List.take_succ_eq_append_getElem hlt'
      have hmem : s[k] ∈ s.data.toList := List.getElem_mem hlt'
      obtain ⟨c, hc⟩ : ∃ c, s[k] = c := ⟨_, rfl⟩
      rw [hc] at hix hts hmem
      obtain ⟨z, hz⟩ : ∃ z, c.toNat = z := ⟨_, rfl⟩
      have hd : digB c = decide (48 ≤ z ∧ z ≤ 57) := by rw [← hz]; rfl
      rw [hz] at hix
      have HTS := hidden hts
      have HD := hidden hd
      have HM := hidden hmem
      clear hc hts hlt' hd hmem hz
      by_cases h1 : 48 ≤ z ∧ z ≤ 57
      · obtain ⟨h2, h3⟩ := h1
        have R1 : Hid ((s.data.toList.take (k + 1)).all digB = true) := hidden (by
          rw [HTS.out, List.all_append, hall.out, List.all_cons, HD.out, decide_eq_true ⟨h2, h3⟩]; rfl)
        go_wp2
        go_round
        case rel => exact ⟨k + 1, by omega, by go_num, R1⟩
        case measure => simp [intOf]; omega
      · have hF : Hid (isDigF s.data.toList = false) := hidden (by
          unfold isDigF
          have : s.data.toList.all digB = false := by
            rw [← Bool.not_eq_true, List.all_eq_true]
            intro h
            have := h c HM.out
            rw [HD.out, decide_eq_false h1] at this
            cases this
          rw [this]; rfl)
        have h4 : z < 48 ∨ (48 ≤ z ∧ 57 < z) := by omega
        clear h1
        rcases h4 with h4 | ⟨h4, h5⟩ <;>
        · go_wp2
          go_ret
          exact ⟨ret_bool hF.out.symm, rfl⟩
    · have ha : Hid (s.data.toList.all digB = true) := hidden (by
        have := hall.out
        rwa [List.take_of_length_le (by rw [size_data]; omega)] at this)
      by_cases h0 : s.size = 0
      · obtain rfl := text_nil h0
        go_wp2
        go_ret
        exact ⟨ret_bool rfl, rfl⟩
      · have hne := text_ne s (by omega)
        have hF : Hid (isDigF s.data.toList = true) := hidden (by
          unfold isDigF
          rw [ha.out]
          cases e : s.data.toList with
          | nil =>
            have := size_data s
            rw [e] at this
            simp at this
            omega
          | cons c t => rfl)
        go_wp2
        go_ret
        exact ⟨ret_bool hF.out.symm, rfl⟩
end St
end Go.Proofs.YtdiocmcfaneajaaGreatDoor
