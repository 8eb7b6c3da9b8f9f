/- What path.isPartByte, isPatternPart and isPart answer, and what path.Dir, Base and Under answer, at every byte and every text. Conditions: a text of fewer than 2^32 bytes; internal/bytealg.MaxLen holds some number. -/
import Derived.Test.YtahaienalidiiaaDoorShelf
import Derived.Test.YtahaienalidiiaaDoorPlain
import Derived.WalkKit
import Derived.WalkSpells
import Derived.WalkLawsBesides
import Derived.Deep.QuietTactic
import Derived.BigQuiet
import Derived.Lib.Hide
namespace Go.Proofs.YtahaienalidiiaaDoor
open Go.RowKit

theorem ret_bool {a b : Bool} (h : a = b) : Ending.returned (.bool a) = .returned (.bool b) := by rw [h]

theorem byteOK_eq (b : UInt8) : Pth.byteOK b = (decide (48 ≤ (b.toNat : Int)) && decide ((b.toNat : Int) ≤ 57) || decide (65 ≤ (b.toNat : Int)) && decide ((b.toNat : Int) ≤ 90) || decide (97 ≤ (b.toNat : Int)) && decide ((b.toNat : Int) ≤ 122) ||
    decide (0 ≤ Lib.indexByte [33, 35, 37, 43, 44, 45, 46, 61, 64, 95, 126] ((b.toNat : Int).toNat.toUInt8))) := by
  have e : ((b.toNat : Int).toNat.toUInt8) = b := by simp
  rw [e]
  unfold Pth.byteOK
  have h (x y : UInt8) : decide (x ≤ y) = decide ((x.toNat : Int) ≤ (y.toNat : Int)) := by
    rw [Bool.eq_iff_iff]; simp [UInt8.le_iff_toNat_le]
  rw [h 48 b, h b 57, h 65 b, h b 90, h 97 b, h b 122]
  rfl

set_option maxHeartbeats 400000 in
theorem isPartByte_any (b : UInt8) (w : World) :
    Calls Tryd.prog 55 #[.int .u8 (b.toNat : Int)] w fun e w' => e = .returned (.bool (Pth.byteOK b)) ∧ w = w' := by
  go_enter Tryd.func55, Tryd.ntmps55
  go_wp2_with (go_at_call 72; refine (Tryd.strings_IndexByte _ _ _).mono ?_; rintro e w' ⟨rfl, rfl⟩)
  all_goals go_ret
  all_goals refine ⟨ret_bool ?_, rfl⟩
  all_goals rw [byteOK_eq]
  all_goals simp [*]
  all_goals omega

theorem ok_star {b : UInt8} (h : (b.toNat : Int) = 42) : (b == 42 || Pth.byteOK b) = true := by
  have : b = 42 := by
    apply UInt8.toNat_inj.1
    have : (42 : UInt8).toNat = 42 := rfl
    omega
  simp [this]
theorem ne_star {b : UInt8} (h : ¬ (b.toNat : Int) = 42) : (b == 42) = false := by
  rw [beq_eq_false_iff_ne]; intro e; subst e; exact h rfl
theorem bad_byte {b : UInt8} (h : ((b.toNat : Int) != 42) = true ∧ (!Pth.byteOK b) = true) : (b == 42 || Pth.byteOK b) = false := by
  rw [ne_star (by simpa using h.1)]; simpa using h.2
theorem ok_byte {b : UInt8} (h : ¬ (b.toNat : Int) = 42) (h2 : ((b.toNat : Int) != 42) = false ∨ (!Pth.byteOK b) = false) : (b == 42 || Pth.byteOK b) = true := by
  rcases h2 with e | e
  · exact absurd (by simpa using e) h
  · simp at e; simp [e]
def okTo (s : ByteArray) (k : Nat) : Prop := (s.data.toList.take k).all (fun b => b == 42 || Pth.byteOK b) = true
theorem okTo_zero (s : ByteArray) : okTo s 0 := by simp [okTo]
theorem take_snoc (s : ByteArray) (k : Nat) (h : k < s.size) : s.data.toList.take (k + 1) = s.data.toList.take k ++ [s[k]] := by
  rw [List.take_succ_eq_append_getElem (by simpa using h)]; rfl
theorem okTo_succ (s : ByteArray) (k : Nat) (h : k < s.size) (h1 : okTo s k) (h2 : (s[k] == 42 || Pth.byteOK s[k]) = true) : okTo s (k + 1) := by
  unfold okTo at *
  rw [take_snoc s k h, List.all_append, h1]
  simp [h2]
theorem okTo_all (s : ByteArray) (h : okTo s s.size) : s.data.toList.all (fun b => b == 42 || Pth.byteOK b) = true := by
  unfold okTo at h
  rwa [List.take_of_length_le (by simp)] at h
theorem not_ok (s : ByteArray) (k : Nat) (h : k < s.size) (h2 : (s[k] == 42 || Pth.byteOK s[k]) = false) : Pth.patOK s.data.toList = false := by
  have : s.data.toList.all (fun b => b == 42 || Pth.byteOK b) = false := by
    rw [List.all_eq_false]
    exact ⟨s[k], by simp [ByteArray.getElem_eq_getElem_data], by simpa using h2⟩
  unfold Pth.patOK
  rw [this]
  simp

set_option maxHeartbeats 400000 in
theorem isPatternPart_any (s : ByteArray) (m : Int) (w : World) (hs : s.size < 4294967281) (hm : w.cell? ⟨3, 0, none⟩ = some (.int .i64 m)) :
    Calls Tryd.prog 46 #[.string s] w fun e w' => e = .returned (.bool (Pth.patOK s.data.toList)) ∧ w = w' := by
  have ed := Lib.toList_data s
  have Hm := Lib.hid hm
  clear hm
  by_cases hbad : s.toList = [] ∨ s.toList = [46] ∨ s.toList = [46, 46]
  · have hr : Pth.patOK s.data.toList = false := by
      rw [← ed]
      rcases hbad with h | h | h <;> rw [h] <;> rfl
    rw [hr]
    clear hr ed
    rcases hbad with h | h | h
    all_goals
      go_enter Tryd.func46, Tryd.ntmps46
      go_wp2
      go_ret
      exact ⟨rfl, rfl⟩
  · have h0 : s.toList.isEmpty = false := by
      cases e : s.toList with
      | nil => exact absurd (.inl e) hbad
      | cons => rfl
    have h1 : (s.toList == [46]) = false := by
      rw [beq_eq_false_iff_ne]; exact fun e => hbad (.inr (.inl e))
    have h2 : (s.toList == [46, 46]) = false := by
      rw [beq_eq_false_iff_ne]; exact fun e => hbad (.inr (.inr e))
    have H : Hid (Pth.patOK s.data.toList = (s.data.toList.all (fun b => b == 42 || Pth.byteOK b) && (s.data.toList == [42, 42] || !Lib.contains s.data.toList [42, 42]))) := by
      have a0 : (s.data.toList == []) = false := by rw [← ed]; cases e : s.toList with
        | nil => exact absurd (.inl e) hbad
        | cons => rfl
      have a1 := h1
      have a2 := h2
      rw [ed] at a1 a2
      apply Lib.hid
      unfold Pth.patOK
      rw [a0, a1, a2]
      simp
    clear hbad ed
    go_enter Tryd.func46, Tryd.ntmps46
    go_wp2
    go_loop [16] (fun i => ∃ k : Nat, k ≤ s.size ∧ i = .int .i64 k ∧ okTo s k) (fun i => s.size - (intOf i).toNat)
    case atStart => exact ⟨0, Nat.zero_le _, rfl, okTo_zero s⟩
    case round =>
      obtain ⟨k, hk, rfl, hok⟩ := hrel
      by_cases hlt : k < s.size
      · go_wp2_with (go_at_call 55; refine (isPartByte_any _ _).mono ?_; rintro e w' ⟨rfl, rfl⟩)
        · go_round
          case rel => exact ⟨k + 1, by omega, by go_num, okTo_succ s k hlt hok (ok_star ‹_›)⟩
          case measure => simp [intOf]; omega
        · go_ret
          exact ⟨ret_bool (not_ok s k hlt (bad_byte ‹_›)).symm, rfl⟩
        · go_round
          case rel => exact ⟨k + 1, by omega, by go_num, okTo_succ s k hlt hok (ok_byte ‹_› ‹_›)⟩
          case measure => simp [intOf]; omega
      · obtain rfl : k = s.size := by omega
        have hall := Lib.hid (okTo_all s hok)
        clear hok
        have hm := Hm.out
        go_wp2_with (go_at_call 45; refine (Tryd.strings_Contains _ _ _ _ hs hm).mono ?_; rintro e w' ⟨rfl, rfl⟩)
        · go_ret
          exact ⟨ret_bool (by rw [H.out, hall.out, ← Lib.toList_data]; simp [*]), rfl⟩
        · go_ret
          exact ⟨ret_bool (by rw [H.out, hall.out, ← Lib.toList_data]; simp [*]), rfl⟩

set_option maxHeartbeats 400000 in
theorem isPart_any (s : ByteArray) (m : Int) (w : World) (hs : s.size < 4294967281) (hm : w.cell? ⟨3, 0, none⟩ = some (.int .i64 m)) :
    Calls Tryd.prog 34 #[.string s] w fun e w' => e = .returned (.bool (Pth.partOK s.data.toList)) ∧ w = w' := by
  have Hm := Lib.hid hm
  clear hm
  cases hc : decide (0 ≤ Lib.indexByte s.data.toList 42)
  · have H : Hid (Pth.partOK s.data.toList = Pth.patOK s.data.toList) := by unfold Pth.partOK; rw [hc]; exact Bool.true_and _
    go_enter Tryd.func34, Tryd.ntmps34
    go_wp2_with (first | (go_at_call 45; refine (Tryd.strings_Contains_one _ _ _).mono ?_; rintro e w' ⟨rfl, rfl⟩) | (go_at_call 46; refine (isPatternPart_any _ _ _ hs Hm.out).mono ?_; rintro e w' ⟨rfl, rfl⟩))
    go_ret
    exact ⟨ret_bool H.out.symm, rfl⟩
  · have H : Hid (Pth.partOK s.data.toList = false) := by unfold Pth.partOK; rw [hc]; rfl
    go_enter Tryd.func34, Tryd.ntmps34
    go_wp2_with (first | (go_at_call 45; refine (Tryd.strings_Contains_one _ _ _).mono ?_; rintro e w' ⟨rfl, rfl⟩) | (go_at_call 46; refine (isPatternPart_any _ _ _ hs Hm.out).mono ?_; rintro e w' ⟨rfl, rfl⟩))
    go_ret
    exact ⟨ret_bool H.out.symm, rfl⟩

end Go.Proofs.YtahaienalidiiaaDoor
