/- Parts of the proof, together. What signOf answers. Conditions: short texts. -/
import Derived.Test.YtaafhldcdkbnkaaGreatDoorQpay
namespace Go.Proofs.YtaafhldcdkbnkaaGreatDoor
open Go.RowKit
open Lx

theorem signs_none (b : UInt8) : oneSigns.any (· == b) = false → Lib.indexByte oneSigns b = -1 :=
  all_u8 (P := fun b => oneSigns.any (· == b) = false → Lib.indexByte oneSigns b = -1) (by decide +kernel) b
theorem signs_some (b : UInt8) : oneSigns.any (· == b) = true → 0 ≤ Lib.indexByte oneSigns b :=
  all_u8 (P := fun b => oneSigns.any (· == b) = true → 0 ≤ Lib.indexByte oneSigns b) (by decide +kernel) b
/-- Two bytes that are one sign. -/
def twoB (b c : UInt8) : Bool := (b == 61 && c == 61) || (b == 33 && c == 61) || (b == 60 && c == 61) || (b == 62 && c == 61) || (b == 43 && c == 61) || (b == 47 && c == 47)
theorem signF_two (b c : UInt8) (r : List UInt8) : signF (b :: c :: r) = if twoB b c then 2 else if oneSigns.any (· == b) then 1 else 0 := rfl
theorem signF_one (b : UInt8) : signF [b] = if oneSigns.any (· == b) then 1 else 0 := rfl
def signsS : ByteArray := ⟨#[60, 62, 61, 43, 45, 42, 37, 40, 41, 91, 93, 123, 125, 44, 58, 46]⟩
theorem idx_signs (b : UInt8) : ∃ z : Int, (oneSigns.any (· == b) = true → ¬ z < 0) ∧ (oneSigns.any (· == b) = false → z < 0) ∧ ∀ w, Calls Tryz.prog 158 #[.string ⟨#[60, 62, 61, 43, 45, 42, 37, 40, 41, 91, 93, 123, 125, 44, 58, 46]⟩, .int .u8 (b.toNat : Int)] w fun e w' => e = .returned (.int .i64 z) ∧ w' = w :=
  ⟨Lib.indexByte oneSigns b, fun h => by have := signs_some b h; omega, fun h => by have := signs_none b h; omega, fun w => idx_any signsS b w⟩
set_option maxRecDepth 10000 in
set_option maxHeartbeats 1600000 in
/-- The last step of signOf: one byte. -/
theorem signOf_one (s : ByteArray) (h0 : 0 < s.size) (hs : s.size ≤ 1000000) (h1 : s.size = 1 ∨ (1 < s.size ∧ ((s.extract 0 2).toList == [61, 61]) = false ∧ ((s.extract 0 2).toList == [33, 61]) = false ∧ ((s.extract 0 2).toList == [60, 61]) = false ∧ ((s.extract 0 2).toList == [62, 61]) = false ∧ ((s.extract 0 2).toList == [43, 61]) = false ∧ ((s.extract 0 2).toList == [47, 47]) = false)) (w : World) :
    Calls Tryz.prog 143 #[.string s] w fun e w' => e = .returned (.string (if oneSigns.any (· == s[0]) then s.extract 0 1 else ⟨#[]⟩)) ∧ w' = w := by
  obtain ⟨b, hb⟩ : ∃ b, s[0] = b := ⟨_, rfl⟩
  have h0' : (0 : Int) < (s.size : Int) := by omega
  have hidx0 : ∀ W, (Instr.index 9 (.string s) (.int .i64 0)).run Tryz.prog W = .ok (.int .u8 (b.toNat : Int)) W := fun W => by
    rw [← hb]
    go_simp
  rw [hb]
  obtain ⟨z, z1, z2, HZ⟩ := idx_signs b
  have HZ := hid' HZ
  have hsl1 := slice_pre s 1 (by omega)
  rw [show (((1 : Nat)) : Int) = (1 : Int) from rfl] at hsl1
  clear hb
  rcases h1 with h1 | ⟨h1, n1, n2, n3, n4, n5, n6⟩
  · have h1' : ¬ (1 : Int) < (s.size : Int) := by omega
    generalize s.extract 0 1 = X at hsl1 ⊢
    clear h1
    rcases Bool.eq_false_or_eq_true (oneSigns.any (· == b)) with e | e
    · have hz := z1 e
      rw [e]
      clear e z1 z2
      go_enter Tryz.func143, Tryz.ntmps143
      go_wp2_with fail
      refine (HZ.out _).mono ?_
      rintro e w1 ⟨rfl, rfl⟩
      go_wp2
      go_ret
      exact ⟨rfl, rfl⟩
    · have hz := z2 e
      rw [e]
      clear e z1 z2
      go_enter Tryz.func143, Tryz.ntmps143
      go_wp2_with fail
      refine (HZ.out _).mono ?_
      rintro e w1 ⟨rfl, rfl⟩
      go_wp2
      go_ret
      exact ⟨rfl, rfl⟩
  · have h1' : (1 : Int) < (s.size : Int) := by omega
    have hsl2 := slice_pre s 2 (by omega)
    rw [show (((2 : Nat)) : Int) = (2 : Int) from rfl] at hsl2
    generalize s.extract 0 1 = X at hsl1 ⊢
    generalize s.extract 0 2 = Y at hsl2 n1 n2 n3 n4 n5 n6
    clear h1
    rcases Bool.eq_false_or_eq_true (oneSigns.any (· == b)) with e | e
    · have hz := z1 e
      rw [e]
      clear e z1 z2
      go_enter Tryz.func143, Tryz.ntmps143
      go_wp2_with fail
      refine (HZ.out _).mono ?_
      rintro e w1 ⟨rfl, rfl⟩
      go_wp2
      go_ret
      exact ⟨rfl, rfl⟩
    · have hz := z2 e
      rw [e]
      clear e z1 z2
      go_enter Tryz.func143, Tryz.ntmps143
      go_wp2_with fail
      refine (HZ.out _).mono ?_
      rintro e w1 ⟨rfl, rfl⟩
      go_wp2
      go_ret
      exact ⟨rfl, rfl⟩
set_option maxRecDepth 10000 in
set_option maxHeartbeats 1600000 in
theorem signOf_two (s : ByteArray) (h1 : 1 < s.size) (hs : s.size ≤ 1000000) (b c : UInt8) (hX : s.extract 0 2 = ⟨#[b, c]⟩) (hbc : (b = 61 ∧ c = 61) ∨ (b = 33 ∧ c = 61) ∨ (b = 60 ∧ c = 61) ∨ (b = 62 ∧ c = 61) ∨ (b = 43 ∧ c = 61) ∨ (b = 47 ∧ c = 47)) (w : World) :
    Calls Tryz.prog 143 #[.string s] w fun e w' => e = .returned (.string ⟨#[b, c]⟩) ∧ w' = w := by
  have h1' : (1 : Int) < (s.size : Int) := by omega
  have hsl2 := slice_pre s 2 (by omega)
  rw [show (((2 : Nat)) : Int) = (2 : Int) from rfl, hX] at hsl2
  clear hX h1
  rcases hbc with ⟨rfl, rfl⟩ | ⟨rfl, rfl⟩ | ⟨rfl, rfl⟩ | ⟨rfl, rfl⟩ | ⟨rfl, rfl⟩ | ⟨rfl, rfl⟩
  all_goals (
    go_enter Tryz.func143, Tryz.ntmps143
    go_wp2
    go_ret
    exact ⟨rfl, rfl⟩)
theorem twoB_cases (b c : UInt8) : (twoB b c = true ↔ (b = 61 ∧ c = 61) ∨ (b = 33 ∧ c = 61) ∨ (b = 60 ∧ c = 61) ∨ (b = 62 ∧ c = 61) ∨ (b = 43 ∧ c = 61) ∨ (b = 47 ∧ c = 47)) := by
  unfold twoB
  simp only [Bool.or_eq_true, Bool.and_eq_true, beq_iff_eq, or_assoc]
theorem signOf_any (s : ByteArray) (h0 : 0 < s.size) (hs : s.size ≤ 1000000) (w : World) : Calls Tryz.prog 143 #[.string s] w fun e w' => e = .returned (.string (txt (s.data.toList.take (signF s.data.toList)))) ∧ w' = w := by
  have hd0 := drop_at s 0 h0
  rw [List.drop_zero] at hd0
  have hone : ∀ (B : Bool), (if B then s.extract 0 1 else (⟨#[]⟩ : ByteArray)) = txt (s.data.toList.take (if B then 1 else 0)) := fun B => by
    cases B with
    | true => rw [if_pos rfl, if_pos rfl, ← ext_take, txt_data]
    | false => rfl
  by_cases h1 : s.size = 1
  · have h := signOf_one s h0 hs (.inl h1) w
    have hl : s.data.toList = [s[0]] := by rw [hd0, List.drop_eq_nil_of_le (by simp [h1])]
    rw [hone] at h
    have hsf : signF s.data.toList = if oneSigns.any (· == s[0]) then 1 else 0 := by rw [hl]; exact signF_one _
    rw [hsf]
    exact h
  · have hd1 := drop_at s 1 (by omega)
    rw [Nat.zero_add] at hd0
    rw [hd1] at hd0
    have hsf : signF s.data.toList = if twoB s[0] s[1] then 2 else if oneSigns.any (· == s[0]) then 1 else 0 := by rw [hd0]; exact signF_two _ _ _
    have hX2 := ext_take s 2
    have hl2 : (s.extract 0 2).data.toList = [s[0], s[1]] := by rw [hX2, hd0]; rfl
    rcases Bool.eq_false_or_eq_true (twoB s[0] s[1]) with e | e
    · have hX : s.extract 0 2 = ⟨#[s[0], s[1]]⟩ := ByteArray.ext (Array.toList_inj.1 hl2)
      have h := signOf_two s (by omega) hs s[0] s[1] hX ((twoB_cases _ _).1 e) w
      rw [hsf, e, if_pos rfl, ← ext_take, txt_data, hX]
      exact h
    · have hn : ∀ x y : UInt8, ¬ (s[0] = x ∧ s[1] = y) → ((s.extract 0 2).toList == [x, y]) = false := fun x y hxy => by
        rw [ByteArray.toList_eq, hl2, beq_eq_false_iff_ne]
        intro he
        simp at he
        exact hxy he
      have hnt : ¬ (twoB s[0] s[1] = true) := by rw [e]; simp
      rw [twoB_cases] at hnt
      have h := signOf_one s h0 hs (.inr ⟨by omega, hn _ _ (fun x => hnt (.inl x)), hn _ _ (fun x => hnt (.inr (.inl x))), hn _ _ (fun x => hnt (.inr (.inr (.inl x)))), hn _ _ (fun x => hnt (.inr (.inr (.inr (.inl x))))), hn _ _ (fun x => hnt (.inr (.inr (.inr (.inr (.inl x)))))), hn _ _ (fun x => hnt (.inr (.inr (.inr (.inr (.inr x))))))⟩) w
      rw [hone] at h
      rw [hsf, e]
      exact h
end Go.Proofs.YtaafhldcdkbnkaaGreatDoor
