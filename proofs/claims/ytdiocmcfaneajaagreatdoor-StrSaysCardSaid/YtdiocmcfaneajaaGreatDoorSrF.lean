/- What the document's Find, Count and Split answer. Conditions: short texts. -/
import Derived.Test.YtdiocmcfaneajaaGreatDoorSrA
namespace Go.Proofs.YtdiocmcfaneajaaGreatDoor
open Go.RowKit
open Lx
namespace St

theorem occ_drop (s t : L) (i j : Nat) : Lib.occAt (s.drop i) t j = Lib.occAt s t (i + j) := by unfold Lib.occAt; rw [List.drop_drop]
theorem occ_within (s t : L) (a b j : Nat) (hb : b ≤ s.length) (h : a + j + t.length ≤ b) : Lib.occAt ((s.drop a).take (b - a)) t j = Lib.occAt s t (a + j) := by
  rw [Lib.occAt_iff_take _ _ _ (by rw [List.length_take, List.length_drop]; omega), Lib.occAt_iff_take _ _ _ (by omega)]
  congr 1
  rw [List.drop_take, List.take_take, List.drop_drop]
  congr 1
  omega
theorem find_hit (s t : L) (a b i : Nat) (hb : b ≤ s.length) (hi : a ≤ i) (hib : i + t.length ≤ b) (hno : ∀ j, a ≤ j → j < i → Lib.occAt s t j = false) (hh : Lib.occAt s t i = true) : Lib.index ((s.drop a).take (b - a)) t = ((i - a : Nat) : Int) := by
  refine Lib.index_first (by rw [List.length_take, List.length_drop]; omega) ?_ fun j hj => ?_
  · rw [occ_within s t a b _ hb (by omega), show a + (i - a) = i by omega]
    exact hh
  · rw [occ_within s t a b _ hb (by omega)]
    exact hno _ (by omega) (by omega)
theorem find_miss (s t : L) (a b : Nat) (hab : a ≤ b) (hb : b ≤ s.length) (hno : ∀ j, a ≤ j → j + t.length ≤ b → Lib.occAt s t j = false) : Lib.index ((s.drop a).take (b - a)) t = -1 := by
  refine Lib.index_none fun j hj => ?_
  rw [List.length_take, List.length_drop] at hj
  by_cases h : a + j + t.length ≤ b
  · rw [occ_within s t a b _ hb h]
    exact hno _ (by omega) (by omega)
  · rw [← Bool.not_eq_true]
    intro h2
    rcases Lib.occAt_room h2 with h3 | h3
    · rw [List.length_take, List.length_drop] at h3
      omega
    · rw [h3] at h
      simp at h
      omega
set_option maxRecDepth 100000 in
set_option maxHeartbeats 1600000 in
theorem rfind_any (s t : ByteArray) (i j : Int) (hs : s.size ≤ 100000) (ht : t.size ≤ 100000) (h1 : -9223372036854775808 ≤ i) (h2 : i ≤ 9223372036854775807) (h3 : -9223372036854775808 ≤ j) (h4 : j ≤ 9223372036854775807) (w : World) :
    Calls Tryz.prog 22 #[.string s, .string t, .int .i64 i, .int .i64 j] w fun e w' => e = .returned (.int .i64 (findF s.data.toList t.data.toList i j)) ∧ w' = w := by
  have HC1 := hidden (rcut_any s.size i j true true (by omega) h1 h2 h3 h4 w)
  have hF := from_le s.size i true
  have hFT := from_to s.size i j true true
  have hT := to_le s.size i j true true
  have HR : Hid (findF s.data.toList t.data.toList i j = if Lib.index ((s.data.toList.drop (fromF s.size i true)).take (toF s.size i j true true - fromF s.size i true)) t.data.toList < 0 then -1 else fromF s.size i true + Lib.index ((s.data.toList.drop (fromF s.size i true)).take (toF s.size i j true true - fromF s.size i true)) t.data.toList) := hidden (by unfold findF; rw [size_data])
  generalize findF s.data.toList t.data.toList i j = R at HR ⊢
  generalize fromF s.size i true = a at HC1 hF hFT HR
  generalize toF s.size i j true true = b at HC1 hFT hT HR
  have HAT := hidden (fun (k : Nat) (hk : k ≤ s.size) (W : World) => rat_any s t k hk hs ht W)
  clear h1 h2 h3 h4
  go_enter Tryz.func22, Tryz.ntmps22
  go_wp2_with (go_at_call 18; (with_reducible refine HC1.out.mono ?_); rintro e w' ⟨rfl, hw⟩; rw [hw]; clear hw)
  go_loop [11] (fun v => ∃ k : Nat, a ≤ k ∧ k ≤ b + 1 ∧ v = .int .i64 k ∧ Hid (∀ j, a ≤ j → j < k → Lib.occAt s.data.toList t.data.toList j = false)) (fun v => b + 1 - (intOf v).toNat)
  case atStart => exact ⟨a, Nat.le_refl _, by omega, rfl, hidden fun j h1 h2 => absurd h2 (by omega)⟩
  case round =>
    obtain ⟨k, hak, hkb, rfl, hno⟩ := hrel
    by_cases hlt : k + t.size ≤ b
    · have HA := hidden (HAT.out k (by omega) w)
      obtain ⟨o, ho⟩ : ∃ o, Lib.occAt s.data.toList t.data.toList k = o := ⟨_, rfl⟩
      rw [ho] at HA
      cases o with
      | true =>
        have hR : Hid (R = (k : Int)) := hidden (by
          have := find_hit s.data.toList t.data.toList a b k (by rw [size_data]; exact hT) hak (by rw [size_data]; exact hlt) hno.out ho
          rw [HR.out, this, if_neg (by omega)]
          omega)
        clear ho
        go_wp2_with (go_at_call 35; (with_reducible refine HA.out.mono ?_); rintro e w' ⟨rfl, hw⟩; rw [hw]; clear hw)
        go_ret
        exact ⟨ret_int hR.out.symm, rfl⟩
      | false =>
        have R1 : Hid (∀ j, a ≤ j → j < k + 1 → Lib.occAt s.data.toList t.data.toList j = false) := hidden fun j h1 h2 => by
          by_cases e : j = k
          · rw [e]; exact ho
          · exact hno.out j h1 (by omega)
        clear ho
        go_wp2_with (go_at_call 35; (with_reducible refine HA.out.mono ?_); rintro e w' ⟨rfl, hw⟩; rw [hw]; clear hw)
        go_round
        case rel => exact ⟨k + 1, by omega, by omega, by go_num, R1⟩
        case measure => simp [intOf]; omega
    · have hR : Hid (R = -1) := hidden (by
        have := find_miss s.data.toList t.data.toList a b hFT (by rw [size_data]; exact hT) fun j h1 h2 => hno.out j h1 (by rw [size_data] at h2; omega)
        rw [HR.out, this, if_pos (by decide)])
      go_wp2
      go_ret
      exact ⟨ret_int hR.out.symm, rfl⟩

theorem count_step (sep : L) (f : Nat) (s : L) : Lib.countFrom sep (f + 1) s = if Lib.index s sep == -1 then 0 else 1 + Lib.countFrom sep f (s.drop ((Lib.index s sep).toNat + sep.length)) := rfl
theorem count_skip (sep : L) (f : Nat) (c : UInt8) (t : L) (h : Lib.occAt (c :: t) sep 0 = false) : Lib.countFrom sep (f + 1) (c :: t) = Lib.countFrom sep (f + 1) t := by
  have hi : Lib.index (c :: t) sep = if Lib.index t sep == -1 then -1 else Lib.index t sep + 1 := by
    conv => lhs; unfold Lib.index
    rw [if_neg (by unfold Lib.occAt at h; rw [List.drop_zero] at h; rw [h]; decide)]
  have hge := Lib.index_ge t sep
  rw [count_step, count_step, hi]
  by_cases h1 : Lib.index t sep = -1
  · rw [h1]
    rfl
  · have e1 : (Lib.index t sep == -1) = false := by rw [beq_eq_false_iff_ne]; exact h1
    have e2 : (Lib.index t sep + 1 == -1) = false := by rw [beq_eq_false_iff_ne]; omega
    simp only [e1, Bool.false_eq_true, if_false, e2]
    rw [show (Lib.index t sep + 1).toNat + sep.length = (Lib.index t sep).toNat + sep.length + 1 by omega, List.drop_succ_cons]
theorem index_zero (s sep : L) (h : Lib.occAt s sep 0 = true) : Lib.index s sep = 0 := Lib.index_first (i := 0) (Nat.zero_le _) h (fun j hj => absurd hj (by omega))
theorem count_hit (sep : L) (f : Nat) (s : L) (h : Lib.occAt s sep 0 = true) : Lib.countFrom sep (f + 1) s = 1 + Lib.countFrom sep f (s.drop sep.length) := by
  rw [count_step, index_zero s sep h, if_neg (by decide)]
  rw [show (0 : Int).toNat + sep.length = sep.length by simp]
theorem count_nil (sep : L) (hsep : sep ≠ []) (f : Nat) : Lib.countFrom sep f [] = 0 := by
  cases f with
  | zero => rfl
  | succ f =>
    unfold Lib.countFrom
    have : Lib.index [] sep = -1 := by
      cases sep with
      | nil => exact absurd rfl hsep
      | cons c t => rfl
    rw [this]
    rfl
set_option maxRecDepth 100000 in
set_option maxHeartbeats 1600000 in
theorem rcount_any (s t : ByteArray) (hs : s.size ≤ 100000) (ht : t.size ≤ 100000) (w : World) :
    Calls Tryz.prog 24 #[.string s, .string t] w fun e w' => e = .returned (.int .i64 (countF s.data.toList t.data.toList : Int)) ∧ w' = w := by
  by_cases h0 : t.size = 0
  · obtain rfl : t = ⟨#[]⟩ := text_nil h0
    have hR : Hid (countF s.data.toList (⟨#[]⟩ : ByteArray).data.toList = s.size + 1) := hidden (by unfold countF; rw [if_pos rfl, size_data])
    generalize countF s.data.toList (⟨#[]⟩ : ByteArray).data.toList = R at hR ⊢
    go_enter Tryz.func24, Tryz.ntmps24
    go_wp2
    go_ret
    exact ⟨ret_int (by have := hR.out; omega), rfl⟩
  · have hne := text_ne t (by omega)
    have hsl : Hid (t.data.toList ≠ []) := hidden (fun e => h0 (by rw [← size_data, e]; rfl))
    have hR : Hid (Lib.countFrom t.data.toList (s.size + 1) s.data.toList = countF s.data.toList t.data.toList) := hidden (by
      unfold countF
      rw [if_neg hsl.out, Lib.count, size_data])
    generalize countF s.data.toList t.data.toList = R at hR ⊢
    have HAT := hidden (fun (k : Nat) (hk : k ≤ s.size) (W : World) => rat_any s t k hk hs ht W)
    go_enter Tryz.func24, Tryz.ntmps24
    go_wp2
    go_loop [5, 6] (fun vn vi => ∃ n k f : Nat, k ≤ s.size ∧ n ≤ k ∧ vn = .int .i64 n ∧ vi = .int .i64 k ∧ s.size < k + f ∧ Hid (n + Lib.countFrom t.data.toList f (s.data.toList.drop k) = R)) (fun _ vi => s.size - (intOf vi).toNat)
    case atStart => exact ⟨0, 0, s.size + 1, by omega, by omega, rfl, rfl, by omega, hidden (by rw [List.drop_zero, Nat.zero_add]; exact hR.out)⟩
    case round =>
      obtain ⟨n, k, f, hk, hnk, rfl, rfl, hf, hall⟩ := hrel
      by_cases hlt : k < s.size
      · obtain ⟨f, rfl⟩ : ∃ g, f = g + 1 := ⟨f - 1, by omega⟩
        have HA := hidden (HAT.out k (by omega) w)
        have hkl : k < s.data.toList.length := by rw [size_data]; exact hlt
        have hod := occ_drop s.data.toList t.data.toList k 0
        obtain ⟨o, ho⟩ : ∃ o, Lib.occAt s.data.toList t.data.toList k = o := ⟨_, rfl⟩
        rw [ho] at HA
        rw [Nat.add_zero, ho] at hod
        cases o with
        | true =>
          have hroom : k + t.size ≤ s.size := by
            rcases Lib.occAt_room ho with h3 | h3
            · rw [size_data, size_data] at h3; exact h3
            · exact absurd h3 hsl.out
          have R1 : Hid (n + 1 + Lib.countFrom t.data.toList f (s.data.toList.drop (k + t.size)) = R) := hidden (by
            have := hall.out
            rw [count_hit _ _ _ hod, List.drop_drop, size_data] at this
            omega)
          clear ho hod hkl
          go_wp2_with (go_at_call 35; (with_reducible refine HA.out.mono ?_); rintro e w' ⟨rfl, hw⟩; rw [hw]; clear hw)
          go_round
          case rel => exact ⟨n + 1, k + t.size, f, by omega, by omega, by go_num, by go_num, by omega, R1⟩
          case measure => simp [intOf]; omega
        | false =>
          have R1 : Hid (n + Lib.countFrom t.data.toList (f + 1) (s.data.toList.drop (k + 1)) = R) := hidden (by
            have := hall.out
            rw [List.drop_eq_getElem_cons hkl] at this hod
            rwa [count_skip _ f _ _ hod] at this)
          clear ho hod hkl
          go_wp2_with (go_at_call 35; (with_reducible refine HA.out.mono ?_); rintro e w' ⟨rfl, hw⟩; rw [hw]; clear hw)
          go_round
          case rel => exact ⟨n, k + 1, f + 1, by omega, by omega, rfl, by go_num, by omega, R1⟩
          case measure => simp [intOf]; omega
      · have hR2 : Hid (R = n) := hidden (by
          have := hall.out
          rw [List.drop_of_length_le (by rw [size_data]; omega), count_nil _ hsl.out] at this
          omega)
        go_wp2
        go_ret
        exact ⟨ret_int (by rw [hR2.out]), rfl⟩
end St
end Go.Proofs.YtdiocmcfaneajaaGreatDoor
