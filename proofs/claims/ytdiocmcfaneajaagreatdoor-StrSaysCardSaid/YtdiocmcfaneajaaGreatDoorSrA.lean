/- What the document's strings answer of one place: at, texts, bound, Cut, blank, strips, IsDigits. Conditions: short texts. -/
import Derived.Test.YtdiocmcfaneajaaGreatDoorStX
import Derived.Test.YtdiocmcfaneajaaGreatDoorStI
namespace Go.Proofs.YtdiocmcfaneajaaGreatDoor
open Go.RowKit
open Lx
namespace St

theorem rat_any (s t : ByteArray) (i : Nat) (hi : i ≤ s.size) (hs : s.size ≤ 100000) (ht : t.size ≤ 100000) (w : World) :
    Calls Tryz.prog 35 #[.string s, .string t, .int .i64 (i : Int)] w fun e w' => e = .returned (.bool (Lib.occAt s.data.toList t.data.toList i)) ∧ w' = w := by
  by_cases h : i + t.size ≤ s.size
  · have hO : Hid (Lib.occAt s.data.toList t.data.toList i = ((s.extract i (i + t.size)).toList == t.toList)) := hidden (by
      rw [Lib.occAt_iff_take _ _ _ (by rw [size_data, size_data]; exact h), ByteArray.toList_eq, ByteArray.toList_eq, ext_data, Nat.add_sub_cancel_left, size_data])
    have hsl : ∀ W, (Instr.sliceAt 9 (.string s) (some (.int .i64 (i : Int))) (some (.int .i64 ((i : Int) + (t.size : Int)))) none).run Tryz.prog W = .ok (.string (s.extract i (i + t.size))) W := fun W => slice_mid s i (i + t.size) (by omega) h W
    generalize s.extract i (i + t.size) = X at hO hsl
    generalize Lib.occAt s.data.toList t.data.toList i = R at hO ⊢
    go_enter Tryz.func35, Tryz.ntmps35
    go_wp2
    go_ret
    exact ⟨ret_bool hO.out.symm, rfl⟩
  · have hO : Hid (Lib.occAt s.data.toList t.data.toList i = false) := hidden (by
      rw [← Bool.not_eq_true]
      intro h2
      rcases Lib.occAt_room h2 with h3 | h3
      · rw [size_data, size_data] at h3; omega
      · have := size_data t
        rw [h3] at this
        simp at this
        omega)
    generalize Lib.occAt s.data.toList t.data.toList i = R at hO ⊢
    go_enter Tryz.func35, Tryz.ntmps35
    go_wp2
    go_ret
    exact ⟨ret_bool hO.out.symm, rfl⟩
theorem rtexts_any (ao : Option Addr) (n cap : Nat) (hn : n ≤ 1024) (w : World) :
    Calls Tryz.prog 36 #[.slice ao n cap] w fun e w' => e = .returned (.tuple #[.slice ao n cap, .int .i64 0]) ∧ w' = w := by
  go_enter Tryz.func36, Tryz.ntmps36
  go_wp2
  go_ret2
  exact ⟨rfl, rfl⟩
theorem rbound_any (n : Nat) (i : Int) (hn : n ≤ 1000000) (h1 : -9223372036854775808 ≤ i) (h2 : i ≤ 9223372036854775807) (w : World) :
    Calls Tryz.prog 43 #[.int .i64 (n : Int), .int .i64 i] w fun e w' => e = .returned (.int .i64 (boundF n i : Int)) ∧ w' = w := by
  by_cases h0 : i < 0
  · have hw := wrap_small ((n : Int) + i) (by omega) (by omega)
    have hw2 := wrap_small (-(n : Int)) (by omega) (by omega)
    have hB : Hid (((boundF n i : Nat) : Int) = min (max (i + n) 0) n) := hidden (by unfold boundF; rw [if_pos h0]; omega)
    by_cases h3 : i < -(n : Int)
    · go_enter Tryz.func43, Tryz.ntmps43
      go_wp2
      all_goals (go_ret; exact ⟨ret_int (by have := hB.out; omega), rfl⟩)
    · go_enter Tryz.func43, Tryz.ntmps43
      go_wp2
      all_goals (go_ret; exact ⟨ret_int (by have := hB.out; omega), rfl⟩)
  · have hB : Hid (((boundF n i : Nat) : Int) = min (max i 0) n) := hidden (by unfold boundF; rw [if_neg h0]; omega)
    go_enter Tryz.func43, Tryz.ntmps43
    go_wp2
    all_goals (go_ret; exact ⟨ret_int (by have := hB.out; omega), rfl⟩)
theorem rcut_any (n : Nat) (i j : Int) (has til : Bool) (hn : n ≤ 1000000) (h1 : -9223372036854775808 ≤ i) (h2 : i ≤ 9223372036854775807) (h3 : -9223372036854775808 ≤ j) (h4 : j ≤ 9223372036854775807) (w : World) :
    Calls Tryz.prog 18 #[.int .i64 (n : Int), .int .i64 i, .int .i64 j, .bool has, .bool til] w fun e w' => e = .returned (.tuple #[.int .i64 (fromF n i has : Int), .int .i64 (toF n i j has til : Int)]) ∧ w' = w := by
  have HB1 := hidden (rbound_any n i hn h1 h2 w)
  have HB2 := hidden (rbound_any n j hn h3 h4 w)
  have HF : Hid (fromF n i has = if has then boundF n i else 0) := hidden rfl
  have HT : Hid (toF n i j has til = max (fromF n i has) (if til then boundF n j else n)) := hidden rfl
  generalize fromF n i has = F at HF HT ⊢
  generalize toF n i j has til = T at HT ⊢
  generalize boundF n i = B1 at HB1 HF
  generalize boundF n j = B2 at HB2 HT
  clear h1 h2 h3 h4
  cases has <;> cases til <;> simp only [if_true, if_false, Bool.false_eq_true] at HF HT <;>
  · go_enter Tryz.func18, Tryz.ntmps18
    go_wp2_with (go_at_call 43; first | ((with_reducible refine HB1.out.mono ?_); rintro e w' ⟨rfl, hw⟩; rw [hw]; clear hw) | ((with_reducible refine HB2.out.mono ?_); rintro e w' ⟨rfl, hw⟩; rw [hw]; clear hw))
    all_goals (go_returns; have hf := HF.out; have ht := HT.out; exact ⟨ret_two (by omega) (by omega), rfl⟩)
theorem rblank_any (c : UInt8) (w : World) : Calls Tryz.prog 46 #[.int .u8 (c.toNat : Int)] w fun e w' => e = .returned (.bool (isBl c)) ∧ w' = w := by
  have hb : Hid (isBl c = decide (c.toNat = 32 ∨ (9 ≤ c.toNat ∧ c.toNat ≤ 13))) := hidden rfl
  obtain ⟨z, hz⟩ : ∃ z, c.toNat = z := ⟨_, rfl⟩
  rw [hz] at hb ⊢
  have hcs : z = 32 ∨ (9 ≤ z ∧ z ≤ 13) ∨ z < 9 ∨ (13 < z ∧ z ≠ 32) := by omega
  generalize isBl c = R at hb ⊢
  clear hz
  rcases hcs with rfl | ⟨h1, h2⟩ | h1 | ⟨h1, h2⟩ <;>
  · go_enter Tryz.func46, Tryz.ntmps46
    go_wp2
    all_goals (go_ret; exact ⟨ret_bool (by rw [hb.out]; first | rfl | (symm; rw [decide_eq_true_eq]; omega) | (symm; rw [decide_eq_false_iff_not]; omega) | (rw [Bool.eq_iff_iff]; simp; omega)), rfl⟩)
theorem blank_set (c : UInt8) : isBl c = blanksL.contains c := by
  have h : ∀ n : Fin 256, isBl (UInt8.ofNat n.val) = blanksL.contains (UInt8.ofNat n.val) := by decide +kernel
  simpa using h ⟨c.toNat, c.toNat_lt⟩
set_option maxRecDepth 100000 in
set_option maxHeartbeats 1600000 in
theorem rstrips_any (c : UInt8) (t : ByteArray) (w : World) (ht : t.size ≤ 100000) : Calls Tryz.prog 48 #[.int .u8 (c.toNat : Int), .string t] w fun e w' => e = .returned (.bool ((setF t.data.toList).contains c)) ∧ w' = w := by
  by_cases h0 : t.size = 0
  · have hem := text_emp h0
    have hR : Hid ((setF t.data.toList).contains c = isBl c) := hidden (by rw [text_nil h0, blank_set]; rfl)
    have HB := hidden (rblank_any c w)
    generalize (setF t.data.toList).contains c = R at hR ⊢
    clear h0
    go_enter Tryz.func48, Tryz.ntmps48
    go_wp2_with (go_at_call 46; (with_reducible refine HB.out.mono ?_); rintro e w' ⟨rfl, hw⟩; rw [hw]; clear hw)
    go_ret
    exact ⟨ret_bool hR.out.symm, rfl⟩
  · have hne := text_ne t (by omega)
    have hR : Hid ((setF t.data.toList).contains c = t.data.toList.contains c) := hidden (by
      unfold setF
      rw [if_neg]
      intro e
      have := size_data t
      rw [e] at this
      simp at this
      omega)
    generalize (setF t.data.toList).contains c = R at hR ⊢
    obtain ⟨z, hz⟩ : ∃ z, c.toNat = z := ⟨_, rfl⟩
    have HZ := hidden hz
    rw [hz]
    clear hz
    go_enter Tryz.func48, Tryz.ntmps48
    go_wp2
    go_loop [5] (fun i => ∃ k : Nat, k ≤ t.size ∧ i = .int .i64 k ∧ Hid ((t.data.toList.take k).contains c = false)) (fun i => t.size - (intOf i).toNat)
    case atStart => exact ⟨0, Nat.zero_le _, rfl, hidden rfl⟩
    case round =>
      obtain ⟨k, hk, rfl, hno⟩ := hrel
      by_cases hlt : k < t.size
      · have hix := idx_at t k hlt
        have hlt' : k < t.data.toList.length := by rw [size_data]; exact hlt
        have hts : t.data.toList.take (k + 1) = t.data.toList.take k ++ [t[k]] := List.take_succ_eq_append_getElem hlt'
        have hmem : t[k] ∈ t.data.toList := List.getElem_mem hlt'
        obtain ⟨d, hd⟩ : ∃ d, t[k] = d := ⟨_, rfl⟩
        rw [hd] at hix hts hmem
        by_cases hcd : d = c
        · subst hcd
          have hR2 : Hid (R = true) := hidden (by rw [hR.out, List.contains_iff_mem]; exact hmem)
          rw [HZ.out] at hix
          clear hts hmem hd hlt'
          go_wp2
          go_ret
          exact ⟨ret_bool hR2.out.symm, rfl⟩
        · have hne2 : d.toNat ≠ z := fun e => hcd (UInt8.toNat_inj.1 (e.trans HZ.out.symm))
          have R1 : Hid ((t.data.toList.take (k + 1)).contains c = false) := hidden (by
            rw [hts, List.contains_append, hno.out, Bool.false_or]
            simpa using fun e : c = d => hcd e.symm)
          obtain ⟨y, hy⟩ : ∃ y, d.toNat = y := ⟨_, rfl⟩
          rw [hy] at hix hne2
          clear hts hmem hd hlt' hcd hy
          go_wp2
          go_round
          case rel => exact ⟨k + 1, by omega, by go_num, R1⟩
          case measure => simp [intOf]; omega
      · have hR2 : Hid (R = false) := hidden (by
          have h3 := hno.out
          rw [List.take_of_length_le (by rw [size_data]; omega)] at h3
          rw [hR.out, h3])
        go_wp2
        go_ret
        exact ⟨ret_bool hR2.out.symm, rfl⟩
set_option maxRecDepth 100000 in
set_option maxHeartbeats 1600000 in
theorem risDigits_any (s : ByteArray) (w : World) (hs : s.size ≤ 100000) :
    Calls Tryz.prog 31 #[.string s] w fun e w' => e = .returned (.bool (isDigF s.data.toList)) ∧ w' = w := by
  go_enter Tryz.func31, Tryz.ntmps31
  go_wp2
  go_loop [3] (fun i => ∃ k : Nat, k ≤ s.size ∧ i = .int .i64 k ∧ Hid ((s.data.toList.take k).all digB = true)) (fun i => s.size - (intOf i).toNat)
  case atStart => exact ⟨0, Nat.zero_le _, rfl, hidden rfl⟩
  case round =>
    obtain ⟨k, hk, rfl, hall⟩ := hrel
    by_cases hlt : k < s.size
    · have hix := idx_at s k hlt
      have hlt' : k < s.data.toList.length := by rw [size_data]; exact hlt
      have hts : s.data.toList.take (k + 1) = s.data.toList.take k ++ [s[k]] := List.take_succ_eq_append_getElem hlt'
      have hmem : s[k] ∈ s.data.toList := List.getElem_mem hlt'
      obtain ⟨c, hc⟩ : ∃ c, s[k] = c := ⟨_, rfl⟩
      rw [hc] at hix hts hmem
      obtain ⟨z, hz⟩ : ∃ z, c.toNat = z := ⟨_, rfl⟩
      have hd : digB c = decide (48 ≤ z ∧ z ≤ 57) := by rw [← hz]; rfl
      rw [hz] at hix
      have HTS := hidden hts
      have HD := hidden hd
      have HM := hidden hmem
      clear hc hts hlt' hd hmem hz
      by_cases h1 : 48 ≤ z ∧ z ≤ 57
      · obtain ⟨h2, h3⟩ := h1
        have R1 : Hid ((s.data.toList.take (k + 1)).all digB = true) := hidden (by
          rw [HTS.out, List.all_append, hall.out, List.all_cons, HD.out, decide_eq_true ⟨h2, h3⟩]; rfl)
        go_wp2
        go_round
        case rel => exact ⟨k + 1, by omega, by go_num, R1⟩
        case measure => simp [intOf]; omega
      · have hF : Hid (isDigF s.data.toList = false) := hidden (by
          unfold isDigF
          have : s.data.toList.all digB = false := by
            rw [← Bool.not_eq_true, List.all_eq_true]
            intro h
            have := h c HM.out
            rw [HD.out, decide_eq_false h1] at this
            cases this
          rw [this]; rfl)
        have h4 : z < 48 ∨ (48 ≤ z ∧ 57 < z) := by omega
        clear h1
        rcases h4 with h4 | ⟨h4, h5⟩ <;>
        · go_wp2
          go_ret
          exact ⟨ret_bool hF.out.symm, rfl⟩
    · have ha : Hid (s.data.toList.all digB = true) := hidden (by
        have := hall.out
        rwa [List.take_of_length_le (by rw [size_data]; omega)] at this)
      by_cases h0 : s.size = 0
      · obtain rfl := text_nil h0
        go_wp2
        go_ret
        exact ⟨ret_bool rfl, rfl⟩
      · have hne := text_ne s (by omega)
        have hF : Hid (isDigF s.data.toList = true) := hidden (by
          unfold isDigF
          rw [ha.out]
          cases e : s.data.toList with
          | nil =>
            have := size_data s
            rw [e] at this
            simp at this
            omega
          | cons c t => rfl)
        go_wp2
        go_ret
        exact ⟨ret_bool hF.out.symm, rfl⟩
end St
end Go.Proofs.YtdiocmcfaneajaaGreatDoor
