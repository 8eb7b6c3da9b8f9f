/- What bound, Cut, Find and Count answer. Conditions: short texts. -/
import Derived.Test.YtdiocmcfaneajaaGreatDoorStM
import Derived.Test.YtdiocmcfaneajaaGreatDoorShelf
namespace Go.Proofs.YtdiocmcfaneajaaGreatDoor
open Go.RowKit
namespace St

theorem wrap_small (z : Int) (h1 : -9223372036854775808 ≤ z) (h2 : z ≤ 9223372036854775807) : IntKind.i64.wrap z = z := by
  rw [IntKind.wrap_i64]
  omega

theorem ret_two {a b c d : Int} (h1 : a = c) (h2 : b = d) : Ending.returned (.tuple #[.int .i64 a, .int .i64 b]) = .returned (.tuple #[.int .i64 c, .int .i64 d]) := by rw [h1, h2]

theorem bound_any (n : Nat) (i : Int) (hn : n ≤ 1000000) (h1 : -9223372036854775808 ≤ i) (h2 : i ≤ 9223372036854775807) (w : World) :
    Calls Tryz.prog 42 #[.int .i64 (n : Int), .int .i64 i] w fun e w' => e = .returned (.int .i64 (boundF n i : Int)) ∧ w' = w := by
  by_cases h0 : i < 0
  · have hw := wrap_small (i + n) (by omega) (by omega)
    have hB : Hid (((boundF n i : Nat) : Int) = min (max (i + n) 0) n) := hidden (by unfold boundF; rw [if_pos h0]; omega)
    by_cases h3 : i + n < 0
    · go_enter Tryz.func42, Tryz.ntmps42
      go_wp2
      all_goals (go_ret; exact ⟨ret_int (by have := hB.out; omega), rfl⟩)
    · go_enter Tryz.func42, Tryz.ntmps42
      go_wp2
      all_goals (go_ret; exact ⟨ret_int (by have := hB.out; omega), rfl⟩)
  · have hB : Hid (((boundF n i : Nat) : Int) = min (max i 0) n) := hidden (by unfold boundF; rw [if_neg h0]; omega)
    go_enter Tryz.func42, Tryz.ntmps42
    go_wp2
    all_goals (go_ret; exact ⟨ret_int (by have := hB.out; omega), rfl⟩)

theorem cut_any (n : Nat) (i j : Int) (has til : Bool) (hn : n ≤ 1000000) (h1 : -9223372036854775808 ≤ i) (h2 : i ≤ 9223372036854775807) (h3 : -9223372036854775808 ≤ j) (h4 : j ≤ 9223372036854775807) (w : World) :
    Calls Tryz.prog 17 #[.int .i64 (n : Int), .int .i64 i, .int .i64 j, .bool has, .bool til] w fun e w' => e = .returned (.tuple #[.int .i64 (fromF n i has : Int), .int .i64 (toF n i j has til : Int)]) ∧ w' = w := by
  have HB1 := hidden (bound_any n i hn h1 h2)
  have HB2 := hidden (bound_any n j hn h3 h4)
  have HF : Hid (fromF n i has = if has then boundF n i else 0) := hidden rfl
  have HT : Hid (toF n i j has til = max (fromF n i has) (if til then boundF n j else n)) := hidden rfl
  generalize fromF n i has = F at HF HT ⊢
  generalize toF n i j has til = T at HT ⊢
  generalize boundF n i = B1 at HB1 HF
  generalize boundF n j = B2 at HB2 HT
  clear h1 h2 h3 h4
  cases has <;> cases til <;> simp only [if_true, if_false, Bool.false_eq_true] at HF HT <;>
  · go_enter Tryz.func17, Tryz.ntmps17
    go_wp2_with (go_at_call 42; first | (with_reducible refine (HB1.out _).mono ?_; rintro e w' ⟨rfl, rfl⟩) | (with_reducible refine (HB2.out _).mono ?_; rintro e w' ⟨rfl, rfl⟩))
    all_goals (go_returns; have hf := HF.out; have ht := HT.out; exact ⟨ret_two (by omega) (by omega), rfl⟩)

theorem ext_data (s : ByteArray) (a b : Nat) : (s.extract a b).data.toList = (s.data.toList.drop a).take (b - a) := by
  rw [ByteArray.data_extract, Array.toList_extract]
theorem slice_mid (s : ByteArray) (a b : Nat) (h : a ≤ b) (hb : b ≤ s.size) (W : World) : (Instr.sliceAt 9 (.string s) (some (.int .i64 (a : Int))) (some (.int .i64 (b : Int))) none).run Tryz.prog W = .ok (.string (s.extract a b)) W := by
  have h1 : (a : Int) ≤ (b : Int) := by omega
  have h2 : (b : Int) ≤ (s.size : Int) := by omega
  go_simp

theorem find_any (D E : Value) (m : Int) (s t : ByteArray) (i j : Int) (hs : s.size ≤ 1000000) (h1 : -9223372036854775808 ≤ i) (h2 : i ≤ 9223372036854775807) (h3 : -9223372036854775808 ≤ j) (h4 : j ≤ 9223372036854775807) (w : World) (hC : Cx D E m w) :
    Calls Tryz.prog 21 #[.string s, .string t, .int .i64 i, .int .i64 j] w fun e w' => e = .returned (.int .i64 (findF s.data.toList t.data.toList i j)) ∧ w' = w := by
  have HC1 := hidden (cut_any s.size i j true true hs h1 h2 h3 h4 w)
  have hF := from_le s.size i true
  have hFT := from_to s.size i j true true
  have hT := to_le s.size i j true true
  have HR : Hid (findF s.data.toList t.data.toList i j = if Lib.index ((s.data.toList.drop (fromF s.size i true)).take (toF s.size i j true true - fromF s.size i true)) t.data.toList < 0 then -1 else fromF s.size i true + Lib.index ((s.data.toList.drop (fromF s.size i true)).take (toF s.size i j true true - fromF s.size i true)) t.data.toList) := hidden (by unfold findF; rw [size_data])
  generalize findF s.data.toList t.data.toList i j = R at HR ⊢
  generalize fromF s.size i true = a at HC1 hF hFT HR
  generalize toF s.size i j true true = b at HC1 hFT hT HR
  have HI := hidden (Tryz.strings_Index (s.extract a b) t m w (by rw [ByteArray.size_extract]; omega) hC.max)
  have hsl := slice_mid s a b hFT hT
  rw [ext_data] at HI
  have hix := Lib.index_ge ((s.data.toList.drop a).take (b - a)) t.data.toList
  have hrm := Lib.index_room ((s.data.toList.drop a).take (b - a)) t.data.toList
  generalize Lib.index ((s.data.toList.drop a).take (b - a)) t.data.toList = x at HR HI hix hrm
  have hxs : x ≤ 1000000 := by
    have h5 : ((s.data.toList.drop a).take (b - a)).length ≤ s.size := by rw [List.length_take, List.length_drop, size_data]; omega
    by_cases h0 : 0 ≤ x
    · have := hrm h0; omega
    · omega
  clear hrm h1 h2 h3 h4
  go_enter Tryz.func21, Tryz.ntmps21
  go_wp2_with (first | (go_at_call 17; with_reducible refine HC1.out.mono ?_; rintro e w' ⟨rfl, rfl⟩) | (go_at_call 40; with_reducible refine HI.out.mono ?_; rintro e w' ⟨rfl, rfl⟩))
  · go_ret
    exact ⟨ret_int (by rw [HR.out, if_neg (by omega)]), rfl⟩
  · go_ret
    exact ⟨ret_int (by rw [HR.out, if_pos (by omega)]), rfl⟩

theorem count_any (m : Int) (s t : ByteArray) (hs : s.size ≤ 1000000) (w : World) (hm : w.cell? ⟨2, 0, none⟩ = some (.int .i64 m)) :
    Calls Tryz.prog 23 #[.string s, .string t] w fun e w' => e = .returned (.int .i64 (countF s.data.toList t.data.toList : Int)) ∧ w' = w := by
  by_cases h0 : t.size = 0
  · obtain rfl : t = ⟨#[]⟩ := ByteArray.ext (Array.eq_empty_of_size_eq_zero h0)
    have hR : Hid (countF s.data.toList (⟨#[]⟩ : ByteArray).data.toList = s.size + 1) := hidden (by unfold countF; rw [if_pos rfl, size_data])
    generalize countF s.data.toList (⟨#[]⟩ : ByteArray).data.toList = R at hR ⊢
    go_enter Tryz.func23, Tryz.ntmps23
    go_wp2
    go_ret
    exact ⟨ret_int (by have := hR.out; omega), rfl⟩
  · have hR : Hid (countF s.data.toList t.data.toList = Lib.countB s t) := hidden (by
      unfold countF
      rw [if_neg (fun e => h0 (by rw [← size_data, e]; rfl))])
    have HI := hidden (Tryz.strings_Count_any s t m w (by omega) hm (by omega))
    have hne : (t.toList == []) = false := by
      rw [ByteArray.toList_eq, beq_eq_false_iff_ne]
      exact fun e => h0 (by rw [← size_data, e]; rfl)
    generalize countF s.data.toList t.data.toList = R at hR ⊢
    go_enter Tryz.func23, Tryz.ntmps23
    go_wp2_with (go_at_call 47; with_reducible refine HI.out.mono ?_; rintro e w' ⟨rfl, rfl⟩)
    go_ret
    exact ⟨ret_int (by rw [hR.out]), rfl⟩
end St
end Go.Proofs.YtdiocmcfaneajaaGreatDoor
