/- smithylaw11.StrCuts answers true, whatever the text and the bounds. Conditions: the words, and the errors, lie in their variables. -/
import Derived.Test.YtdiocmcfaneajaaDoorStA
namespace Go.Proofs.YtdiocmcfaneajaaDoor
open Go.RowKit
open Lx
namespace St

set_option maxRecDepth 100000 in
set_option maxHeartbeats 3200000 in
theorem strCuts_any {D : Value} {tE : TypeId} {pE : Value} {m : Int} {w : World} (hL : Lw D tE pE m w) (s : ByteArray) (i j : Int) (l r : Bool) (h1 : -9223372036854775808 ≤ i) (h2 : i ≤ 9223372036854775807) (h3 : -9223372036854775808 ≤ j) (h4 : j ≤ 9223372036854775807) :
    Calls Tryd.prog 4 #[.string s, .int .i64 i, .int .i64 j, .bool l, .bool r] w fun e w' => e = .returned (.bool true) ∧ Below w.heap.size w w' := by
  have HF := hidden hL.first
  have HB := hidden (Below.refl w.heap.size w)
  by_cases hs : 200 < s.size
  · clear hL h1 h2 h3 h4
    go_enter Tryd.func4, Tryd.ntmps4
    go_wp2_with (go_at_call 6; (with_reducible refine (HF.out _ HB.out).mono ?_); rintro e w2 ⟨rfl, hb⟩; replace HB := hidden hb; clear hb)
    go_ret
    exact ⟨rfl, HB.out⟩
  · have hfl := from_le s.size i true
    have hft := from_to s.size i j true true
    have htl := to_le s.size i j true true
    obtain ⟨a, ha⟩ : ∃ a, fromF s.size i true = a := ⟨_, rfl⟩
    obtain ⟨b, hb⟩ : ∃ b, toF s.size i j true true = b := ⟨_, rfl⟩
    rw [ha] at hfl hft
    rw [hb] at hft htl
    have C1 := hidden (cut_ans w s.size i j true true a b ha hb (by omega) h1 h2 h3 h4)
    have C2 := hidden (cut_ans w s.size a b true true a b (by unfold fromF; rw [if_pos rfl]; exact bound_self _ _ hfl) (by
      unfold toF fromF
      rw [if_pos rfl, if_pos rfl, bound_self _ _ hfl, bound_self _ _ htl]
      omega) (by omega) (by omega) (by omega) (by omega) (by omega))
    have C3 : Hid (Ans 12 #[.int .i64 (s.size : Int), .int .i64 i, .int .i64 j, .bool false, .bool false] (.tuple #[.int .i64 0, .int .i64 (s.size : Int)]) w) := hidden (cut_ans w s.size i j false false 0 s.size rfl (by unfold toF fromF; simp) (by omega) h1 h2 h3 h4)
    obtain ⟨T, hT⟩ : ∃ T, txt (stripF (setF (⟨#[]⟩ : ByteArray).data.toList).contains l r s.data.toList) = T := ⟨_, rfl⟩
    have hTd : T.data.toList = stripF (setF (⟨#[]⟩ : ByteArray).data.toList).contains l r s.data.toList := by rw [← hT]; rfl
    obtain ⟨pa, pb, hin⟩ := strip_in (setF (⟨#[]⟩ : ByteArray).data.toList).contains l r s.data.toList
    rw [← hTd] at hin
    have hTs : T.size ≤ s.size := by
      have := congrArg List.length hin
      simp only [List.length_append, size_data] at this
      omega
    have T1 := hidden (strip_ans w s ⟨#[]⟩ l r T hT (by omega) (by decide))
    have T2 := hidden (strip_ans w T ⟨#[]⟩ l r T (by rw [hTd, strip_again, ← hTd]; rfl) (by omega) (by decide))
    obtain ⟨x, hx⟩ : ∃ x, findF s.data.toList T.data.toList 0 s.size = x := ⟨_, rfl⟩
    have hx0 : 0 ≤ x := by
      rw [← hx, ← size_data s, find_all, hin]
      exact index_in pa T.data.toList pb
    have F1 := hidden (hL.find s T 0 s.size x hx (by omega) (by omega) (by omega) (by omega) (by omega))
    obtain ⟨U, hU⟩ : ∃ U, txt (s.data.toList.map upB) = U := ⟨_, rfl⟩
    obtain ⟨V, hV⟩ : ∃ V, txt (s.data.toList.map loB) = V := ⟨_, rfl⟩
    have hUs : U.size = s.size := by rw [← hU, txt_size, List.length_map, size_data]
    have U1 := hidden (upper_ans w s U hU (by omega))
    have V1 := hidden (lower_ans w U V (by rw [← hU, data_txt, low_up, hV]) (by omega))
    have V2 := hidden (lower_ans w s V hV (by omega))
    have hTs2 : l = false → r = false → T = s := by
      rintro rfl rfl
      rw [← hT, strip_none]
      rfl
    clear hL h1 h2 h3 h4 hT hTd hin hx hU hV ha hb hUs hTs
    go_enter Tryd.func4, Tryd.ntmps4
    cases l <;> cases r
    · obtain rfl := hTs2 rfl rfl
      clear hTs2
      go_wp2_with (first | (go_at_call 6; ((with_reducible refine (HF.out _ HB.out).mono ?_); rintro e w2 ⟨rfl, hb⟩; replace HB := hidden hb; clear hb)) | (go_at_call 12; first | ((with_reducible refine (C1.out _ HB.out).mono ?_); rintro e w2 ⟨rfl, hb⟩; replace HB := hidden hb; clear hb) | ((with_reducible refine (C2.out _ HB.out).mono ?_); rintro e w2 ⟨rfl, hb⟩; replace HB := hidden hb; clear hb) | ((with_reducible refine (C3.out _ HB.out).mono ?_); rintro e w2 ⟨rfl, hb⟩; replace HB := hidden hb; clear hb)) | (go_at_call 13; first | ((with_reducible refine (T1.out _ HB.out).mono ?_); rintro e w2 ⟨rfl, hb⟩; replace HB := hidden hb; clear hb) | ((with_reducible refine (T2.out _ HB.out).mono ?_); rintro e w2 ⟨rfl, hb⟩; replace HB := hidden hb; clear hb)) | (go_at_call 11; ((with_reducible refine (F1.out _ HB.out).mono ?_); rintro e w2 ⟨rfl, hb⟩; replace HB := hidden hb; clear hb)) | (go_at_call 15; ((with_reducible refine (U1.out _ HB.out).mono ?_); rintro e w2 ⟨rfl, hb⟩; replace HB := hidden hb; clear hb)) | (go_at_call 14; first | ((with_reducible refine (V1.out _ HB.out).mono ?_); rintro e w2 ⟨rfl, hb⟩; replace HB := hidden hb; clear hb) | ((with_reducible refine (V2.out _ HB.out).mono ?_); rintro e w2 ⟨rfl, hb⟩; replace HB := hidden hb; clear hb)))
      go_ret
      exact ⟨rfl, HB.out⟩
    · clear hTs2
      go_wp2_with (first | (go_at_call 6; ((with_reducible refine (HF.out _ HB.out).mono ?_); rintro e w2 ⟨rfl, hb⟩; replace HB := hidden hb; clear hb)) | (go_at_call 12; first | ((with_reducible refine (C1.out _ HB.out).mono ?_); rintro e w2 ⟨rfl, hb⟩; replace HB := hidden hb; clear hb) | ((with_reducible refine (C2.out _ HB.out).mono ?_); rintro e w2 ⟨rfl, hb⟩; replace HB := hidden hb; clear hb) | ((with_reducible refine (C3.out _ HB.out).mono ?_); rintro e w2 ⟨rfl, hb⟩; replace HB := hidden hb; clear hb)) | (go_at_call 13; first | ((with_reducible refine (T1.out _ HB.out).mono ?_); rintro e w2 ⟨rfl, hb⟩; replace HB := hidden hb; clear hb) | ((with_reducible refine (T2.out _ HB.out).mono ?_); rintro e w2 ⟨rfl, hb⟩; replace HB := hidden hb; clear hb)) | (go_at_call 11; ((with_reducible refine (F1.out _ HB.out).mono ?_); rintro e w2 ⟨rfl, hb⟩; replace HB := hidden hb; clear hb)) | (go_at_call 15; ((with_reducible refine (U1.out _ HB.out).mono ?_); rintro e w2 ⟨rfl, hb⟩; replace HB := hidden hb; clear hb)) | (go_at_call 14; first | ((with_reducible refine (V1.out _ HB.out).mono ?_); rintro e w2 ⟨rfl, hb⟩; replace HB := hidden hb; clear hb) | ((with_reducible refine (V2.out _ HB.out).mono ?_); rintro e w2 ⟨rfl, hb⟩; replace HB := hidden hb; clear hb)))
      go_ret
      exact ⟨rfl, HB.out⟩
    · clear hTs2
      go_wp2_with (first | (go_at_call 6; ((with_reducible refine (HF.out _ HB.out).mono ?_); rintro e w2 ⟨rfl, hb⟩; replace HB := hidden hb; clear hb)) | (go_at_call 12; first | ((with_reducible refine (C1.out _ HB.out).mono ?_); rintro e w2 ⟨rfl, hb⟩; replace HB := hidden hb; clear hb) | ((with_reducible refine (C2.out _ HB.out).mono ?_); rintro e w2 ⟨rfl, hb⟩; replace HB := hidden hb; clear hb) | ((with_reducible refine (C3.out _ HB.out).mono ?_); rintro e w2 ⟨rfl, hb⟩; replace HB := hidden hb; clear hb)) | (go_at_call 13; first | ((with_reducible refine (T1.out _ HB.out).mono ?_); rintro e w2 ⟨rfl, hb⟩; replace HB := hidden hb; clear hb) | ((with_reducible refine (T2.out _ HB.out).mono ?_); rintro e w2 ⟨rfl, hb⟩; replace HB := hidden hb; clear hb)) | (go_at_call 11; ((with_reducible refine (F1.out _ HB.out).mono ?_); rintro e w2 ⟨rfl, hb⟩; replace HB := hidden hb; clear hb)) | (go_at_call 15; ((with_reducible refine (U1.out _ HB.out).mono ?_); rintro e w2 ⟨rfl, hb⟩; replace HB := hidden hb; clear hb)) | (go_at_call 14; first | ((with_reducible refine (V1.out _ HB.out).mono ?_); rintro e w2 ⟨rfl, hb⟩; replace HB := hidden hb; clear hb) | ((with_reducible refine (V2.out _ HB.out).mono ?_); rintro e w2 ⟨rfl, hb⟩; replace HB := hidden hb; clear hb)))
      go_ret
      exact ⟨rfl, HB.out⟩
    · clear hTs2
      go_wp2_with (first | (go_at_call 6; ((with_reducible refine (HF.out _ HB.out).mono ?_); rintro e w2 ⟨rfl, hb⟩; replace HB := hidden hb; clear hb)) | (go_at_call 12; first | ((with_reducible refine (C1.out _ HB.out).mono ?_); rintro e w2 ⟨rfl, hb⟩; replace HB := hidden hb; clear hb) | ((with_reducible refine (C2.out _ HB.out).mono ?_); rintro e w2 ⟨rfl, hb⟩; replace HB := hidden hb; clear hb) | ((with_reducible refine (C3.out _ HB.out).mono ?_); rintro e w2 ⟨rfl, hb⟩; replace HB := hidden hb; clear hb)) | (go_at_call 13; first | ((with_reducible refine (T1.out _ HB.out).mono ?_); rintro e w2 ⟨rfl, hb⟩; replace HB := hidden hb; clear hb) | ((with_reducible refine (T2.out _ HB.out).mono ?_); rintro e w2 ⟨rfl, hb⟩; replace HB := hidden hb; clear hb)) | (go_at_call 11; ((with_reducible refine (F1.out _ HB.out).mono ?_); rintro e w2 ⟨rfl, hb⟩; replace HB := hidden hb; clear hb)) | (go_at_call 15; ((with_reducible refine (U1.out _ HB.out).mono ?_); rintro e w2 ⟨rfl, hb⟩; replace HB := hidden hb; clear hb)) | (go_at_call 14; first | ((with_reducible refine (V1.out _ HB.out).mono ?_); rintro e w2 ⟨rfl, hb⟩; replace HB := hidden hb; clear hb) | ((with_reducible refine (V2.out _ HB.out).mono ?_); rintro e w2 ⟨rfl, hb⟩; replace HB := hidden hb; clear hb)))
      go_ret
      exact ⟨rfl, HB.out⟩
end St
end Go.Proofs.YtdiocmcfaneajaaDoor
