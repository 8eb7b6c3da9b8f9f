/- smithylaw11.StrSays answers true, whatever the texts, the numbers and the flags. Conditions: the words, and the errors, lie in their variables. -/
import Derived.Test.YtdiocmcfaneajaaGreatDoorSrT
import Derived.Test.YtdiocmcfaneajaaGreatDoorStRl
namespace Go.Proofs.YtdiocmcfaneajaaGreatDoor
open Go.RowKit
open Lx
namespace St

theorem few_at' {xs : List ByteArray} {a b : Nat} (h : fewF xs a b = true) : xs.length ≤ a ∧ ∀ x ∈ xs, x.size ≤ b := by
  unfold fewF at h
  rw [Bool.and_eq_true, decide_eq_true_eq, List.all_eq_true] at h
  exact ⟨h.1, fun x hx => by have := h.2 x hx; simpa using this⟩
theorem is_any {A : Nat → Addr} {w : World} (h : Sent A w) {v : Value} {c : Int} (hv : FaultOf A v c) : Ans 10 #[v, .int .i64 c] (.bool true) w :=
  Ans.of fun W hb => by
    have h2 := Is_bare (A := A) c hv W (h.below hb)
    rw [show (c == c) = true by simp] at h2
    exact h2
/-- A text, or why it is none, as both have it. -/
theorem join_both (A : Nat → Addr) (T : L) : ∃ (X : ByteArray) (E : Value) (c : Int), joinV (.iface 153 (.pointer (some (A 7)))) T = .tuple #[.string X, E] ∧ rjoinV T = .tuple #[.string X, .int .i64 c] ∧ FaultOf A E c := by
  unfold joinV rjoinV
  by_cases h : T.length ≤ 1024
  · rw [if_pos h, if_pos h]
    exact ⟨_, _, _, rfl, rfl, .inl ⟨rfl, rfl⟩⟩
  · rw [if_neg h, if_neg h]
    exact ⟨_, _, _, rfl, rfl, .inr ⟨7, by decide, rfl, rfl⟩⟩
theorem rep_both (A : Nat → Addr) (s : L) (n : Int) : ∃ (X : ByteArray) (E : Value) (c : Int), repV (.iface 153 (.pointer (some (A 7)))) s n = .tuple #[.string X, E] ∧ repV' s n = .tuple #[.string X, .int .i64 c] ∧ FaultOf A E c := by
  unfold repV repV'
  by_cases h : s.length = 0 ∨ n < 1
  · rw [if_pos h, if_pos h]
    exact ⟨_, _, _, rfl, rfl, .inl ⟨rfl, rfl⟩⟩
  · rw [if_neg h, if_neg h]
    by_cases h2 : ((1024 / s.length : Nat) : Int) < n
    · rw [if_pos h2, if_pos h2]
      exact ⟨_, _, _, rfl, rfl, .inr ⟨7, by decide, rfl, rfl⟩⟩
    · rw [if_neg h2, if_neg h2]
      exact ⟨_, _, _, rfl, rfl, .inl ⟨rfl, rfl⟩⟩
/-- Called in whatever world that came out of w, f answers a list of these texts. -/
abbrev AnsT (f : FuncId) (args : Array Value) (n : Nat) (tail : Value) (XS : List ByteArray) (w : World) : Prop := ∀ W, Below w.heap.size w W → Calls Tryz.prog f args W fun e w' => ∃ ao cap, e = .returned (.tuple #[.slice ao n cap, tail]) ∧ Txs w' ao XS ∧ Below W.heap.size W w'
abbrev AnsL (f : FuncId) (args : Array Value) (n : Nat) (XS : List ByteArray) (w : World) : Prop := ∀ W, Below w.heap.size w W → Calls Tryz.prog f args W fun e w' => ∃ ao cap, e = .returned (.slice ao n cap) ∧ Txs w' ao XS ∧ Below W.heap.size W w'
theorem split_both {A : Nat → Addr} {m : Int} {w : World} (hL : Lw (E A 3) 153 (.pointer (some (A 7))) m w) (s t : ByteArray) (n : Int) (hs : s.size ≤ 1000) (ht : t.size ≤ 1000) : ∃ (n0 : Nat) (E0 : Value) (c0 : Int) (XS : List ByteArray), XS.length = n0 ∧ n0 ≤ 1001 ∧
    AnsT 7 #[.string s, .string t, .int .i64 n] n0 E0 XS w ∧ AnsT 8 #[.string s, .string t, .int .i64 n] n0 (.int .i64 c0) XS w ∧ FaultOf A E0 c0 := by
  by_cases h0 : t.size = 0
  · obtain rfl := text_nil h0
    refine ⟨0, E A 3, 104, [], rfl, by omega, fun W hb => ?_, fun W _ => ?_, .inr ⟨3, by decide, rfl, rfl⟩⟩
    · refine (split_none (E A 3) _ m s n W (hL.cx.below hb)).mono ?_
      rintro e w' ⟨rfl, h⟩
      exact ⟨none, 0, rfl, .inl rfl, h⟩
    · refine (rsplit_none s n W).mono ?_
      rintro e w' ⟨rfl, h⟩
      exact ⟨none, 0, rfl, .inl rfl, h⟩
  · have hsl : t.data.toList ≠ [] := fun e => h0 (by rw [← size_data, e]; rfl)
    have hlen := split_short t.data.toList hsl (s.size + 1) n s.data.toList
    rw [size_data] at hlen
    refine ⟨(splitF t.data.toList (s.size + 1) n s.data.toList).length, .nilIface, 0, texts (splitF t.data.toList (s.size + 1) n s.data.toList), by unfold texts; rw [List.length_map], by omega, fun W hb => ?_, fun W _ => ?_, .inl ⟨rfl, rfl⟩⟩
    · refine (split_any (E A 3) _ m s t n W (hL.cx.below hb) hs h0).mono ?_
      rintro e w' ⟨v, rfl, hO, h⟩
      obtain ⟨ao, cap, rfl, hX⟩ := hO.txs
      exact ⟨ao, cap, by unfold texts; rw [List.length_map], hX, h⟩
    · refine (rsplit_any s t n W hs (by omega) h0).mono ?_
      rintro e w' ⟨v, rfl, hO, h⟩
      obtain ⟨ao, cap, rfl, hX⟩ := hO.txs
      exact ⟨ao, cap, by unfold texts; rw [List.length_map], hX, h⟩
theorem words_few : ∀ (s cur : L), (wordsG cur s).length ≤ s.length + 1
  | [], cur => by rw [wordsG]; split <;> simp
  | c :: t, cur => by
    rw [wordsG]
    split
    · split
      · have := words_few t []
        rw [List.length_cons]; omega
      · have := words_few t []
        rw [List.length_cons, List.length_cons]; omega
    · have := words_few t (cur ++ [c])
      rw [List.length_cons]; omega
theorem words_both (w : World) (s : ByteArray) (hs : s.size ≤ 1000) : ∃ (n : Nat) (YS : List ByteArray), YS.length = n ∧ n ≤ 1001 ∧ AnsL 19 #[.string s] n YS w ∧ AnsL 20 #[.string s] n YS w := by
  have hlen := words_few s.data.toList []
  rw [size_data] at hlen
  refine ⟨(wordsF s.data.toList).length, texts (wordsF s.data.toList), by unfold texts; rw [List.length_map], by unfold wordsF; omega, fun W _ => ?_, fun W _ => ?_⟩
  · refine (words_any s W (by omega)).mono ?_
    rintro e w' ⟨ao, n, cap, rfl, rfl, hX, h⟩
    exact ⟨ao, cap, rfl, hX, h⟩
  · refine (rwords_any s W hs).mono ?_
    rintro e w' ⟨ao, n, cap, rfl, rfl, hO, h⟩
    obtain ⟨ao2, cap2, e2, hX⟩ := hO.txs
    injection e2 with e3 e4 e5
    exact ⟨ao, cap, rfl, by rw [e3]; exact hX, h⟩

set_option maxRecDepth 100000 in
set_option maxHeartbeats 12800000 in
theorem strSays_any {A : Nat → Addr} {m : Int} {w : World} (hL : Lw (E A 3) 153 (.pointer (some (A 7))) m w) (hS : Sent A w) (s t u : ByteArray) (ao : Option Addr) (cap nl : Nat) (xs : List ByteArray) (hX : Txs w ao xs) (hnl : xs.length = nl) (n k : Int) (a b : Bool)
    (h1 : -9223372036854775808 ≤ n) (h2 : n ≤ 9223372036854775807) (h3 : -9223372036854775808 ≤ k) (h4 : k ≤ 9223372036854775807) :
    Calls Tryz.prog 3 #[.string s, .string t, .string u, .slice ao nl cap, .int .i64 n, .int .i64 k, .bool a, .bool b] w fun e w' => e = .returned (.bool true) ∧ Below w.heap.size w w' := by
  have HF := hidden hL.first
  have HB := hidden (Below.refl w.heap.size w)
  obtain ⟨R, hR⟩ : ∃ R, fewF xs 10 100 = R := ⟨_, rfl⟩
  have ht : Ans 6 #[.slice ao nl cap, .int .i64 10, .int .i64 100] (.bool R) w := by
    subst hR
    exact Ans.still fun W hb => few_any ao cap nl xs 10 100 W hnl (by decide) (hX.below hb)
  have HT := hidden ht
  clear ht
  by_cases hok : s.size ≤ 300 ∧ t.size ≤ 300 ∧ u.size ≤ 300 ∧ R = true
  · obtain ⟨hs, htt, hu, rfl⟩ := hok
    obtain ⟨hl10, hlx⟩ := few_at' hR
    have hsz : ∀ x ∈ xs, x.size < 1000000 := fun x hx => by have := hlx x hx; omega
    obtain ⟨n0, E0, c0, XS, hXl, hn0, hsp, hrs, hf0⟩ := split_both hL s t n (by omega) (by omega)
    obtain ⟨n1, YS, hYl, hn1, hwd, hrw⟩ := words_both w s (by omega)
    obtain ⟨X1, E1, e1, hj1, hj2, hf1⟩ := join_both A (joinF t.data.toList (datas xs))
    obtain ⟨X2, E2, e2, hr1, hr2, hf2⟩ := join_both A (repF s.data.toList t.data.toList u.data.toList (s.size + 2) n 0 0)
    obtain ⟨X3, E3, e3, hp1, hp2, hf3⟩ := rep_both A s.data.toList k
    have HXL := hidden hXl
    have HYL := hidden hYl
    have HSP := hidden hsp
    have HRS := hidden hrs
    have HWD := hidden hwd
    have HRW := hidden hrw
    have IS0 := hidden (is_any hS hf0)
    have IS1 := hidden (is_any hS hf1)
    have IS2 := hidden (is_any hS hf2)
    have IS3 := hidden (is_any hS hf3)
    have J1 := hidden (hL.join t ao cap nl xs _ hj1 hX hnl (by omega) hsz (by omega))
    have J2 : Hid (Ans 12 #[.string t, .slice ao nl cap] (.tuple #[.string X1, .int .i64 e1]) w) := hidden (Ans.of fun W hb => by rw [← hj2]; exact rjoin_any t ao cap nl xs W hnl (by omega) (hX.below hb) hsz (by omega))
    have R1 := hidden (hL.replace s t u n _ hr1 (by omega) (by omega) (by omega))
    have R2 : Hid (Ans 14 #[.string s, .string t, .string u, .int .i64 n] (.tuple #[.string X2, .int .i64 e2]) w) := hidden (Ans.of fun W _ => by rw [← hr2]; exact rreplace_any s t u n W (by omega) (by omega) (by omega))
    have P1 := hidden (hL.repeat s k _ hp1 (by omega) h4)
    have P2 : Hid (Ans 16 #[.string s, .int .i64 k] (.tuple #[.string X3, .int .i64 e3]) w) := hidden (Ans.of fun W _ => by rw [← hp2]; exact rrepeat_any s k W (by omega))
    obtain ⟨p, hp⟩ : ∃ p, fromF s.size n a = p := ⟨_, rfl⟩
    obtain ⟨q, hq⟩ : ∃ q, toF s.size n k a b = q := ⟨_, rfl⟩
    have C1 := hidden (cut_ans w s.size n k a b p q hp hq (by omega) h1 h2 h3 h4)
    have C2 : Hid (Ans 18 #[.int .i64 (s.size : Int), .int .i64 n, .int .i64 k, .bool a, .bool b] (.tuple #[.int .i64 (p : Int), .int .i64 (q : Int)]) w) := hidden (Ans.still fun W _ => by rw [← hp, ← hq]; exact rcut_any s.size n k a b (by omega) h1 h2 h3 h4 W)
    obtain ⟨x, hx⟩ : ∃ x, findF s.data.toList t.data.toList n k = x := ⟨_, rfl⟩
    have F1 := hidden (hL.find s t n k x hx (by omega) h1 h2 h3 h4)
    have F2 : Hid (Ans 22 #[.string s, .string t, .int .i64 n, .int .i64 k] (.int .i64 x) w) := hidden (Ans.still fun W _ => by rw [← hx]; exact rfind_any s t n k (by omega) (by omega) h1 h2 h3 h4 W)
    obtain ⟨cn, hcn⟩ : ∃ cn, countF s.data.toList t.data.toList = cn := ⟨_, rfl⟩
    have N1 := hidden (hL.count s t cn hcn (by omega))
    have N2 : Hid (Ans 24 #[.string s, .string t] (.int .i64 (cn : Int)) w) := hidden (Ans.still fun W _ => by rw [← hcn]; exact rcount_any s t (by omega) (by omega) W)
    obtain ⟨T1, hT1⟩ : ∃ T1, txt (stripF (setF t.data.toList).contains a b s.data.toList) = T1 := ⟨_, rfl⟩
    have S1 := hidden (strip_ans w s t a b T1 hT1 (by omega) (by omega))
    have S2 : Hid (Ans 26 #[.string s, .string t, .bool a, .bool b] (.string T1) w) := hidden (Ans.still fun W _ => by rw [← hT1]; exact rstrip_any s t a b W (by omega) (by omega))
    obtain ⟨V1, hV1⟩ : ∃ V1, txt (s.data.toList.map upB) = V1 := ⟨_, rfl⟩
    obtain ⟨V2, hV2⟩ : ∃ V2, txt (s.data.toList.map loB) = V2 := ⟨_, rfl⟩
    have U1 := hidden (upper_ans w s V1 hV1 (by omega))
    have U2 := hidden (lower_ans w s V2 hV2 (by omega))
    have U3 : Hid (Ans 28 #[.string s, .bool true] (.string V1) w) := hidden (Ans.of fun W _ => by rw [← hV1]; exact rturn_any s true W (by omega))
    have U4 : Hid (Ans 28 #[.string s, .bool false] (.string V2) w) := hidden (Ans.of fun W _ => by rw [← hV2]; exact rturn_any s false W (by omega))
    obtain ⟨dg, hdg⟩ : ∃ dg, isDigF s.data.toList = dg := ⟨_, rfl⟩
    have D1 : Hid (Ans 30 #[.string s] (.bool dg) w) := hidden (Ans.still fun W _ => by rw [← hdg]; exact isDigits_any s W (by omega))
    have D2 : Hid (Ans 31 #[.string s] (.bool dg) w) := hidden (Ans.still fun W _ => by rw [← hdg]; exact risDigits_any s W (by omega))
    clear hL hS hX hnl h1 h2 h3 h4 hR hl10 hlx hsz hXl hYl hsp hrs hf0 hwd hrw hj1 hj2 hf1 hr1 hr2 hf2 hp1 hp2 hf3 hp hq hx hcn hT1 hV1 hV2 hdg
    go_enter Tryz.func3, Tryz.ntmps3
    go_wp2_with (first | (go_at_call 5; ((with_reducible refine (HF.out _ HB.out).mono ?_); rintro e w2 ⟨rfl, hb⟩; replace HB := hidden hb; clear hb)) | (go_at_call 6; ((with_reducible refine (HT.out _ HB.out).mono ?_); rintro e w2 ⟨rfl, hb⟩; replace HB := hidden hb; clear hb)) | (go_at_call 7; (with_reducible refine (HSP.out _ HB.out).mono ?_); rintro e w2 ⟨a1, c1, rfl, hx, hb⟩; have HX1 := hidden hx; replace HB := hidden (HB.out.trans (hb.mono HB.out.size)); clear hb; clear hx) | (go_at_call 8; (with_reducible refine (HRS.out _ HB.out).mono ?_); rintro e w2 ⟨a2, c2, rfl, hx, hb⟩; replace HX1 := hidden (HX1.out.below hb); have HX2 := hidden hx; replace HB := hidden (HB.out.trans (hb.mono HB.out.size)); clear hb; clear hx) | (go_at_call 19; (with_reducible refine (HWD.out _ HB.out).mono ?_); rintro e w2 ⟨a3, c3, rfl, hx, hb⟩; have HY1 := hidden hx; replace HB := hidden (HB.out.trans (hb.mono HB.out.size)); clear hb; clear hx) | (go_at_call 20; (with_reducible refine (HRW.out _ HB.out).mono ?_); rintro e w2 ⟨a4, c4, rfl, hx, hb⟩; replace HY1 := hidden (HY1.out.below hb); have HY2 := hidden hx; replace HB := hidden (HB.out.trans (hb.mono HB.out.size)); clear hb; clear hx) | (go_at_call 9; first | ((refine (same_any a3 a4 c3 c4 n1 n1 YS _ (by have := HYL.out; omega) HYL.out HYL.out HY1.out HY2.out).mono ?_); rintro e w2 ⟨rfl, hb⟩; replace HB := hidden (HB.out.trans (hb.mono HB.out.size)); clear hb) | ((refine (same_any a1 a2 c1 c2 n0 n0 XS _ (by have := HXL.out; omega) HXL.out HXL.out HX1.out HX2.out).mono ?_); rintro e w2 ⟨rfl, hb⟩; replace HB := hidden (HB.out.trans (hb.mono HB.out.size)); clear hb)) | (go_at_call 10; first | ((with_reducible refine (IS0.out _ HB.out).mono ?_); rintro e w2 ⟨rfl, hb⟩; replace HB := hidden hb; clear hb) | ((with_reducible refine (IS1.out _ HB.out).mono ?_); rintro e w2 ⟨rfl, hb⟩; replace HB := hidden hb; clear hb) | ((with_reducible refine (IS2.out _ HB.out).mono ?_); rintro e w2 ⟨rfl, hb⟩; replace HB := hidden hb; clear hb) | ((with_reducible refine (IS3.out _ HB.out).mono ?_); rintro e w2 ⟨rfl, hb⟩; replace HB := hidden hb; clear hb)) | (go_at_call 11; ((with_reducible refine (J1.out _ HB.out).mono ?_); rintro e w2 ⟨rfl, hb⟩; replace HB := hidden hb; clear hb)) | (go_at_call 12; ((with_reducible refine (J2.out _ HB.out).mono ?_); rintro e w2 ⟨rfl, hb⟩; replace HB := hidden hb; clear hb)) | (go_at_call 13; ((with_reducible refine (R1.out _ HB.out).mono ?_); rintro e w2 ⟨rfl, hb⟩; replace HB := hidden hb; clear hb)) | (go_at_call 14; ((with_reducible refine (R2.out _ HB.out).mono ?_); rintro e w2 ⟨rfl, hb⟩; replace HB := hidden hb; clear hb)) | (go_at_call 15; ((with_reducible refine (P1.out _ HB.out).mono ?_); rintro e w2 ⟨rfl, hb⟩; replace HB := hidden hb; clear hb)) | (go_at_call 16; ((with_reducible refine (P2.out _ HB.out).mono ?_); rintro e w2 ⟨rfl, hb⟩; replace HB := hidden hb; clear hb)) | (go_at_call 17; ((with_reducible refine (C1.out _ HB.out).mono ?_); rintro e w2 ⟨rfl, hb⟩; replace HB := hidden hb; clear hb)) | (go_at_call 18; ((with_reducible refine (C2.out _ HB.out).mono ?_); rintro e w2 ⟨rfl, hb⟩; replace HB := hidden hb; clear hb)) | (go_at_call 21; ((with_reducible refine (F1.out _ HB.out).mono ?_); rintro e w2 ⟨rfl, hb⟩; replace HB := hidden hb; clear hb)) | (go_at_call 22; ((with_reducible refine (F2.out _ HB.out).mono ?_); rintro e w2 ⟨rfl, hb⟩; replace HB := hidden hb; clear hb)) | (go_at_call 23; ((with_reducible refine (N1.out _ HB.out).mono ?_); rintro e w2 ⟨rfl, hb⟩; replace HB := hidden hb; clear hb)) | (go_at_call 24; ((with_reducible refine (N2.out _ HB.out).mono ?_); rintro e w2 ⟨rfl, hb⟩; replace HB := hidden hb; clear hb)) | (go_at_call 25; ((with_reducible refine (S1.out _ HB.out).mono ?_); rintro e w2 ⟨rfl, hb⟩; replace HB := hidden hb; clear hb)) | (go_at_call 26; ((with_reducible refine (S2.out _ HB.out).mono ?_); rintro e w2 ⟨rfl, hb⟩; replace HB := hidden hb; clear hb)) | (go_at_call 27; ((with_reducible refine (U1.out _ HB.out).mono ?_); rintro e w2 ⟨rfl, hb⟩; replace HB := hidden hb; clear hb)) | (go_at_call 29; ((with_reducible refine (U2.out _ HB.out).mono ?_); rintro e w2 ⟨rfl, hb⟩; replace HB := hidden hb; clear hb)) | (go_at_call 28; first | ((with_reducible refine (U3.out _ HB.out).mono ?_); rintro e w2 ⟨rfl, hb⟩; replace HB := hidden hb; clear hb) | ((with_reducible refine (U4.out _ HB.out).mono ?_); rintro e w2 ⟨rfl, hb⟩; replace HB := hidden hb; clear hb)) | (go_at_call 30; ((with_reducible refine (D1.out _ HB.out).mono ?_); rintro e w2 ⟨rfl, hb⟩; replace HB := hidden hb; clear hb)) | (go_at_call 31; ((with_reducible refine (D2.out _ HB.out).mono ?_); rintro e w2 ⟨rfl, hb⟩; replace HB := hidden hb; clear hb)))
    go_ret
    exact ⟨by first | rfl | exact ret_bool (by simp), HB.out⟩
  · have hcs : 300 < s.size ∨ (s.size ≤ 300 ∧ 300 < t.size) ∨ (s.size ≤ 300 ∧ t.size ≤ 300 ∧ 300 < u.size) ∨ (s.size ≤ 300 ∧ t.size ≤ 300 ∧ u.size ≤ 300 ∧ R = false) := by
      cases R with
      | false =>
        by_cases g1 : s.size ≤ 300
        · by_cases g2 : t.size ≤ 300
          · by_cases g3 : u.size ≤ 300
            · exact .inr (.inr (.inr ⟨g1, g2, g3, rfl⟩))
            · exact .inr (.inr (.inl ⟨g1, g2, by omega⟩))
          · exact .inr (.inl ⟨g1, by omega⟩)
        · exact .inl (by omega)
      | true =>
        have h5 : ¬ (s.size ≤ 300 ∧ t.size ≤ 300 ∧ u.size ≤ 300) := fun h => hok ⟨h.1, h.2.1, h.2.2, rfl⟩
        omega
    clear hL hS hX hnl h1 h2 h3 h4 hR hok
    rcases hcs with h1 | ⟨h1, h2⟩ | ⟨h1, h2, h3⟩ | ⟨h1, h2, h3, rfl⟩
    · go_enter Tryz.func3, Tryz.ntmps3
      go_wp2_with (first | (go_at_call 5; ((with_reducible refine (HF.out _ HB.out).mono ?_); rintro e w2 ⟨rfl, hb⟩; replace HB := hidden hb; clear hb)) | (go_at_call 6; ((with_reducible refine (HT.out _ HB.out).mono ?_); rintro e w2 ⟨rfl, hb⟩; replace HB := hidden hb; clear hb)))
      go_ret
      exact ⟨rfl, HB.out⟩
    · go_enter Tryz.func3, Tryz.ntmps3
      go_wp2_with (first | (go_at_call 5; ((with_reducible refine (HF.out _ HB.out).mono ?_); rintro e w2 ⟨rfl, hb⟩; replace HB := hidden hb; clear hb)) | (go_at_call 6; ((with_reducible refine (HT.out _ HB.out).mono ?_); rintro e w2 ⟨rfl, hb⟩; replace HB := hidden hb; clear hb)))
      go_ret
      exact ⟨rfl, HB.out⟩
    · go_enter Tryz.func3, Tryz.ntmps3
      go_wp2_with (first | (go_at_call 5; ((with_reducible refine (HF.out _ HB.out).mono ?_); rintro e w2 ⟨rfl, hb⟩; replace HB := hidden hb; clear hb)) | (go_at_call 6; ((with_reducible refine (HT.out _ HB.out).mono ?_); rintro e w2 ⟨rfl, hb⟩; replace HB := hidden hb; clear hb)))
      go_ret
      exact ⟨rfl, HB.out⟩
    · go_enter Tryz.func3, Tryz.ntmps3
      go_wp2_with (first | (go_at_call 5; ((with_reducible refine (HF.out _ HB.out).mono ?_); rintro e w2 ⟨rfl, hb⟩; replace HB := hidden hb; clear hb)) | (go_at_call 6; ((with_reducible refine (HT.out _ HB.out).mono ?_); rintro e w2 ⟨rfl, hb⟩; replace HB := hidden hb; clear hb)))
      go_ret
      exact ⟨rfl, HB.out⟩
end St
end Go.Proofs.YtdiocmcfaneajaaGreatDoor
