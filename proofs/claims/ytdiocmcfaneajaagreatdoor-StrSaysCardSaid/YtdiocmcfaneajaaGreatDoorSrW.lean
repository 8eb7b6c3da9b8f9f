/- What the document's Words and Strip answer. Conditions: short texts. -/
import Derived.Test.YtdiocmcfaneajaaGreatDoorSrE
namespace Go.Proofs.YtdiocmcfaneajaaGreatDoor
open Go.RowKit
open Lx
namespace St

/-- The word that is under way, and what is still to come. -/
def restW (s : L) (cur : L) (k : Nat) : List L := if k ≤ s.length then wordsG cur (s.drop k) else []
theorem restW_lt (s cur : L) (k : Nat) (hk : k ≤ s.length) : restW s cur k = wordsG cur (s.drop k) := if_pos hk
theorem restW_gt (s cur : L) (k : Nat) (hk : ¬ k ≤ s.length) : restW s cur k = [] := if_neg hk
theorem restW_blank (s cur : L) (k : Nat) (hk : k < s.length) (h : isBl s[k] = true) : restW s cur k = (if cur = [] then [] else [cur]) ++ restW s [] (k + 1) := by
  rw [restW_lt s cur k (by omega), restW_lt s [] (k + 1) (by omega), List.drop_eq_getElem_cons hk, wordsG, if_pos h]
  by_cases hc : cur = []
  · rw [if_pos hc, if_pos hc, List.nil_append]
  · rw [if_neg hc, if_neg hc]
    rfl
theorem restW_in (s cur : L) (k : Nat) (hk : k < s.length) (h : isBl s[k] = false) : restW s cur k = restW s (cur ++ [s[k]]) (k + 1) := by
  rw [restW_lt s cur k (by omega), restW_lt s _ (k + 1) (by omega), List.drop_eq_getElem_cons hk, wordsG, if_neg (by rw [h]; decide)]
theorem restW_end (s cur : L) (k : Nat) (hk : k = s.length) : restW s cur k = (if cur = [] then [] else [cur]) ++ restW s [] (k + 1) := by
  rw [restW_lt s cur k (by omega), restW_gt s [] (k + 1) (by omega), List.drop_of_length_le (by omega), wordsG, List.append_nil]
theorem ext_more (s : ByteArray) (a k : Nat) (ha : a ≤ k) (hk : k < s.size) : (s.extract a (k + 1)).data.toList = (s.extract a k).data.toList ++ [s[k]] := by
  have hkl : k < s.data.toList.length := by rw [size_data]; exact hk
  rw [mid_data, mid_data, List.take_succ_eq_append_getElem hkl, List.drop_append_of_le_length (by rw [List.length_take]; omega)]
  rfl
theorem ext_some (s : ByteArray) (a k : Nat) (ha : a < k) (hk : k ≤ s.size) : (s.extract a k).data.toList ≠ [] := fun e => by
  have h : (s.extract a k).size = 0 := by rw [← size_data, e]; rfl
  rw [ByteArray.size_extract] at h
  omega
set_option maxRecDepth 100000 in
set_option maxHeartbeats 6400000 in
theorem rwords_any (s : ByteArray) (w : World) (hs : s.size ≤ 1000) :
    Calls Tryz.prog 20 #[.string s] w fun e w' => ∃ ao n cap, e = .returned (.slice ao n cap) ∧ (wordsF s.data.toList).length = n ∧ OwnT w' w.heap.size (.slice ao n cap) (texts (wordsF s.data.toList)) ∧ Below w.heap.size w w' := by
  obtain ⟨T, hT⟩ : ∃ T, wordsF s.data.toList = T := ⟨_, rfl⟩
  have HT : Hid (restW s.data.toList [] 0 = T) := hidden (by rw [restW, if_pos (Nat.zero_le _), List.drop_zero]; exact hT)
  rw [hT]
  clear hT
  go_enter Tryz.func20, Tryz.ntmps20
  go_wp2
  go_loopw [3, 4, 5] (fun vl vf vi wr => ∃ k c : Nat, ∃ pre : List L, ∃ fr : Int, ∃ cur : L, ∃ ao cap, vi = .int .i64 k ∧ vf = .int .i64 fr ∧ vl = .slice ao c cap ∧ k ≤ s.size + 1 ∧ c ≤ k ∧ ((fr = -1 ∧ Hid (cur = [])) ∨ (0 ≤ fr ∧ fr < (k : Int) ∧ k ≤ s.size ∧ Hid (cur = (s.extract fr.toNat k).data.toList))) ∧ Hid (pre.length = c) ∧ Hid (pre ++ restW s.data.toList cur k = T) ∧ Hid (OwnT wr w.heap.size (.slice ao c cap) (texts pre)) ∧ Hid (Below w.heap.size w wr)) (fun _ _ vi _ => s.size + 1 - (intOf vi).toNat)
  case atStart => exact ⟨0, 0, [], -1, [], none, 0, rfl, rfl, rfl, by omega, by omega, .inl ⟨rfl, hidden rfl⟩, hidden rfl, hidden (by simpa using HT.out), hidden (ownT_nil _ _), hidden (Below.refl _ _)⟩
  case round =>
    obtain ⟨k, c, pre, fr, cur, ao, cap, rfl, rfl, rfl, hk, hck, hcs, hpl, hall, hO, hb⟩ := hrel
    have HPL : Hid ((texts pre).length = c) := hidden (by unfold texts; rw [List.length_map, hpl.out])
    have hbs := hb.out.size
    clear HT
    by_cases hlt : k ≤ s.size
    · by_cases hkl : k < s.size
      · have hix := idx_at s k hkl
        have hkl' : k < s.data.toList.length := by rw [size_data]; exact hkl
        have hcc : s.data.toList[k] = s[k] := rfl
        obtain ⟨d, hd⟩ : ∃ d, s[k] = d := ⟨_, rfl⟩
        rw [hd] at hix
        have HB := hidden (rblank_any d wr)
        obtain ⟨o, hoc⟩ : ∃ o, isBl d = o := ⟨_, rfl⟩
        rw [hoc] at HB
        cases o with
        | true =>
          have hst := restW_blank s.data.toList cur k hkl' (by rw [hcc, hd]; exact hoc)
          rcases hcs with ⟨rfl, hcur⟩ | ⟨hf0, hfk, _, hcur⟩
          · have R1 : Hid (pre ++ restW s.data.toList [] (k + 1) = T) := hidden (by rw [← hall.out, hst, if_pos hcur.out, List.nil_append])
            clear hd hcc hoc hst hkl'
            go_wp2_with (first | (go_at_call 46; (with_reducible refine HB.out.mono ?_); rintro e w' ⟨rfl, hw⟩; rw [hw]; clear hw))
            go_roundw
            case rel => exact ⟨k + 1, c, pre, -1, [], ao, cap, by go_num, rfl, rfl, by omega, by omega, .inl ⟨rfl, hidden rfl⟩, hpl, R1, hO, hb⟩
            case measure => simp [intOf]; omega
          · obtain ⟨a, rfl⟩ : ∃ a : Nat, fr = (a : Int) := ⟨fr.toNat, by omega⟩
            rw [Int.toNat_natCast] at hcur
            have hsl := slice_mid s a k (by omega) hlt
            have hcn := ext_some s a k (by omega) hlt
            obtain ⟨X, hX⟩ : ∃ X, s.extract a k = X := ⟨_, rfl⟩
            rw [hX] at hsl hcur hcn
            have R1 : Hid (pre ++ [X.data.toList] ++ restW s.data.toList [] (k + 1) = T) := hidden (by rw [← hall.out, hst, hcur.out, if_neg hcn, List.append_assoc])
            have R2 : Hid ((pre ++ [X.data.toList]).length = c + 1) := hidden (by rw [List.length_append, hpl.out]; rfl)
            clear hd hcc hoc hst hkl' hX hcn
            go_wp2_with (first | (go_at_call 46; (with_reducible refine HB.out.mono ?_); rintro e w' ⟨rfl, hw⟩; rw [hw]; clear hw) | (at_builtin; refine text_onto hO.out X (c + 1) (by rw [HPL.out]) hbs (by rw [HPL.out]; omega) rfl _ _ rfl rfl rfl ?_; intro g cap2 w2 hown2 hb3; have HO3 := hidden hown2; have HB3 := hidden hb3; clear hown2 hb3))
            have R4 : Hid (OwnT w2 w.heap.size (.slice (some ⟨g, 0, none⟩) (c + 1) cap2) (texts (pre ++ [X.data.toList]))) := hidden (by
              have e : texts (pre ++ [X.data.toList]) = texts pre ++ [X] := by simp [texts, txt_data]
              rw [e]; exact HO3.out)
            have R5 := hidden (hb.out.trans HB3.out)
            go_roundw
            case rel => exact ⟨k + 1, c + 1, pre ++ [X.data.toList], -1, [], _, _, by go_num, rfl, rfl, by omega, by omega, .inl ⟨rfl, hidden rfl⟩, R2, R1, R4, R5⟩
            case measure => simp [intOf]; omega
        | false =>
          have hst := restW_in s.data.toList cur k hkl' (by rw [hcc, hd]; exact hoc)
          rcases hcs with ⟨rfl, hcur⟩ | ⟨hf0, hfk, _, hcur⟩
          · have R1 : Hid (pre ++ restW s.data.toList [d] (k + 1) = T) := hidden (by rw [← hall.out, hst, hcur.out, hcc, hd, List.nil_append])
            have R2 : Hid ([d] = (s.extract ((k : Int)).toNat (k + 1)).data.toList) := hidden (by
              rw [Int.toNat_natCast, ext_more s k k (Nat.le_refl _) hkl, hd]
              have : (s.extract k k).data.toList = [] := by rw [ext_data, Nat.sub_self, List.take_zero]
              rw [this, List.nil_append])
            clear hd hcc hoc hst hkl'
            go_wp2_with (first | (go_at_call 46; (with_reducible refine HB.out.mono ?_); rintro e w' ⟨rfl, hw⟩; rw [hw]; clear hw))
            go_roundw
            case rel => exact ⟨k + 1, c, pre, (k : Int), [d], ao, cap, by go_num, rfl, rfl, by omega, by omega, .inr ⟨by omega, by omega, by omega, R2⟩, hpl, R1, hO, hb⟩
            case measure => simp [intOf]; omega
          · obtain ⟨a, rfl⟩ : ∃ a : Nat, fr = (a : Int) := ⟨fr.toNat, by omega⟩
            rw [Int.toNat_natCast] at hcur
            have R1 : Hid (pre ++ restW s.data.toList (cur ++ [d]) (k + 1) = T) := hidden (by rw [← hall.out, hst, hcc, hd])
            have R2 : Hid (cur ++ [d] = (s.extract ((a : Int)).toNat (k + 1)).data.toList) := hidden (by
              rw [Int.toNat_natCast, ext_more s a k (by omega) hkl, hd, hcur.out])
            clear hd hcc hoc hst hkl'
            go_wp2_with (first | (go_at_call 46; (with_reducible refine HB.out.mono ?_); rintro e w' ⟨rfl, hw⟩; rw [hw]; clear hw))
            go_roundw
            case rel => exact ⟨k + 1, c, pre, (a : Int), cur ++ [d], ao, cap, by go_num, rfl, rfl, by omega, by omega, .inr ⟨by omega, by omega, by omega, R2⟩, hpl, R1, hO, hb⟩
            case measure => simp [intOf]; omega
      · have hst := restW_end s.data.toList cur k (by rw [size_data]; omega)
        rcases hcs with ⟨rfl, hcur⟩ | ⟨hf0, hfk, _, hcur⟩
        · have R1 : Hid (pre ++ restW s.data.toList [] (k + 1) = T) := hidden (by rw [← hall.out, hst, if_pos hcur.out, List.nil_append])
          clear hst
          go_wp2
          go_roundw
          case rel => exact ⟨k + 1, c, pre, -1, [], ao, cap, by go_num, rfl, rfl, by omega, by omega, .inl ⟨rfl, hidden rfl⟩, hpl, R1, hO, hb⟩
          case measure => simp [intOf]; omega
        · obtain ⟨a, rfl⟩ : ∃ a : Nat, fr = (a : Int) := ⟨fr.toNat, by omega⟩
          rw [Int.toNat_natCast] at hcur
          have hsl := slice_mid s a k (by omega) hlt
          have hcn := ext_some s a k (by omega) hlt
          obtain ⟨X, hX⟩ : ∃ X, s.extract a k = X := ⟨_, rfl⟩
          rw [hX] at hsl hcur hcn
          have R1 : Hid (pre ++ [X.data.toList] ++ restW s.data.toList [] (k + 1) = T) := hidden (by rw [← hall.out, hst, hcur.out, if_neg hcn, List.append_assoc])
          have R2 : Hid ((pre ++ [X.data.toList]).length = c + 1) := hidden (by rw [List.length_append, hpl.out]; rfl)
          clear hst hX hcn
          go_wp2_with (first | (at_builtin; refine text_onto hO.out X (c + 1) (by rw [HPL.out]) hbs (by rw [HPL.out]; omega) rfl _ _ rfl rfl rfl ?_; intro g cap2 w2 hown2 hb3; have HO3 := hidden hown2; have HB3 := hidden hb3; clear hown2 hb3))
          have R4 : Hid (OwnT w2 w.heap.size (.slice (some ⟨g, 0, none⟩) (c + 1) cap2) (texts (pre ++ [X.data.toList]))) := hidden (by
            have e : texts (pre ++ [X.data.toList]) = texts pre ++ [X] := by simp [texts, txt_data]
            rw [e]; exact HO3.out)
          have R5 := hidden (hb.out.trans HB3.out)
          go_roundw
          case rel => exact ⟨k + 1, c + 1, pre ++ [X.data.toList], -1, [], _, _, by go_num, rfl, rfl, by omega, by omega, .inl ⟨rfl, hidden rfl⟩, R2, R1, R4, R5⟩
          case measure => simp [intOf]; omega
    · have hfin : Hid (pre = T) := hidden (by
        have h8 := hall.out
        rwa [restW, if_neg (by rw [size_data]; omega), List.append_nil] at h8)
      clear hcs
      go_wp2
      go_ret
      exact ⟨ao, c, cap, rfl, by rw [← hfin.out]; exact hpl.out, by rw [← hfin.out]; exact hO.out, hb.out⟩

set_option maxRecDepth 100000 in
set_option maxHeartbeats 6400000 in
theorem rstrip_any (s t : ByteArray) (l r : Bool) (w : World) (hs : s.size ≤ 100000) (ht : t.size ≤ 100000) :
    Calls Tryz.prog 26 #[.string s, .string t, .bool l, .bool r] w fun e w' => e = .returned (.string (txt (stripF (setF t.data.toList).contains l r s.data.toList))) ∧ w' = w := by
  have HS := hidden (fun (c : UInt8) (W : World) => rstrips_any c t W ht)
  generalize (setF t.data.toList).contains = p at HS ⊢
  obtain ⟨ANS, hANS⟩ : ∃ A, txt (stripF p l r s.data.toList) = A := ⟨_, rfl⟩
  have HANS := hidden hANS
  rw [hANS]
  clear hANS
  go_enter Tryz.func26, Tryz.ntmps26
  go_wp2
  go_loop [9] (fun va => ∃ a : Nat, va = .int .i64 a ∧ a ≤ s.size ∧ Hid (stepL p l (s.data.toList.drop a) = stepL p l s.data.toList)) (fun va => s.size - (intOf va).toNat)
  case atStart => exact ⟨0, rfl, by omega, hidden rfl⟩
  case round =>
    obtain ⟨a, rfl, ha, hst⟩ := hrel
    by_cases hgo : l = true ∧ ∃ h : a < s.size, p s[a] = true
    · obtain ⟨rfl, h0, hc⟩ := hgo
      have hix := idx_at s a h0
      have hkl' : a < s.data.toList.length := by rw [size_data]; exact h0
      have HA := hidden (HS.out s[a] w)
      rw [hc] at HA
      have R1 : Hid (stepL p true (s.data.toList.drop (a + 1)) = stepL p true s.data.toList) := hidden (by
        rw [← hst.out, List.drop_eq_getElem_cons hkl']
        simp only [stepL, if_true]
        exact (List.dropWhile_cons_of_pos hc).symm)
      obtain ⟨d, hd⟩ : ∃ d, s[a] = d := ⟨_, rfl⟩
      rw [hd] at hix HA
      clear hc hkl' hd
      go_wp2_with (first | (go_at_call 48; (with_reducible refine HA.out.mono ?_); rintro e w' ⟨rfl, hw⟩; rw [hw]; clear hw))
      go_round
      case rel => exact ⟨a + 1, by go_num, by omega, R1⟩
      case measure => simp [intOf]; omega
    · have HR : Hid (s.data.toList.drop a = stepL p l s.data.toList) := hidden (by
        rw [← hst.out]
        unfold stepL
        cases l with
        | false => rfl
        | true =>
          rw [if_pos rfl]
          by_cases h0 : a < s.size
          · have hkl' : a < s.data.toList.length := by rw [size_data]; exact h0
            rw [List.drop_eq_getElem_cons hkl', List.dropWhile_cons_of_neg (show ¬ p s.data.toList[a] = true from fun hc => hgo ⟨rfl, h0, hc⟩)]
          · rw [List.drop_of_length_le (by rw [size_data]; omega)]
            rfl)
      have hcs : l = false ∨ (l = true ∧ a = s.size) ∨ (l = true ∧ ∃ h : a < s.size, p s[a] = false) := by
        cases l with
        | false => exact .inl rfl
        | true =>
          by_cases h0 : a < s.size
          · refine .inr (.inr ⟨rfl, h0, ?_⟩)
            rw [← Bool.not_eq_true]
            exact fun hc => hgo ⟨rfl, h0, hc⟩
          · exact .inr (.inl ⟨rfl, by omega⟩)
      have HEE : Hid (ANS = txt (stepR p r (s.data.toList.drop a))) := hidden (by rw [← HANS.out, strip_steps, HR.out])
      clear hst hgo HR HANS
      rcases hcs with rfl | ⟨rfl, h0⟩ | ⟨rfl, h0, hc⟩
      · go_wp2
        go_loop [10] (fun vb => ∃ b : Nat, vb = .int .i64 b ∧ a ≤ b ∧ b ≤ s.size ∧ Hid (stepR p r ((s.data.toList.take b).drop a) = stepR p r (s.data.toList.drop a))) (fun vb => (intOf vb).toNat)
        case atStart => exact ⟨s.size, rfl, ha, Nat.le_refl _, hidden (by rw [List.take_of_length_le (by rw [size_data]; omega)])⟩
        case round =>
          obtain ⟨b, rfl, hab, hbs, hst⟩ := hrel
          by_cases hgo : r = true ∧ ∃ n, ∃ h : b = n + 1 ∧ a ≤ n, p (s[n]'(by omega)) = true
          · obtain ⟨rfl, n, ⟨rfl, hn⟩, hc⟩ := hgo
            have hix := idx_at s n (by omega)
            have hkl' : n < s.data.toList.length := by rw [size_data]; omega
            have HA := hidden (HS.out (s[n]'(by omega)) w)
            rw [hc] at HA
            have R1 : Hid (stepR p true ((s.data.toList.take n).drop a) = stepR p true (s.data.toList.drop a)) := hidden (by
              rw [← hst.out, List.take_succ_eq_append_getElem hkl', List.drop_append_of_le_length (by rw [List.length_take]; omega)]
              simp only [stepR, if_true, List.reverse_append, List.reverse_cons, List.reverse_nil, List.nil_append, List.cons_append]
              rw [List.dropWhile_cons_of_pos (show p s.data.toList[n] = true from hc)])
            obtain ⟨d, hd⟩ : ∃ d, (s[n]'(by omega)) = d := ⟨_, rfl⟩
            rw [hd] at hix HA
            clear hc hkl' hd
            go_wp2_with (first | (go_at_call 48; (with_reducible refine HA.out.mono ?_); rintro e w' ⟨rfl, hw⟩; rw [hw]; clear hw))
            go_round
            case rel => exact ⟨n, by go_num, by omega, by omega, R1⟩
            case measure => simp [intOf] <;> omega
          · have hS : Hid (s.extract a b = txt (stepR p r (s.data.toList.drop a))) := hidden (by
              rw [← hst.out]
              have e : stepR p r ((s.data.toList.take b).drop a) = (s.data.toList.take b).drop a := by
                unfold stepR
                cases r with
                | false => rfl
                | true =>
                  rw [if_pos rfl]
                  by_cases h0 : a = b
                  · subst h0
                    rw [List.drop_of_length_le (by rw [List.length_take]; omega)]
                    rfl
                  · obtain ⟨n, rfl⟩ : ∃ n, b = n + 1 := ⟨b - 1, by omega⟩
                    have hkl' : n < s.data.toList.length := by rw [size_data]; omega
                    rw [List.take_succ_eq_append_getElem hkl', List.drop_append_of_le_length (by rw [List.length_take]; omega)]
                    simp only [List.reverse_append, List.reverse_cons, List.reverse_nil, List.nil_append, List.cons_append]
                    rw [List.dropWhile_cons_of_neg (show ¬ p s.data.toList[n] = true from fun hc => hgo ⟨rfl, n, ⟨rfl, by omega⟩, hc⟩)]
                    simp
              rw [e]
              apply ByteArray.ext
              apply Array.toList_inj.1
              rw [mid_data]
              rfl)
            have HAE : Hid (ANS = s.extract a b) := hidden (by rw [HEE.out, hS.out])
            have hsl := slice_mid s a b hab hbs
            generalize s.extract a b = X at hsl HAE
            by_cases hr : r = true
            · subst hr
              by_cases h0 : a < b
              · obtain ⟨n, rfl⟩ : ∃ n, b = n + 1 := ⟨b - 1, by omega⟩
                have hc : p (s[n]'(by omega)) = false := by
                  rw [← Bool.not_eq_true]
                  exact fun hc => hgo ⟨rfl, n, ⟨rfl, by omega⟩, hc⟩
                have hix := idx_at s n (by omega)
                have HA := hidden (HS.out (s[n]'(by omega)) w)
                rw [hc] at HA
                obtain ⟨d, hd⟩ : ∃ d, (s[n]'(by omega)) = d := ⟨_, rfl⟩
                rw [hd] at hix HA
                have hsl3 : ∀ W, (Instr.sliceAt 9 (.string s) (some (.int .i64 (a : Int))) (some (.int .i64 ((n : Int) + 1))) none).run Tryz.prog W = .ok (.string X) W := hsl
                clear hc hd hgo hS hst hsl
                go_wp2_with (first | (go_at_call 48; (with_reducible refine HA.out.mono ?_); rintro e w' ⟨rfl, hw⟩; rw [hw]; clear hw))
                go_ret
                exact ⟨ret_str HAE.out.symm, rfl⟩
              · clear hgo hS hst
                go_wp2
                go_ret
                exact ⟨ret_str HAE.out.symm, rfl⟩
            · obtain rfl : r = false := by simpa using hr
              clear hgo hS hst
              go_wp2
              go_ret
              exact ⟨ret_str HAE.out.symm, rfl⟩
      · have h0n : ¬ a < s.size := by omega
        clear h0
        go_wp2
        go_loop [10] (fun vb => ∃ b : Nat, vb = .int .i64 b ∧ a ≤ b ∧ b ≤ s.size ∧ Hid (stepR p r ((s.data.toList.take b).drop a) = stepR p r (s.data.toList.drop a))) (fun vb => (intOf vb).toNat)
        case atStart => exact ⟨s.size, rfl, ha, Nat.le_refl _, hidden (by rw [List.take_of_length_le (by rw [size_data]; omega)])⟩
        case round =>
          obtain ⟨b, rfl, hab, hbs, hst⟩ := hrel
          by_cases hgo : r = true ∧ ∃ n, ∃ h : b = n + 1 ∧ a ≤ n, p (s[n]'(by omega)) = true
          · obtain ⟨rfl, n, ⟨rfl, hn⟩, hc⟩ := hgo
            exfalso; omega
          · have hS : Hid (s.extract a b = txt (stepR p r (s.data.toList.drop a))) := hidden (by
              rw [← hst.out]
              have e : stepR p r ((s.data.toList.take b).drop a) = (s.data.toList.take b).drop a := by
                unfold stepR
                cases r with
                | false => rfl
                | true =>
                  rw [if_pos rfl]
                  by_cases h0 : a = b
                  · subst h0
                    rw [List.drop_of_length_le (by rw [List.length_take]; omega)]
                    rfl
                  · obtain ⟨n, rfl⟩ : ∃ n, b = n + 1 := ⟨b - 1, by omega⟩
                    have hkl' : n < s.data.toList.length := by rw [size_data]; omega
                    rw [List.take_succ_eq_append_getElem hkl', List.drop_append_of_le_length (by rw [List.length_take]; omega)]
                    simp only [List.reverse_append, List.reverse_cons, List.reverse_nil, List.nil_append, List.cons_append]
                    rw [List.dropWhile_cons_of_neg (show ¬ p s.data.toList[n] = true from fun hc => hgo ⟨rfl, n, ⟨rfl, by omega⟩, hc⟩)]
                    simp
              rw [e]
              apply ByteArray.ext
              apply Array.toList_inj.1
              rw [mid_data]
              rfl)
            have HAE : Hid (ANS = s.extract a b) := hidden (by rw [HEE.out, hS.out])
            have hsl := slice_mid s a b hab hbs
            generalize s.extract a b = X at hsl HAE
            by_cases hr : r = true
            · subst hr
              by_cases h0 : a < b
              · exfalso; omega
              · clear hgo hS hst
                go_wp2
                go_ret
                exact ⟨ret_str HAE.out.symm, rfl⟩
            · obtain rfl : r = false := by simpa using hr
              clear hgo hS hst
              go_wp2
              go_ret
              exact ⟨ret_str HAE.out.symm, rfl⟩
      · have hix := idx_at s a h0
        have HA := hidden (HS.out s[a] w)
        rw [hc] at HA
        obtain ⟨d, hd⟩ : ∃ d, s[a] = d := ⟨_, rfl⟩
        rw [hd] at hix HA
        clear hc hd
        go_wp2_with (first | (go_at_call 48; (with_reducible refine HA.out.mono ?_); rintro e w' ⟨rfl, hw⟩; rw [hw]; clear hw))
        clear hix HA
        go_loop [10] (fun vb => ∃ b : Nat, vb = .int .i64 b ∧ a ≤ b ∧ b ≤ s.size ∧ Hid (stepR p r ((s.data.toList.take b).drop a) = stepR p r (s.data.toList.drop a))) (fun vb => (intOf vb).toNat)
        case atStart => exact ⟨s.size, rfl, ha, Nat.le_refl _, hidden (by rw [List.take_of_length_le (by rw [size_data]; omega)])⟩
        case round =>
          obtain ⟨b, rfl, hab, hbs, hst⟩ := hrel
          by_cases hgo : r = true ∧ ∃ n, ∃ h : b = n + 1 ∧ a ≤ n, p (s[n]'(by omega)) = true
          · obtain ⟨rfl, n, ⟨rfl, hn⟩, hc⟩ := hgo
            have hix := idx_at s n (by omega)
            have hkl' : n < s.data.toList.length := by rw [size_data]; omega
            have HA := hidden (HS.out (s[n]'(by omega)) w)
            rw [hc] at HA
            have R1 : Hid (stepR p true ((s.data.toList.take n).drop a) = stepR p true (s.data.toList.drop a)) := hidden (by
              rw [← hst.out, List.take_succ_eq_append_getElem hkl', List.drop_append_of_le_length (by rw [List.length_take]; omega)]
              simp only [stepR, if_true, List.reverse_append, List.reverse_cons, List.reverse_nil, List.nil_append, List.cons_append]
              rw [List.dropWhile_cons_of_pos (show p s.data.toList[n] = true from hc)])
            obtain ⟨d, hd⟩ : ∃ d, (s[n]'(by omega)) = d := ⟨_, rfl⟩
            rw [hd] at hix HA
            clear hc hkl' hd
            go_wp2_with (first | (go_at_call 48; (with_reducible refine HA.out.mono ?_); rintro e w' ⟨rfl, hw⟩; rw [hw]; clear hw))
            go_round
            case rel => exact ⟨n, by go_num, by omega, by omega, R1⟩
            case measure => simp [intOf] <;> omega
          · have hS : Hid (s.extract a b = txt (stepR p r (s.data.toList.drop a))) := hidden (by
              rw [← hst.out]
              have e : stepR p r ((s.data.toList.take b).drop a) = (s.data.toList.take b).drop a := by
                unfold stepR
                cases r with
                | false => rfl
                | true =>
                  rw [if_pos rfl]
                  by_cases h0 : a = b
                  · subst h0
                    rw [List.drop_of_length_le (by rw [List.length_take]; omega)]
                    rfl
                  · obtain ⟨n, rfl⟩ : ∃ n, b = n + 1 := ⟨b - 1, by omega⟩
                    have hkl' : n < s.data.toList.length := by rw [size_data]; omega
                    rw [List.take_succ_eq_append_getElem hkl', List.drop_append_of_le_length (by rw [List.length_take]; omega)]
                    simp only [List.reverse_append, List.reverse_cons, List.reverse_nil, List.nil_append, List.cons_append]
                    rw [List.dropWhile_cons_of_neg (show ¬ p s.data.toList[n] = true from fun hc => hgo ⟨rfl, n, ⟨rfl, by omega⟩, hc⟩)]
                    simp
              rw [e]
              apply ByteArray.ext
              apply Array.toList_inj.1
              rw [mid_data]
              rfl)
            have HAE : Hid (ANS = s.extract a b) := hidden (by rw [HEE.out, hS.out])
            have hsl := slice_mid s a b hab hbs
            generalize s.extract a b = X at hsl HAE
            by_cases hr : r = true
            · subst hr
              by_cases h0 : a < b
              · obtain ⟨n, rfl⟩ : ∃ n, b = n + 1 := ⟨b - 1, by omega⟩
                have hc : p (s[n]'(by omega)) = false := by
                  rw [← Bool.not_eq_true]
                  exact fun hc => hgo ⟨rfl, n, ⟨rfl, by omega⟩, hc⟩
                have hix := idx_at s n (by omega)
                have HA := hidden (HS.out (s[n]'(by omega)) w)
                rw [hc] at HA
                obtain ⟨d, hd⟩ : ∃ d, (s[n]'(by omega)) = d := ⟨_, rfl⟩
                rw [hd] at hix HA
                have hsl3 : ∀ W, (Instr.sliceAt 9 (.string s) (some (.int .i64 (a : Int))) (some (.int .i64 ((n : Int) + 1))) none).run Tryz.prog W = .ok (.string X) W := hsl
                clear hc hd hgo hS hst hsl
                go_wp2_with (first | (go_at_call 48; (with_reducible refine HA.out.mono ?_); rintro e w' ⟨rfl, hw⟩; rw [hw]; clear hw))
                go_ret
                exact ⟨ret_str HAE.out.symm, rfl⟩
              · clear hgo hS hst
                go_wp2
                go_ret
                exact ⟨ret_str HAE.out.symm, rfl⟩
            · obtain rfl : r = false := by simpa using hr
              clear hgo hS hst
              go_wp2
              go_ret
              exact ⟨ret_str HAE.out.symm, rfl⟩
end St
end Go.Proofs.YtdiocmcfaneajaaGreatDoor
