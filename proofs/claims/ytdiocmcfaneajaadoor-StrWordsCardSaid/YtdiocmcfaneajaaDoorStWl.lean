/- smithylaw11.StrWords answers true, whatever the texts and the numbers. Conditions: the words, and the errors, lie in their variables. -/
import Derived.Test.YtdiocmcfaneajaaDoorStX
namespace Go.Proofs.YtdiocmcfaneajaaDoor
open Go.RowKit
open Lx
namespace St

/-- These whole numbers lie from address ao on. -/
def Ints (W : World) (ao : Option Addr) (zs : List Int) : Prop := zs = [] ∨ ∃ b o, ao = some ⟨b, o, none⟩ ∧ b < W.heap.size ∧ ∀ (j : Nat) z, zs[j]? = some z → W.cell? ⟨b, o + j, none⟩ = some (.int .i64 z)
theorem Ints.below {W W' : World} {ao : Option Addr} {zs : List Int} (h : Ints W ao zs) (hb : Below W.heap.size W W') : Ints W' ao zs := by
  rcases h with h | ⟨b, o, e, hl, hc⟩
  · exact .inl h
  · exact .inr ⟨b, o, e, Nat.lt_of_lt_of_le hl hb.size, fun j x hx => (hb.cell hl).trans (hc j x hx)⟩
theorem Ints.at {W : World} {ao : Option Addr} {zs : List Int} (h : Ints W ao zs) (k : Nat) (hk : k < zs.length) : ∃ b o, ao = some ⟨b, o, none⟩ ∧ W.cell? ⟨b, o + k, none⟩ = some (.int .i64 zs[k]) := by
  rcases h with rfl | ⟨b, o, e, hl, hc⟩
  · simp at hk
  · exact ⟨b, o, e, hc k _ (List.getElem?_eq_getElem hk)⟩
theorem few_at {xs : List ByteArray} {a b : Nat} (h : fewF xs a b = true) : xs.length ≤ a ∧ ∀ x ∈ xs, x.size ≤ b := by
  unfold fewF at h
  rw [Bool.and_eq_true, decide_eq_true_eq, List.all_eq_true] at h
  exact ⟨h.1, fun x hx => by have := h.2 x hx; simpa using this⟩
/-- Blanks, so many. -/
theorem some_blanks (q : Nat) (hq : q < 4) : ∃ (B : ByteArray) (b : UInt8) (u : L), (∀ W, (Instr.sliceAt 9 (.string ⟨#[32, 9, 10, 13]⟩) none (some (.int .i64 ((q + 1 : Nat) : Int))) none).run Tryd.prog W = .ok (.string B) W) ∧ B.data.toList = b :: u ∧ isBl b = true ∧ (∀ c ∈ u, isBl c = true) ∧ B.size ≤ 4 := by
  have h : q = 0 ∨ q = 1 ∨ q = 2 ∨ q = 3 := by omega
  rcases h with rfl | rfl | rfl | rfl
  · exact ⟨⟨#[32]⟩, 32, [], fun W => by kernel_rfl, rfl, by decide, by decide, by decide⟩
  · exact ⟨⟨#[32, 9]⟩, 32, [9], fun W => by kernel_rfl, rfl, by decide, by decide, by decide⟩
  · exact ⟨⟨#[32, 9, 10]⟩, 32, [9, 10], fun W => by kernel_rfl, rfl, by decide, by decide, by decide⟩
  · exact ⟨⟨#[32, 9, 10, 13]⟩, 32, [9, 10, 13], fun W => by kernel_rfl, rfl, by decide, by decide, by decide⟩
/-- Called in whatever world that came out of w, f answers v, and all stays. -/
abbrev Ans2 (f : FuncId) (args : Array Value) (v : Value) (w : World) : Prop := ∀ W, Below w.heap.size w W → Calls Tryd.prog f args W fun e w' => e = .returned v ∧ Below W.heap.size W w'
theorem texts_len' (l : List L) : (texts l).length = l.length := List.length_map ..
theorem is_blank (c : UInt8) : isBl c = decide (c.toNat = 32 ∨ (9 ≤ c.toNat ∧ c.toNat ≤ 13)) := rfl

set_option maxRecDepth 100000 in
set_option maxHeartbeats 12800000 in
theorem strWords_any {D : Value} {tE : TypeId} {pE : Value} {m : Int} {w : World} (hL : Lw D tE pE m w) (ao : Option Addr) (cap n : Nat) (xs : List ByteArray) (hX : Txs w ao xs) (hn : xs.length = n) (bo : Option Addr) (bcap bn : Nat) (zs : List Int) (hZ : Ints w bo zs) (hzn : zs.length = bn) :
    Calls Tryd.prog 5 #[.slice ao n cap, .slice bo bn bcap] w fun e w' => e = .returned (.bool true) ∧ Below w.heap.size w w' := by
  have HF := hidden hL.first
  have HB := hidden (Below.refl w.heap.size w)
  obtain ⟨R, hR⟩ : ∃ R, fewF xs 12 30 = R := ⟨_, rfl⟩
  have ht : Ans 16 #[.slice ao n cap, .int .i64 12, .int .i64 30] (.bool R) w := by
    subst hR
    exact Ans.still fun W hb => few_any ao cap n xs 12 30 W hn (by decide) (hX.below hb)
  have HT := hidden ht
  clear ht
  by_cases hok : R = true ∧ bn ≤ 30
  · obtain ⟨rfl, hb30⟩ := hok
    obtain ⟨hn12, hx30⟩ := few_at hR
    rw [hn] at hn12
    have HX := hidden hX
    have HZ := hidden hZ
    have HN := hidden hn
    have HZN := hidden hzn
    have HXS := hidden hx30
    have HLL := hidden hL
    clear hX hZ hn hzn hx30 hL hR
    go_enter Tryd.func5, Tryd.ntmps5
    go_wp2_with (first | (go_at_call 6; (with_reducible refine (HF.out _ HB.out).mono ?_); rintro e w2 ⟨rfl, hb⟩; replace HB := hidden hb; clear hb) | (go_at_call 16; (with_reducible refine (HT.out _ HB.out).mono ?_); rintro e w2 ⟨rfl, hb⟩; replace HB := hidden hb; clear hb))
    go_loopw [6, 7, 8] (fun ts tw ti wr => ∃ i wn wc : Nat, ∃ wo : Option Addr, ∃ S : ByteArray, ∃ V : List L, ti = .int .i64 i ∧ ts = .string S ∧ tw = .slice wo wn wc ∧ i ≤ n ∧ S.size ≤ 34 * i ∧ wn ≤ i ∧ Hid (V.length = wn) ∧ Hid (Has S.data.toList V) ∧ Hid (∀ x ∈ V, (x ≠ [] ∧ ∀ c ∈ x, isBl c = false) ∧ x.length ≤ 30) ∧ Hid (OwnT wr w.heap.size (.slice wo wn wc) (texts V)) ∧ Hid (Below w.heap.size w wr)) (fun _ _ ti _ => n - (intOf ti).toNat)
    case atStart => exact ⟨0, 0, 0, none, ⟨#[]⟩, [], rfl, rfl, rfl, by omega, by decide, by omega, hidden rfl, hidden has_nil, hidden (fun x hx => by cases hx), hidden (ownT_nil _ _), HB⟩
    case round =>
      obtain ⟨i, wn, wc, wo, S, V, rfl, rfl, rfl, hi, hSs, hwn, hVl, hHas, hV, hO, hb⟩ := hrel
      clear HB HF HT
      by_cases hlt : i < n
      · have hlt' : i < xs.length := by have := HN.out; omega
        obtain ⟨bk, o, rfl, _, hcx⟩ := (HX.out.below hb.out).at i hlt'
        have hxz := HXS.out _ (List.getElem_mem hlt')
        obtain ⟨x, hx⟩ : ∃ x, xs[i] = x := ⟨_, rfl⟩
        rw [hx] at hcx hxz
        clear hx hlt'
        obtain ⟨wz, hwz⟩ : ∃ y, y = wr := ⟨_, rfl⟩
        rw [← hwz] at hb hO hcx ⊢
        clear hwz
        have hbs := hb.out.size
        by_cases hib : i < bn
        · have hib' : i < zs.length := by have := HZN.out; omega
          obtain ⟨bb, b0, rfl, hcz⟩ := (HZ.out.below hb.out).at i hib'
          obtain ⟨z, hz⟩ : ∃ z, zs[i] = z := ⟨_, rfl⟩
          rw [hz] at hcz
          clear hz hib'
          obtain ⟨q, hq, hnum⟩ := number_still z 4 (by decide) (by decide)
          have HNU : Hid (∀ W, Calls Tryd.prog 17 #[.int .i64 z, .int .i64 4] W fun e w' => e = .returned (.int .i64 (q : Int)) ∧ w' = W) := hidden hnum
          obtain ⟨Bb, b1, u, hsl0, hBd, hb1, hu, hBs⟩ := some_blanks q hq
          have hsl : ∀ W, (Instr.sliceAt 9 (.string ⟨#[32, 9, 10, 13]⟩) none (some (.int .i64 ((q : Int) + 1))) none).run Tryd.prog W = .ok (.string Bb) W := hsl0
          clear hnum hsl0
          have hS1d : Hid ((S ++ Bb).data.toList = S.data.toList ++ (b1 :: u)) := hidden (by rw [app_data, hBd])
          have hS1s : (S ++ Bb).size ≤ 34 * i + 4 := by rw [ByteArray.size_append]; omega
          have Hb1 := hidden hb1
          have Hu := hidden hu
          clear hBd hb1 hu
          go_wp2_with (first | (go_at_call 17; (with_reducible refine (HNU.out _).mono ?_); rintro e wq ⟨rfl, hw⟩; rw [hw]; clear hw))
          clear hsl
          go_loop [10, 11] (fun t tk => ∃ k : Nat, ∃ y : ByteArray, tk = .int .i64 k ∧ t = .string y ∧ k ≤ x.size ∧ y.size ≤ k ∧ Hid (y.data.toList = nbF (x.data.toList.take k))) (fun _ tk => x.size - (intOf tk).toNat)
          case atStart => exact ⟨0, ⟨#[]⟩, rfl, rfl, by omega, by decide, hidden rfl⟩
          case round =>
            obtain ⟨k, y, rfl, rfl, hk, hyk, hyd⟩ := hrel
            by_cases hkl : k < x.size
            · have hix := idx_at x k hkl
              have hkl' : k < x.data.toList.length := by rw [size_data]; exact hkl
              have hsk : ∀ W, (Instr.sliceAt 9 (.string x) (some (.int .i64 (k : Int))) (some (.int .i64 ((k : Int) + 1))) none).run Tryd.prog W = .ok (.string (x.extract k (k + 1))) W := fun W => slice_mid x k (k + 1) (by omega) (by omega) W
              have hed : (x.extract k (k + 1)).data.toList = [x[k]] := by
                rw [ext_data, Nat.add_sub_cancel_left, List.drop_eq_getElem_cons hkl']
                rfl
              have htk := List.take_succ_eq_append_getElem hkl'
              have hes : (x.extract k (k + 1)).size = 1 := by rw [ByteArray.size_extract]; omega
              have htk2 : x.data.toList.take (k + 1) = x.data.toList.take k ++ [x[k]] := htk
              obtain ⟨c, hc⟩ : ∃ c, x[k] = c := ⟨_, rfl⟩
              rw [hc] at hix hed htk2
              obtain ⟨E1, hE1⟩ : ∃ E1, x.extract k (k + 1) = E1 := ⟨_, rfl⟩
              rw [hE1] at hsk hed hes
              have HTK : Hid (nbF (x.data.toList.take (k + 1)) = y.data.toList ++ (if isBl c = true then [] else [c])) := hidden (by rw [htk2, nb_snoc, hyd.out])
              obtain ⟨z, hz⟩ : ∃ z, c.toNat = z := ⟨_, rfl⟩
              have hbl : Hid (isBl c = decide (z = 32 ∨ (9 ≤ z ∧ z ≤ 13))) := hidden (by rw [is_blank, hz])
              rw [hz] at hix
              have hzl : z < 256 := by rw [← hz]; exact c.toNat_lt
              have HED := hidden hed
              clear htk htk2 hc hE1 hz hed hkl'
              have hcs : z = 32 ∨ (9 ≤ z ∧ z ≤ 13 ∧ z ≠ 32) ∨ z < 9 ∨ (13 < z ∧ z ≠ 32) := by omega
              rcases hcs with rfl | ⟨h1, h2, h3⟩ | h1 | ⟨h1, h3⟩
              · have R1 : Hid (y.data.toList = nbF (x.data.toList.take (k + 1))) := hidden (by rw [HTK.out, hbl.out, if_pos (by decide), List.append_nil])
                clear hsk
                go_wp2
                go_round
                case rel => exact ⟨k + 1, y, by go_num, rfl, by omega, by omega, R1⟩
                case measure => simp [intOf]; omega
              · have R1 : Hid (y.data.toList = nbF (x.data.toList.take (k + 1))) := hidden (by rw [HTK.out, hbl.out, if_pos (by rw [decide_eq_true_eq]; omega), List.append_nil])
                have hz2 : ((z : Int) != 32) = true := by simp; omega
                clear hsk
                go_wp2
                go_round
                case rel => exact ⟨k + 1, y, by go_num, rfl, by omega, by omega, R1⟩
                case measure => simp [intOf]; omega
              all_goals
                have hz2 : ((z : Int) != 32) = true := by simp; omega
                have hys : (y ++ E1).size = y.size + 1 := by rw [ByteArray.size_append, hes]
                have R1 : Hid ((y ++ E1).data.toList = nbF (x.data.toList.take (k + 1))) := hidden (by rw [HTK.out, hbl.out, if_neg (by rw [decide_eq_true_eq]; omega), app_data, HED.out])
                go_wp2
                go_round
                case rel => exact ⟨k + 1, y ++ E1, by go_num, rfl, by omega, by omega, R1⟩
                case measure => simp [intOf]; omega
            · have hyd2 : Hid (y.data.toList = nbF x.data.toList) := hidden (by
                rw [hyd.out, List.take_of_length_le (by rw [size_data]; omega)])
              have hys3 : ((S ++ Bb) ++ y).size ≤ 34 * (i + 1) := by rw [ByteArray.size_append]; omega
              have hmore : Hid (Has ((S ++ Bb) ++ y).data.toList (V ++ (if y.data.toList = [] then [] else [y.data.toList]))) := hidden (by
                rw [app_data, hS1d.out]
                exact hHas.out.more b1 u y.data.toList Hb1.out Hu.out (by rw [hyd2.out]; exact nb_no _))
              have hyn : Hid (∀ c ∈ y.data.toList, isBl c = false) := hidden (by rw [hyd2.out]; exact nb_no _)
              have hpl : (texts V).length = wn := by rw [← hVl.out]; unfold texts; rw [List.length_map]
              have HPL := hidden hpl
              clear hyd hyd2 hpl
              by_cases hy0 : y.size = 0
              · have hem := text_emp hy0
                have hyl : y.data.toList = [] := by rw [text_nil hy0]
                have R1 : Hid (Has (S ++ Bb ++ y).data.toList V) := hidden (by have := hmore.out; rwa [if_pos hyl, List.append_nil] at this)
                clear hyl hy0 hmore
                go_wp2
                go_roundw
                case rel => exact ⟨i + 1, wn, wc, wo, (S ++ Bb ++ y), V, by go_num, rfl, rfl, by omega, by omega, by omega, hVl, R1, hV, hO, hb⟩
                case measure => simp [intOf]; omega
              · have hem := text_ne y (by omega)
                have hyl : y.data.toList ≠ [] := fun e => by have := size_data y; rw [e] at this; simp at this; omega
                have R1 : Hid (Has (S ++ Bb ++ y).data.toList (V ++ [y.data.toList])) := hidden (by have := hmore.out; rwa [if_neg hyl] at this)
                have R2 : Hid (∀ x ∈ V ++ [y.data.toList], (x ≠ [] ∧ ∀ c ∈ x, isBl c = false) ∧ x.length ≤ 30) := hidden (fun v hv => by
                  rcases List.mem_append.1 hv with hv | hv
                  · exact hV.out v hv
                  · obtain rfl : v = y.data.toList := by simpa using hv
                    exact ⟨⟨hyl, hyn.out⟩, by rw [size_data]; omega⟩)
                have R3 : Hid ((V ++ [y.data.toList]).length = wn + 1) := hidden (by rw [List.length_append, hVl.out]; rfl)
                clear hyl hmore
                go_wp2_with (at_builtin; refine text_onto hO.out y (wn + 1) (by rw [HPL.out]) hbs (by rw [HPL.out]; omega) rfl _ _ rfl rfl rfl ?_; intro g cap2 w2 hown2 hb3; have HO3 := hidden hown2; have HB3 := hidden hb3; clear hown2 hb3)
                have R4 : Hid (OwnT w2 w.heap.size (.slice (some ⟨g, 0, none⟩) (wn + 1) cap2) (texts (V ++ [y.data.toList]))) := hidden (by
                  have e : texts (V ++ [y.data.toList]) = texts V ++ [y] := by simp [texts, txt_data]
                  rw [e]; exact HO3.out)
                have R5 := hidden (hb.out.trans HB3.out)
                go_roundw
                case rel => exact ⟨i + 1, wn + 1, cap2, some ⟨g, 0, none⟩, (S ++ Bb ++ y), V ++ [y.data.toList], by go_num, rfl, rfl, by omega, by omega, by omega, R3, R1, R2, R4, R5⟩
                case measure => simp [intOf]; omega
        · obtain ⟨Bb, b1, u, hsl0, hBd, hb1, hu, hBs⟩ := some_blanks 0 (by decide)
          have hsl : ∀ W, (Instr.sliceAt 9 (.string ⟨#[32, 9, 10, 13]⟩) none (some (.int .i64 1)) none).run Tryd.prog W = .ok (.string Bb) W := hsl0
          clear hsl0
          have hS1d : Hid ((S ++ Bb).data.toList = S.data.toList ++ (b1 :: u)) := hidden (by rw [app_data, hBd])
          have hS1s : (S ++ Bb).size ≤ 34 * i + 4 := by rw [ByteArray.size_append]; omega
          have Hb1 := hidden hb1
          have Hu := hidden hu
          clear hBd hb1 hu
          go_wp2
          clear hsl
          go_loop [10, 11] (fun t tk => ∃ k : Nat, ∃ y : ByteArray, tk = .int .i64 k ∧ t = .string y ∧ k ≤ x.size ∧ y.size ≤ k ∧ Hid (y.data.toList = nbF (x.data.toList.take k))) (fun _ tk => x.size - (intOf tk).toNat)
          case atStart => exact ⟨0, ⟨#[]⟩, rfl, rfl, by omega, by decide, hidden rfl⟩
          case round =>
            obtain ⟨k, y, rfl, rfl, hk, hyk, hyd⟩ := hrel
            by_cases hkl : k < x.size
            · have hix := idx_at x k hkl
              have hkl' : k < x.data.toList.length := by rw [size_data]; exact hkl
              have hsk : ∀ W, (Instr.sliceAt 9 (.string x) (some (.int .i64 (k : Int))) (some (.int .i64 ((k : Int) + 1))) none).run Tryd.prog W = .ok (.string (x.extract k (k + 1))) W := fun W => slice_mid x k (k + 1) (by omega) (by omega) W
              have hed : (x.extract k (k + 1)).data.toList = [x[k]] := by
                rw [ext_data, Nat.add_sub_cancel_left, List.drop_eq_getElem_cons hkl']
                rfl
              have htk := List.take_succ_eq_append_getElem hkl'
              have hes : (x.extract k (k + 1)).size = 1 := by rw [ByteArray.size_extract]; omega
              have htk2 : x.data.toList.take (k + 1) = x.data.toList.take k ++ [x[k]] := htk
              obtain ⟨c, hc⟩ : ∃ c, x[k] = c := ⟨_, rfl⟩
              rw [hc] at hix hed htk2
              obtain ⟨E1, hE1⟩ : ∃ E1, x.extract k (k + 1) = E1 := ⟨_, rfl⟩
              rw [hE1] at hsk hed hes
              have HTK : Hid (nbF (x.data.toList.take (k + 1)) = y.data.toList ++ (if isBl c = true then [] else [c])) := hidden (by rw [htk2, nb_snoc, hyd.out])
              obtain ⟨z, hz⟩ : ∃ z, c.toNat = z := ⟨_, rfl⟩
              have hbl : Hid (isBl c = decide (z = 32 ∨ (9 ≤ z ∧ z ≤ 13))) := hidden (by rw [is_blank, hz])
              rw [hz] at hix
              have hzl : z < 256 := by rw [← hz]; exact c.toNat_lt
              have HED := hidden hed
              clear htk htk2 hc hE1 hz hed hkl'
              have hcs : z = 32 ∨ (9 ≤ z ∧ z ≤ 13 ∧ z ≠ 32) ∨ z < 9 ∨ (13 < z ∧ z ≠ 32) := by omega
              rcases hcs with rfl | ⟨h1, h2, h3⟩ | h1 | ⟨h1, h3⟩
              · have R1 : Hid (y.data.toList = nbF (x.data.toList.take (k + 1))) := hidden (by rw [HTK.out, hbl.out, if_pos (by decide), List.append_nil])
                clear hsk
                go_wp2
                go_round
                case rel => exact ⟨k + 1, y, by go_num, rfl, by omega, by omega, R1⟩
                case measure => simp [intOf]; omega
              · have R1 : Hid (y.data.toList = nbF (x.data.toList.take (k + 1))) := hidden (by rw [HTK.out, hbl.out, if_pos (by rw [decide_eq_true_eq]; omega), List.append_nil])
                have hz2 : ((z : Int) != 32) = true := by simp; omega
                clear hsk
                go_wp2
                go_round
                case rel => exact ⟨k + 1, y, by go_num, rfl, by omega, by omega, R1⟩
                case measure => simp [intOf]; omega
              all_goals
                have hz2 : ((z : Int) != 32) = true := by simp; omega
                have hys : (y ++ E1).size = y.size + 1 := by rw [ByteArray.size_append, hes]
                have R1 : Hid ((y ++ E1).data.toList = nbF (x.data.toList.take (k + 1))) := hidden (by rw [HTK.out, hbl.out, if_neg (by rw [decide_eq_true_eq]; omega), app_data, HED.out])
                go_wp2
                go_round
                case rel => exact ⟨k + 1, y ++ E1, by go_num, rfl, by omega, by omega, R1⟩
                case measure => simp [intOf]; omega
            · have hyd2 : Hid (y.data.toList = nbF x.data.toList) := hidden (by
                rw [hyd.out, List.take_of_length_le (by rw [size_data]; omega)])
              have hys3 : ((S ++ Bb) ++ y).size ≤ 34 * (i + 1) := by rw [ByteArray.size_append]; omega
              have hmore : Hid (Has ((S ++ Bb) ++ y).data.toList (V ++ (if y.data.toList = [] then [] else [y.data.toList]))) := hidden (by
                rw [app_data, hS1d.out]
                exact hHas.out.more b1 u y.data.toList Hb1.out Hu.out (by rw [hyd2.out]; exact nb_no _))
              have hyn : Hid (∀ c ∈ y.data.toList, isBl c = false) := hidden (by rw [hyd2.out]; exact nb_no _)
              have hpl : (texts V).length = wn := by rw [← hVl.out]; unfold texts; rw [List.length_map]
              have HPL := hidden hpl
              clear hyd hyd2 hpl
              by_cases hy0 : y.size = 0
              · have hem := text_emp hy0
                have hyl : y.data.toList = [] := by rw [text_nil hy0]
                have R1 : Hid (Has (S ++ Bb ++ y).data.toList V) := hidden (by have := hmore.out; rwa [if_pos hyl, List.append_nil] at this)
                clear hyl hy0 hmore
                go_wp2
                go_roundw
                case rel => exact ⟨i + 1, wn, wc, wo, (S ++ Bb ++ y), V, by go_num, rfl, rfl, by omega, by omega, by omega, hVl, R1, hV, hO, hb⟩
                case measure => simp [intOf]; omega
              · have hem := text_ne y (by omega)
                have hyl : y.data.toList ≠ [] := fun e => by have := size_data y; rw [e] at this; simp at this; omega
                have R1 : Hid (Has (S ++ Bb ++ y).data.toList (V ++ [y.data.toList])) := hidden (by have := hmore.out; rwa [if_neg hyl] at this)
                have R2 : Hid (∀ x ∈ V ++ [y.data.toList], (x ≠ [] ∧ ∀ c ∈ x, isBl c = false) ∧ x.length ≤ 30) := hidden (fun v hv => by
                  rcases List.mem_append.1 hv with hv | hv
                  · exact hV.out v hv
                  · obtain rfl : v = y.data.toList := by simpa using hv
                    exact ⟨⟨hyl, hyn.out⟩, by rw [size_data]; omega⟩)
                have R3 : Hid ((V ++ [y.data.toList]).length = wn + 1) := hidden (by rw [List.length_append, hVl.out]; rfl)
                clear hyl hmore
                go_wp2_with (at_builtin; refine text_onto hO.out y (wn + 1) (by rw [HPL.out]) hbs (by rw [HPL.out]; omega) rfl _ _ rfl rfl rfl ?_; intro g cap2 w2 hown2 hb3; have HO3 := hidden hown2; have HB3 := hidden hb3; clear hown2 hb3)
                have R4 : Hid (OwnT w2 w.heap.size (.slice (some ⟨g, 0, none⟩) (wn + 1) cap2) (texts (V ++ [y.data.toList]))) := hidden (by
                  have e : texts (V ++ [y.data.toList]) = texts V ++ [y] := by simp [texts, txt_data]
                  rw [e]; exact HO3.out)
                have R5 := hidden (hb.out.trans HB3.out)
                go_roundw
                case rel => exact ⟨i + 1, wn + 1, cap2, some ⟨g, 0, none⟩, (S ++ Bb ++ y), V ++ [y.data.toList], by go_num, rfl, rfl, by omega, by omega, by omega, R3, R1, R2, R4, R5⟩
                case measure => simp [intOf]; omega
      · obtain ⟨wz, hwz⟩ : ∃ y, y = wr := ⟨_, rfl⟩
        rw [← hwz] at hb hO ⊢
        clear hwz
        have HLZ := hidden (HLL.out.below hb.out)
        have hS4 : S.size ≤ 408 := by omega
        have hwn12 : wn ≤ 12 := by omega
        have HW1 := hidden (fun W => words_any (S ++ ⟨#[32, 32]⟩) W (by rw [ByteArray.size_append]; show S.size + 2 ≤ 100000; omega))
        rw [show (S ++ ⟨#[32, 32]⟩ : ByteArray).data.toList = S.data.toList ++ [32, 32] from app_data _ _, hHas.out.all] at HW1
        obtain ⟨T, hT⟩ : ∃ T, txt (stripF (setF (⟨#[]⟩ : ByteArray).data.toList).contains true true (S ++ ⟨#[32]⟩ : ByteArray).data.toList) = T := ⟨_, rfl⟩
        have hst : Ans2 13 #[.string (S ++ ⟨#[32]⟩), .string ⟨#[]⟩, .bool true, .bool true] (.string T) wz := by
          rw [← hT]
          exact fun W _ => strip_any _ _ true true W (by rw [ByteArray.size_append]; show S.size + 1 ≤ 100000; omega) (by decide)
        have ST := hidden hst
        have hTh : ∀ c t, T.data.toList = c :: t → c.toNat < 9 ∨ 13 < c.toNat ∧ c.toNat ≠ 32 := fun c t e => by
          rw [← hT] at e
          have e2 : stripF (setF []).contains true true (S ++ ⟨#[32]⟩ : ByteArray).data.toList = c :: t := e
          exact not_blank c (strip_head _ true _ c t e2)
        have hTs : T.size ≤ 409 := by
          obtain ⟨pa, pb, hin⟩ := strip_in (setF (⟨#[]⟩ : ByteArray).data.toList).contains true true (S ++ ⟨#[32]⟩ : ByteArray).data.toList
          have h1 := congrArg List.length hin
          have h2 : T.size = (stripF (setF (⟨#[]⟩ : ByteArray).data.toList).contains true true (S ++ ⟨#[32]⟩ : ByteArray).data.toList).length := by rw [← hT, txt_size]
          have h3 : (S ++ ⟨#[32]⟩ : ByteArray).size = S.size + 1 := by rw [ByteArray.size_append]; rfl
          rw [List.length_append, List.length_append, ← h2, size_data, h3] at h1
          omega
        have hjl := join_size V 30 fun v hv => (hV.out v hv).2
        rw [hVl.out] at hjl
        have hjl2 : (joinF [32] V).length ≤ 372 := by
          have := Nat.mul_le_mul_right 31 hwn12
          omega
        have hwj := words_join V fun v hv => (hV.out v hv).1
        obtain ⟨JB, hJB⟩ : ∃ JB, txt (joinF [32] V) = JB := ⟨_, rfl⟩
        have hJBd : JB.data.toList = joinF [32] V := by rw [← hJB]; rfl
        have hJs : JB.size ≤ 372 := by rw [← size_data, hJBd]; exact hjl2
        have HTL : Hid ((texts V).length = wn) := hidden (by rw [texts_len', hVl.out])
        obtain ⟨ao2, cap2, he, hXV⟩ := hO.out.txs
        injection he with e1 e2 e3
        rw [← e1] at hXV
        have HXV := hidden hXV
        have hja : Ans2 8 #[.string ⟨#[32]⟩, .slice wo wn wc] (.tuple #[.string JB, .nilIface]) wz := fun W hbw => by
          have h := join_any D tE pE m ⟨#[32]⟩ wo wc wn (texts V) W HTL.out (by omega) (HLZ.out.cx.below hbw) (hXV.below hbw) (fun v hv => by
            obtain ⟨y, hy, rfl⟩ := List.mem_map.1 hv
            have := (hV.out y hy).2
            rw [txt_size]
            omega) (by decide)
          rw [datas_texts, joinV, if_pos (by show (joinF [32] V).length ≤ 1024; omega)] at h
          rw [← hJB]
          exact h
        have JA := hidden hja
        have HW2 := hidden (fun W => words_any JB W (by omega))
        rw [hJBd, hwj] at HW2
        have HB := hidden (Below.refl wz.heap.size wz)
        clear hT hjl hjl2 hwj hJB hJBd hXV e1 e2 e3 hja hst hHas hV hO
        by_cases hT0 : T.size = 0
        · have hem := text_emp hT0
          clear hT0 hTh
          go_wp2_with (first | (go_at_call 18; first | ((with_reducible refine (HW1.out _).mono ?_); rintro e w2 ⟨ga, gn, gc, rfl, hgn, hg, hb2⟩; obtain rfl : wn = gn := hVl.out.symm.trans hgn; have HG := hidden hg; clear hg hgn; replace HB := hidden (HB.out.trans (hb2.mono HB.out.size)); clear hb2) | ((with_reducible refine (HW2.out _).mono ?_); rintro e w2 ⟨ga2, gn, gc2, rfl, hgn, hg, hb2⟩; obtain rfl : wn = gn := hVl.out.symm.trans hgn; have HG2 := hidden hg; clear hg hgn; replace HB := hidden (HB.out.trans (hb2.mono HB.out.size)); clear hb2)) | (go_at_call 13; ((with_reducible refine (ST.out _ HB.out).mono ?_); rintro e w2 ⟨rfl, hb2⟩; replace HG := hidden (HG.out.below hb2); replace HB := hidden (HB.out.trans (hb2.mono HB.out.size)); clear hb2)) | (go_at_call 8; ((with_reducible refine (JA.out _ HB.out).mono ?_); rintro e w2 ⟨rfl, hb2⟩; replace HG := hidden (HG.out.below hb2); replace HB := hidden (HB.out.trans (hb2.mono HB.out.size)); clear hb2)) | (go_at_call 19; first | ((refine (same_any ga2 wo gc2 wc wn wn (texts V) _ (by have := HTL.out; omega) HTL.out HTL.out HG2.out (HXV.out.below HB.out)).mono ?_); rintro e w2 ⟨rfl, hb2⟩; replace HB := hidden (HB.out.trans (hb2.mono HB.out.size)); clear hb2) | ((refine (same_any ga wo gc wc wn wn (texts V) _ (by have := HTL.out; omega) HTL.out HTL.out HG.out (HXV.out.below HB.out)).mono ?_); rintro e w2 ⟨rfl, hb2⟩; replace HB := hidden (HB.out.trans (hb2.mono HB.out.size)); clear hb2)))
          go_ret
          exact ⟨rfl, hb.out.trans (HB.out.mono hb.out.size)⟩
        · have hne := text_ne T (by omega)
          have hTl : T.data.toList = T[0] :: (T.extract 1 T.size).data.toList := head_cons T (by omega)
          have hz := hTh _ _ hTl
          have hi0 : ∀ W, (Instr.index 9 (.string T) (.int .i64 0)).run Tryd.prog W = .ok (.int .u8 (T[0].toNat : Int)) W := fun W => idx_at T 0 (by omega) W
          obtain ⟨l, hl⟩ : ∃ l, T.size = l + 1 := ⟨T.size - 1, by omega⟩
          have hil := idx_at T l (by omega)
          have hl4 : l ≤ 408 := by omega
          obtain ⟨z, hz0⟩ : ∃ z, T[0].toNat = z := ⟨_, rfl⟩
          obtain ⟨y, hy0⟩ : ∃ y, (T[l]'(by omega)).toNat = y := ⟨_, rfl⟩
          rw [hz0] at hz hi0
          rw [hy0] at hil
          clear hTl hTh hz0 hy0
          have hcs : z < 9 ∨ (13 < z ∧ z < 32) ∨ (32 < z ∧ 32 < y) ∨ (32 < z ∧ y ≤ 32) := by omega
          clear hz
          rcases hcs with h1 | ⟨h1, h2⟩ | ⟨h1, h2⟩ | ⟨h1, h2⟩
          all_goals
            go_wp2_with (first | (go_at_call 18; first | ((with_reducible refine (HW1.out _).mono ?_); rintro e w2 ⟨ga, gn, gc, rfl, hgn, hg, hb2⟩; obtain rfl : wn = gn := hVl.out.symm.trans hgn; have HG := hidden hg; clear hg hgn; replace HB := hidden (HB.out.trans (hb2.mono HB.out.size)); clear hb2) | ((with_reducible refine (HW2.out _).mono ?_); rintro e w2 ⟨ga2, gn, gc2, rfl, hgn, hg, hb2⟩; obtain rfl : wn = gn := hVl.out.symm.trans hgn; have HG2 := hidden hg; clear hg hgn; replace HB := hidden (HB.out.trans (hb2.mono HB.out.size)); clear hb2)) | (go_at_call 13; ((with_reducible refine (ST.out _ HB.out).mono ?_); rintro e w2 ⟨rfl, hb2⟩; replace HG := hidden (HG.out.below hb2); replace HB := hidden (HB.out.trans (hb2.mono HB.out.size)); clear hb2)) | (go_at_call 8; ((with_reducible refine (JA.out _ HB.out).mono ?_); rintro e w2 ⟨rfl, hb2⟩; replace HG := hidden (HG.out.below hb2); replace HB := hidden (HB.out.trans (hb2.mono HB.out.size)); clear hb2)) | (go_at_call 19; first | ((refine (same_any ga2 wo gc2 wc wn wn (texts V) _ (by have := HTL.out; omega) HTL.out HTL.out HG2.out (HXV.out.below HB.out)).mono ?_); rintro e w2 ⟨rfl, hb2⟩; replace HB := hidden (HB.out.trans (hb2.mono HB.out.size)); clear hb2) | ((refine (same_any ga wo gc wc wn wn (texts V) _ (by have := HTL.out; omega) HTL.out HTL.out HG.out (HXV.out.below HB.out)).mono ?_); rintro e w2 ⟨rfl, hb2⟩; replace HB := hidden (HB.out.trans (hb2.mono HB.out.size)); clear hb2)))
            go_ret
            exact ⟨by first | rfl | exact ret_bool (by simp; omega), hb.out.trans (HB.out.mono hb.out.size)⟩
  · have hcs : R = false ∨ (R = true ∧ 30 < bn) := by
      cases R with
      | false => exact .inl rfl
      | true => exact .inr ⟨rfl, by
          have : ¬ bn ≤ 30 := fun h => hok ⟨rfl, h⟩
          omega⟩
    clear hok hL hX hZ hn hzn hR
    rcases hcs with rfl | ⟨rfl, h30⟩
    all_goals
      go_enter Tryd.func5, Tryd.ntmps5
      go_wp2_with (first | (go_at_call 6; (with_reducible refine (HF.out _ HB.out).mono ?_); rintro e w2 ⟨rfl, hb⟩; replace HB := hidden hb; clear hb) | (go_at_call 16; (with_reducible refine (HT.out _ HB.out).mono ?_); rintro e w2 ⟨rfl, hb⟩; replace HB := hidden hb; clear hb))
      go_ret
      exact ⟨rfl, HB.out⟩
end St
end Go.Proofs.YtdiocmcfaneajaaDoor
