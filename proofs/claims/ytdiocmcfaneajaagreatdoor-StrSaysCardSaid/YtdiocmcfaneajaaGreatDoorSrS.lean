/- What the document's Split answers. Conditions: a text of at most 1000 bytes. -/
import Derived.Test.YtdiocmcfaneajaaGreatDoorSrF
namespace Go.Proofs.YtdiocmcfaneajaaGreatDoor
open Go.RowKit
open Lx
namespace St

theorem split_step (sep : L) (f : Nat) (m : Int) (s : L) : splitF sep (f + 1) m s = if m = 0 then [s] else if Lib.index s sep < 0 then [s] else s.take (Lib.index s sep).toNat :: splitF sep f (m - 1) (s.drop ((Lib.index s sep).toNat + sep.length)) := rfl
theorem split_at (sep s : L) (f : Nat) (m : Int) (k : Nat) (hm : m ≠ 0) (hk : k + sep.length ≤ s.length) (hno : ∀ j, j < k → Lib.occAt s sep j = false) (hh : Lib.occAt s sep k = true) : splitF sep (f + 1) m s = s.take k :: splitF sep f (m - 1) (s.drop (k + sep.length)) := by
  have hi : Lib.index s sep = (k : Int) := Lib.index_first (by omega) hh hno
  rw [split_step, if_neg hm, hi, if_neg (by omega), Int.toNat_natCast]
theorem split_end (sep s : L) (f : Nat) (m : Int) (hsep : sep ≠ []) (h : m = 0 ∨ ∀ j, j < s.length → Lib.occAt s sep j = false) : splitF sep (f + 1) m s = [s] := by
  unfold splitF
  by_cases hm : m = 0
  · rw [if_pos hm]
  · rw [if_neg hm]
    have hno : ∀ j, j < s.length → Lib.occAt s sep j = false := by
      rcases h with h | h
      · exact absurd h hm
      · exact h
    have hi : Lib.index s sep = -1 := Lib.index_none fun j hj => by
      by_cases h2 : j < s.length
      · exact hno j h2
      · rw [← Bool.not_eq_true]
        intro h3
        have hp := List.length_pos_iff.2 hsep
        rcases Lib.occAt_room h3 with h4 | h4
        · omega
        · exact absurd h4 hsep
    rw [if_pos (by omega)]
set_option maxRecDepth 100000 in
theorem rsplit_none (s : ByteArray) (most : Int) (w : World) :
    Calls Tryz.prog 8 #[.string s, .string ⟨#[]⟩, .int .i64 most] w fun e w' => e = .returned (.tuple #[.slice none 0 0, .int .i64 104]) ∧ Below w.heap.size w w' := by
  go_enter Tryz.func8, Tryz.ntmps8
  go_wp2
  go_ret2
  exact ⟨rfl, Below.refl _ _⟩
set_option maxRecDepth 100000 in
set_option maxHeartbeats 3200000 in
theorem rsplit_any (s sep : ByteArray) (most : Int) (w : World) (hs : s.size ≤ 1000) (hsz : sep.size ≤ 100000) (hsep : sep.size ≠ 0) :
    Calls Tryz.prog 8 #[.string s, .string sep, .int .i64 most] w fun e w' => ∃ v, e = .returned (.tuple #[v, .int .i64 0]) ∧ OwnT w' w.heap.size v (texts (splitF sep.data.toList (s.size + 1) most s.data.toList)) ∧ Below w.heap.size w w' := by
  have hsl : Hid (sep.data.toList ≠ []) := hidden (fun e => hsep (by rw [← size_data, e]; rfl))
  have hne := text_ne sep (by omega)
  obtain ⟨T, hT⟩ : ∃ T, splitF sep.data.toList (s.size + 1) most s.data.toList = T := ⟨_, rfl⟩
  have HT := hidden hT
  rw [hT]
  have HAT := hidden (fun (k : Nat) (hk : k ≤ s.size) (W : World) => rat_any s sep k hk (by omega) hsz W)
  have hsepp : 0 < sep.size := by omega
  clear hT hsep
  go_enter Tryz.func8, Tryz.ntmps8
  go_wp2
  go_loopw [8, 9, 10, 11] (fun vl vf vc vi wr => ∃ k fr c f : Nat, ∃ pre : List L, ∃ ao cap, vi = .int .i64 k ∧ vf = .int .i64 fr ∧ vc = .int .i64 c ∧ vl = .slice ao c cap ∧ fr ≤ k ∧ k ≤ s.size ∧ c ≤ fr ∧ s.size < fr + f ∧ Hid (most < 0 ∨ (c : Int) ≤ most) ∧ Hid (pre.length = c) ∧ Hid (pre ++ splitF sep.data.toList f (most - c) (s.data.toList.drop fr) = T) ∧ Hid (most - c = 0 ∨ ∀ j, fr ≤ j → j < k → Lib.occAt s.data.toList sep.data.toList j = false) ∧ Hid (OwnT wr w.heap.size (.slice ao c cap) (texts pre)) ∧ Hid (Below w.heap.size w wr)) (fun _ _ _ vi _ => s.size - (intOf vi).toNat)
  case atStart => exact ⟨0, 0, 0, s.size + 1, [], none, 0, rfl, rfl, rfl, rfl, by omega, by omega, by omega, by omega, hidden (by omega), hidden rfl, hidden (by simpa using HT.out), hidden (.inr fun j _ h => absurd h (by omega)), hidden (ownT_nil _ _), hidden (Below.refl _ _)⟩
  case round =>
    obtain ⟨k, fr, c, f, pre, ao, cap, rfl, rfl, rfl, rfl, hfk, hk, hcf, hf, hmo, hpl, hall, hno, hO, hb⟩ := hrel
    obtain ⟨f, rfl⟩ : ∃ g, f = g + 1 := ⟨f - 1, by omega⟩
    have HPL : Hid ((texts pre).length = c) := hidden (by unfold texts; rw [List.length_map, hpl.out])
    have hbs := hb.out.size
    clear HT
    by_cases hlt : k < s.size
    · have HA := hidden (HAT.out k (by omega) wr)
      obtain ⟨o, ho⟩ : ∃ o, Lib.occAt s.data.toList sep.data.toList k = o := ⟨_, rfl⟩
      rw [ho] at HA
      cases o with
      | false =>
        have R1 : Hid (most - c = 0 ∨ ∀ j, fr ≤ j → j < k + 1 → Lib.occAt s.data.toList sep.data.toList j = false) := hidden (by
          rcases hno.out with h | h
          · exact .inl h
          · refine .inr fun j h1 h2 => ?_
            by_cases e : j = k
            · rw [e]; exact ho
            · exact h j h1 (by omega))
        clear ho
        go_wp2_with (go_at_call 35; (with_reducible refine HA.out.mono ?_); rintro e w' ⟨rfl, hw⟩; rw [hw]; clear hw)
        go_roundw
        case rel => exact ⟨k + 1, fr, c, f + 1, pre, ao, cap, by go_num, rfl, rfl, rfl, by omega, by omega, by omega, by omega, hmo, hpl, hall, R1, hO, hb⟩
        case measure => simp [intOf]; omega
      | true =>
        by_cases hc0 : most - c = 0
        · have h1 : ¬ most < 0 := by omega
          have h2 : ¬ (c : Int) < most := by omega
          clear ho
          go_wp2_with (go_at_call 35; (with_reducible refine HA.out.mono ?_); rintro e w' ⟨rfl, hw⟩; rw [hw]; clear hw)
          go_roundw
          case rel => exact ⟨k + 1, fr, c, f + 1, pre, ao, cap, by go_num, rfl, rfl, rfl, by omega, by omega, by omega, by omega, hmo, hpl, hall, hidden (.inl hc0), hO, hb⟩
          case measure => simp [intOf]; omega
        · have hor : Hid (most < 0 ∨ (0 ≤ most ∧ (c : Int) < most)) := hidden (by have := hmo.out; omega)
          have hroom : k + sep.size ≤ s.size := by
            rcases Lib.occAt_room ho with h3 | h3
            · rw [size_data, size_data] at h3; exact h3
            · exact absurd h3 hsl.out
          have hnn : ∀ j, fr ≤ j → j < k → Lib.occAt s.data.toList sep.data.toList j = false := by
            rcases hno.out with h | h
            · exact absurd h hc0
            · exact h
          have hsp := split_at sep.data.toList (s.data.toList.drop fr) f (most - c) (k - fr) hc0 (by rw [List.length_drop, size_data, size_data]; omega) (fun j hj => by rw [occ_drop]; exact hnn _ (by omega) (by omega)) (by rw [occ_drop, show fr + (k - fr) = k by omega]; exact ho)
          have R3 : Hid (pre ++ [(s.extract fr k).data.toList] ++ splitF sep.data.toList f (most - ((c + 1 : Nat) : Int)) (s.data.toList.drop (k + sep.size)) = T) := hidden (by
            rw [← hall.out, hsp, ext_data, List.drop_drop, size_data, show fr + (k - fr + sep.size) = k + sep.size by omega, show most - ((c + 1 : Nat) : Int) = most - c - 1 by omega, List.append_assoc]
            rfl)
          have hsl2 := slice_mid s fr k hfk (by omega)
          obtain ⟨X, hX⟩ : ∃ X, s.extract fr k = X := ⟨_, rfl⟩
          rw [hX] at R3 hsl2
          clear ho hsp hnn hX hc0
          rcases hor.out with h0 | ⟨h0, h1⟩ <;>
          · go_wp2_with (first | (go_at_call 35; (with_reducible refine HA.out.mono ?_); rintro e w' ⟨rfl, hw⟩; rw [hw]; clear hw) | (at_builtin; refine text_onto hO.out X (c + 1) (by rw [HPL.out]) hbs (by rw [HPL.out]; omega) rfl _ _ rfl rfl rfl ?_; intro g cap2 w2 hown2 hb3; have HO3 := hidden hown2; have HB3 := hidden hb3; clear hown2 hb3))
            have R1 : Hid (most < 0 ∨ ((c + 1 : Nat) : Int) ≤ most) := hidden (by omega)
            have R2 : Hid ((pre ++ [X.data.toList]).length = c + 1) := hidden (by rw [List.length_append, hpl.out]; rfl)
            have R4 : Hid (OwnT w2 w.heap.size (.slice (some ⟨g, 0, none⟩) (c + 1) cap2) (texts (pre ++ [X.data.toList]))) := hidden (by
              have e : texts (pre ++ [X.data.toList]) = texts pre ++ [X] := by simp [texts, txt_data]
              rw [e]; exact HO3.out)
            have R5 := hidden (hb.out.trans HB3.out)
            have R6 : Hid (most - ((c + 1 : Nat) : Int) = 0 ∨ ∀ j, k + sep.size ≤ j → j < k + sep.size → Lib.occAt s.data.toList sep.data.toList j = false) := hidden (.inr fun j h1 h2 => absurd h2 (by omega))
            go_roundw
            case rel => exact ⟨k + sep.size, k + sep.size, c + 1, f, pre ++ [X.data.toList], _, _, by go_num, by go_num, by go_num, rfl, by omega, by omega, by omega, by omega, R1, R2, R3, R6, R4, R5⟩
            case measure => simp [intOf]; omega
    · have hk2 : k = s.size := by omega
      have hfin : Hid (T = pre ++ [(s.extract fr s.size).data.toList]) := hidden (by
        rw [← hall.out, suf_data, split_end _ _ f _ hsl.out]
        rcases hno.out with h | h
        · exact .inl h
        · refine .inr fun j hj => ?_
          rw [List.length_drop, size_data] at hj
          rw [occ_drop]
          exact h _ (by omega) (by omega))
      have hsl2 := slice_suf s fr (by omega)
      obtain ⟨X, hX⟩ : ∃ X, s.extract fr s.size = X := ⟨_, rfl⟩
      rw [hX] at hfin hsl2
      have HTX := hidden (fun (a : Option Addr) (q : Nat) (W : World) => rtexts_any a (c + 1) q (by omega) W)
      clear hX
      go_wp2_with (first | (go_at_call 36; (with_reducible refine (HTX.out _ _ _).mono ?_); rintro e w' ⟨rfl, hw⟩; rw [hw]; clear hw) | (at_builtin; refine text_onto hO.out X (c + 1) (by rw [HPL.out]) hbs (by rw [HPL.out]; omega) rfl _ _ rfl rfl rfl ?_; intro g cap2 w2 hown2 hb3; have HO3 := hidden hown2; have HB3 := hidden hb3; clear hown2 hb3))
      go_ret2
      refine ⟨_, rfl, ?_, hb.out.trans HB3.out⟩
      have e : texts T = texts pre ++ [X] := by rw [hfin.out]; simp [texts, txt_data]
      rw [e]
      exact HO3.out
end St
end Go.Proofs.YtdiocmcfaneajaaGreatDoor
