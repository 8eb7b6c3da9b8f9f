/- What the document's Replace answers of an empty text, and of any. Conditions: a text of at most 1000 bytes. -/
import Derived.Test.YtdiocmcfaneajaaGreatDoorSrR
namespace Go.Proofs.YtdiocmcfaneajaaGreatDoor
open Go.RowKit
open Lx
namespace St

theorem repE_cons (new : L) (m : Int) (c : UInt8) (t : L) : repE new m (c :: t) = if m = 0 then c :: t else new ++ c :: repE new (m - 1) t := rfl
theorem repE_nil (new : L) (m : Int) : repE new m [] = if m = 0 then [] else new := rfl
theorem occ_empty (s : L) (k : Nat) : Lib.occAt s [] k = true := rfl
/-- What is still to come from the byte k on. -/
def restE (new s : L) (m : Int) (k : Nat) : L := if k ≤ s.length then repE new m (s.drop k) else []
theorem restE_hit (new s : L) (m : Int) (k : Nat) (hm : m ≠ 0) (hk : k < s.length) : restE new s m k = new ++ s[k] :: restE new s (m - 1) (k + 1) := by
  unfold restE
  rw [if_pos (by omega), if_pos (by omega), List.drop_eq_getElem_cons hk, repE_cons, if_neg hm]
theorem restE_last (new s : L) (m : Int) (k : Nat) (hm : m ≠ 0) (hk : k = s.length) : restE new s m k = new ++ restE new s (m - 1) (k + 1) := by
  unfold restE
  rw [if_pos (by omega), if_neg (by omega), List.drop_of_length_le (by omega), repE_nil, if_neg hm, List.append_nil]
theorem restE_skip (new s : L) (m : Int) (k : Nat) (hm : m = 0) (hk : k < s.length) : restE new s m k = s[k] :: restE new s m (k + 1) := by
  subst hm
  unfold restE
  rw [if_pos (by omega), if_pos (by omega), repE_zero, repE_zero, List.drop_eq_getElem_cons hk]
theorem restE_end (new s : L) (m : Int) (k : Nat) (hm : m = 0) (hk : k = s.length) : restE new s m k = restE new s m (k + 1) := by
  subst hm
  unfold restE
  rw [if_pos (by omega), if_neg (by omega), repE_zero, List.drop_of_length_le (by omega)]
set_option maxRecDepth 100000 in
set_option maxHeartbeats 6400000 in
theorem rreplace_empty (s new : ByteArray) (most : Int) (w : World) (hs : s.size ≤ 1000) (hn : new.size ≤ 100000) :
    Calls Tryz.prog 14 #[.string s, .string ⟨#[]⟩, .string new, .int .i64 most] w fun e w' => e = .returned (rjoinV (repE new.data.toList most s.data.toList)) ∧ Below w.heap.size w w' := by
  obtain ⟨T, hT⟩ : ∃ T, repE new.data.toList most s.data.toList = T := ⟨_, rfl⟩
  have HT : Hid (restE new.data.toList s.data.toList most 0 = T) := hidden (by rw [restE, if_pos (Nat.zero_le _), List.drop_zero, hT])
  rw [hT]
  have HAT : Hid (∀ (k : Nat), k ≤ s.size → ∀ W, Calls Tryz.prog 35 #[.string s, .string ⟨#[]⟩, .int .i64 (k : Int)] W fun e w' => e = .returned (.bool true) ∧ w' = W) := hidden (fun k hk W => rat_any s ⟨#[]⟩ k hk (by omega) (by decide) W)
  clear hT
  go_enter Tryz.func14, Tryz.ntmps14
  go_wp2
  go_loopw [10, 11, 12] (fun vb vn vi wr => ∃ k n l : Nat, ∃ bo bc, ∃ b : L, vi = .int .i64 k ∧ vn = .int .i64 n ∧ vb = .slice bo l bc ∧ k ≤ s.size + 1 ∧ n ≤ k ∧ l ≤ 1024 ∧ Hid (most < 0 ∨ (n : Int) ≤ most) ∧ Hid (b.length = l) ∧ Hid (b ++ restE new.data.toList s.data.toList (most - n) k = T) ∧ Hid (OwnB wr w.heap.size (.slice bo l bc) b) ∧ Hid (Below w.heap.size w wr)) (fun _ _ vi _ => s.size + 1 - (intOf vi).toNat)
  case atStart => exact ⟨0, 0, 0, none, 0, [], rfl, rfl, rfl, by omega, by omega, by omega, hidden (by omega), hidden rfl, hidden (by simpa using HT.out), hidden (ownB_nil _ _), hidden (Below.refl _ _)⟩
  case round =>
    obtain ⟨k, n, l, bo, bc, b, rfl, rfl, rfl, hk, hnk, hl, hmo, hlen, hall, hO, hb⟩ := hrel
    have hbs := hb.out.size
    clear HT
    by_cases hlt : k ≤ s.size
    · have HA := hidden (HAT.out k hlt wr)
      by_cases hm0 : most - n = 0
      · have h0 : ¬ most < 0 := by have := hmo.out; omega
        have h1 : ¬ (n : Int) < most := by omega
        by_cases hkl : k < s.size
        · have hix := idx_at s k hkl
          have hkl' : k < s.data.toList.length := by rw [size_data]; exact hkl
          have hst := restE_skip new.data.toList s.data.toList (most - n) k hm0 hkl'
          have hcc : s.data.toList[k] = s[k] := rfl
          obtain ⟨c, hc⟩ : ∃ c, s[k] = c := ⟨_, rfl⟩
          rw [hcc, hc] at hst
          rw [hc] at hix
          have R1 : Hid (b ++ [c] ++ restE new.data.toList s.data.toList (most - n) (k + 1) = T) := hidden (by
            rw [← hall.out, hst, List.append_assoc]
            rfl)
          have hjl : Hid ((b ++ [c]).length = l + 1) := hidden (by rw [List.length_append, hlen.out]; rfl)
          clear hc hcc hst hkl'
          by_cases hfit : l + 1 ≤ 1024
          · go_wp2_with (first | (go_at_call 35; (with_reducible refine HA.out.mono ?_); rintro e w' ⟨rfl, hw⟩; rw [hw]; clear hw) | (at_builtin; refine byte_onto hO.out c (l + 1) (by rw [hlen.out]) hbs (by rw [hlen.out]; omega) rfl _ _ rfl rfl rfl ?_; intro g cap2 w2 h2 hb2; have H2 := hidden h2; have HB2 := hidden hb2; clear h2 hb2))
            have R3 := hidden (hb.out.trans HB2.out)
            go_roundw
            case rel => exact ⟨k + 1, n, l + 1, some ⟨g, 0, none⟩, cap2, _, by go_num, rfl, rfl, by omega, by omega, by omega, hmo, hjl, R1, H2, R3⟩
            case measure => simp [intOf]; omega
          · have hbad := hidden (rjoin_bad ⟨_, R1.out⟩ (by rw [hjl.out]; omega))
            go_wp2_with (first | (go_at_call 35; (with_reducible refine HA.out.mono ?_); rintro e w' ⟨rfl, hw⟩; rw [hw]; clear hw) | (at_builtin; refine byte_onto hO.out c (l + 1) (by rw [hlen.out]) hbs (by rw [hlen.out]; omega) rfl _ _ rfl rfl rfl ?_; intro g cap2 w2 h2 hb2; have H2 := hidden h2; have HB2 := hidden hb2; clear h2 hb2))
            go_ret2
            exact ⟨by rw [hbad.out]; rfl, hb.out.trans HB2.out⟩
        · have R1 : Hid (b ++ restE new.data.toList s.data.toList (most - n) (k + 1) = T) := hidden (by
            rw [← hall.out, restE_end _ _ _ k hm0 (by rw [size_data]; omega)])
          go_wp2_with (first | (go_at_call 35; (with_reducible refine HA.out.mono ?_); rintro e w' ⟨rfl, hw⟩; rw [hw]; clear hw))
          go_roundw
          case rel => exact ⟨k + 1, n, l, bo, bc, b, by go_num, rfl, rfl, by omega, by omega, by omega, hmo, hlen, R1, hO, hb⟩
          case measure => simp [intOf]; omega
      · have hor : Hid (most < 0 ∨ (0 ≤ most ∧ (n : Int) < most)) := hidden (by have := hmo.out; omega)
        have R2 : Hid (most < 0 ∨ ((n + 1 : Nat) : Int) ≤ most) := hidden (by have := hmo.out; omega)
        have hjl1 : Hid ((b ++ new.data.toList).length = l + new.size) := hidden (by rw [List.length_append, hlen.out, size_data])
        by_cases hkl : k < s.size
        · have hix := idx_at s k hkl
          have hkl' : k < s.data.toList.length := by rw [size_data]; exact hkl
          have hst := restE_hit new.data.toList s.data.toList (most - n) k hm0 hkl'
          have hcc : s.data.toList[k] = s[k] := rfl
          obtain ⟨c, hc⟩ : ∃ c, s[k] = c := ⟨_, rfl⟩
          rw [hcc, hc] at hst
          rw [hc] at hix
          have R1 : Hid (b ++ new.data.toList ++ [c] ++ restE new.data.toList s.data.toList (most - ((n + 1 : Nat) : Int)) (k + 1) = T) := hidden (by
            rw [← hall.out, hst, show most - ((n + 1 : Nat) : Int) = most - n - 1 by omega]
            simp only [List.append_assoc, List.cons_append, List.nil_append])
          have hjl : Hid ((b ++ new.data.toList ++ [c]).length = l + new.size + 1) := hidden (by rw [List.length_append, hjl1.out]; rfl)
          clear hc hcc hst hkl'
          by_cases hfit : l + new.size + 1 ≤ 1024
          · rcases hor.out with h0 | ⟨h0, h1⟩ <;>
            · go_wp2_with (first | (go_at_call 35; (with_reducible refine HA.out.mono ?_); rintro e w' ⟨rfl, hw⟩; rw [hw]; clear hw) | (at_builtin; refine byte_onto H3.out c (l + new.size + 1) (by rw [hjl1.out]) hbs3 (by rw [hjl1.out]; omega) rfl _ _ rfl rfl rfl ?_; intro g cap2 w2 h2 hb2; have H2 := hidden h2; have HB2 := hidden (HB3.out.trans hb2); clear h2 hb2) | (at_builtin; refine append_text wr rfl _ _ rfl w.heap.size _ b new rfl hO.out rfl (by rw [hlen.out]; omega) hbs ?_; intro v2 w3 h3 hb3 _; obtain ⟨ao3, cap3, hv3, _, _⟩ := h3.at; rw [hjl1.out] at hv3; subst hv3; have H3 := hidden h3; have HB3 := hidden hb3; have hbs3 : w.heap.size ≤ w3.heap.size := (by have := hb3.size; omega); clear h3 hb3))
              have R3 := hidden (hb.out.trans HB2.out)
              go_roundw
              case rel => exact ⟨k + 1, n + 1, l + new.size + 1, some ⟨g, 0, none⟩, cap2, _, by go_num, by go_num, rfl, by omega, by omega, by omega, R2, hjl, R1, H2, R3⟩
              case measure => simp [intOf]; omega
          · have hbad := hidden (rjoin_bad ⟨_, R1.out⟩ (by rw [hjl.out]; omega))
            rcases hor.out with h0 | ⟨h0, h1⟩ <;>
            · go_wp2_with (first | (go_at_call 35; (with_reducible refine HA.out.mono ?_); rintro e w' ⟨rfl, hw⟩; rw [hw]; clear hw) | (at_builtin; refine byte_onto H3.out c (l + new.size + 1) (by rw [hjl1.out]) hbs3 (by rw [hjl1.out]; omega) rfl _ _ rfl rfl rfl ?_; intro g cap2 w2 h2 hb2; have H2 := hidden h2; have HB2 := hidden (HB3.out.trans hb2); clear h2 hb2) | (at_builtin; refine append_text wr rfl _ _ rfl w.heap.size _ b new rfl hO.out rfl (by rw [hlen.out]; omega) hbs ?_; intro v2 w3 h3 hb3 _; obtain ⟨ao3, cap3, hv3, _, _⟩ := h3.at; rw [hjl1.out] at hv3; subst hv3; have H3 := hidden h3; have HB3 := hidden hb3; have hbs3 : w.heap.size ≤ w3.heap.size := (by have := hb3.size; omega); clear h3 hb3))
              go_ret2
              exact ⟨by rw [hbad.out]; rfl, hb.out.trans HB2.out⟩
        · have R1 : Hid (b ++ new.data.toList ++ restE new.data.toList s.data.toList (most - ((n + 1 : Nat) : Int)) (k + 1) = T) := hidden (by
            rw [← hall.out, restE_last _ _ _ k hm0 (by rw [size_data]; omega), show most - ((n + 1 : Nat) : Int) = most - n - 1 by omega, List.append_assoc])
          by_cases hfit : l + new.size ≤ 1024
          · rcases hor.out with h0 | ⟨h0, h1⟩ <;>
            · go_wp2_with (first | (go_at_call 35; (with_reducible refine HA.out.mono ?_); rintro e w' ⟨rfl, hw⟩; rw [hw]; clear hw) | (at_builtin; refine append_text wr rfl _ _ rfl w.heap.size _ b new rfl hO.out rfl (by rw [hlen.out]; omega) hbs ?_; intro v2 w3 h3 hb3 _; obtain ⟨ao3, cap3, hv3, _, _⟩ := h3.at; rw [hjl1.out] at hv3; subst hv3; have H3 := hidden h3; have HB3 := hidden hb3; have hbs3 : w.heap.size ≤ w3.heap.size := (by have := hb3.size; omega); clear h3 hb3))
              have R3 := hidden (hb.out.trans HB3.out)
              go_roundw
              case rel => exact ⟨k + 1, n + 1, l + new.size, ao3, cap3, _, by go_num, by go_num, rfl, by omega, by omega, by omega, R2, hjl1, R1, H3, R3⟩
              case measure => simp [intOf]; omega
          · have hbad := hidden (rjoin_bad ⟨_, R1.out⟩ (by rw [hjl1.out]; omega))
            rcases hor.out with h0 | ⟨h0, h1⟩ <;>
            · go_wp2_with (first | (go_at_call 35; (with_reducible refine HA.out.mono ?_); rintro e w' ⟨rfl, hw⟩; rw [hw]; clear hw) | (at_builtin; refine append_text wr rfl _ _ rfl w.heap.size _ b new rfl hO.out rfl (by rw [hlen.out]; omega) hbs ?_; intro v2 w3 h3 hb3 _; obtain ⟨ao3, cap3, hv3, _, _⟩ := h3.at; rw [hjl1.out] at hv3; subst hv3; have H3 := hidden h3; have HB3 := hidden hb3; have hbs3 : w.heap.size ≤ w3.heap.size := (by have := hb3.size; omega); clear h3 hb3))
              go_ret2
              exact ⟨by rw [hbad.out]; rfl, hb.out.trans HB3.out⟩
    · have hfin : Hid (b = T) := hidden (by
        have h8 := hall.out
        rwa [restE, if_neg (by rw [size_data]; omega), List.append_nil] at h8)
      have HV : Hid (rjoinV T = .tuple #[.string (txt b), .int .i64 0]) := hidden (by rw [← hfin.out, rjoinV, if_pos (by rw [hlen.out]; omega)])
      have hconv := hO.out.conv
      generalize txt b = R at hconv HV
      go_wp2
      go_ret2
      exact ⟨by rw [HV.out]; rfl, hb.out⟩
theorem rreplace_any (s old new : ByteArray) (most : Int) (w : World) (hs : s.size ≤ 1000) (ho : old.size ≤ 1000) (hn : new.size ≤ 100000) :
    Calls Tryz.prog 14 #[.string s, .string old, .string new, .int .i64 most] w fun e w' => e = .returned (rjoinV (repF s.data.toList old.data.toList new.data.toList (s.size + 2) most 0 0)) ∧ Below w.heap.size w w' := by
  by_cases h0 : old.size = 0
  · obtain rfl := text_nil h0
    have e := repF_empty s.data.toList new.data.toList most
    rw [size_data] at e
    have h := rreplace_empty s new most w hs hn
    rw [← e] at h
    exact h
  · have hsl : old.data.toList ≠ [] := fun e => h0 (by rw [← size_data, e]; rfl)
    have h := rreplace_text s old new most w hs ho hn h0
    rw [rep_join _ _ _ hsl _ _ _ (Nat.zero_le _), List.drop_zero, split_fuel old.data.toList hsl (s.size + 2) (s.size + 1) _ _ (by rw [size_data]; omega) (by rw [size_data]; omega)]
    exact h
end St
end Go.Proofs.YtdiocmcfaneajaaGreatDoor
