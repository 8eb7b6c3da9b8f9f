/- smithylaw11.StrParts answers true, whatever the texts. Conditions: the words, and the errors, lie in their variables. -/
import Derived.Test.YtdiocmcfaneajaaDoorStD
namespace Go.Proofs.YtdiocmcfaneajaaDoor
open Go.RowKit
open Lx
namespace St

theorem texts_len (l : List L) : (texts l).length = l.length := List.length_map ..
theorem texts_get (l : List L) (k : Nat) (hk : k < l.length) : (texts l)[k]'(by rw [texts_len]; exact hk) = txt l[k] := by simp [texts]
set_option maxRecDepth 100000 in
set_option maxHeartbeats 3200000 in
theorem strParts_any {D : Value} {tE : TypeId} {pE : Value} {m : Int} {w : World} (hL : Lw D tE pE m w) (s sep other : ByteArray) :
    Calls Tryd.prog 3 #[.string s, .string sep, .string other] w fun e w' => e = .returned (.bool true) ∧ Below w.heap.size w w' := by
  have HF := hidden hL.first
  have HB := hidden (Below.refl w.heap.size w)
  by_cases hok : s.size ≤ 300 ∧ sep.size ≤ 50 ∧ other.size ≤ 50 ∧ sep.size ≠ 0
  · obtain ⟨hs, hsep, hoth, hne0⟩ := hok
    have hne := text_ne sep (by omega)
    have HSP := hidden (fun W (hb : Below w.heap.size w W) => split_any D (.iface tE pE) m s sep (-1) W (hL.cx.below hb) (by omega) hne0)
    have hsl : sep.data.toList ≠ [] := fun e => hne0 (by rw [← size_data, e]; rfl)
    obtain ⟨P, hP⟩ : ∃ P, splitF sep.data.toList (s.size + 1) (-1) s.data.toList = P := ⟨_, rfl⟩
    rw [hP] at HSP
    have hjs : joinF sep.data.toList P = s.data.toList := by rw [← hP]; exact join_split _ _ _ _
    have hcnt : countF s.data.toList sep.data.toList + 1 = P.length := by
      unfold countF
      rw [if_neg hsl, ← hP, split_count _ _ _ _ (by decide), Lib.count, size_data]
    have hrep : repF s.data.toList sep.data.toList other.data.toList (s.size + 2) (-1) 0 0 = joinF other.data.toList P := by
      rw [rep_join _ _ _ hsl _ _ _ (Nat.zero_le _), List.drop_zero, ← hP]
      rw [split_fuel sep.data.toList hsl (s.size + 2) (s.size + 1) _ _ (by rw [size_data]; omega) (by rw [size_data]; omega)]
    have hPl : P.length ≤ s.size + 1 := by
      rw [← hP, ← size_data]
      exact split_short _ hsl _ _ _
    have hPx : ∀ x ∈ P, x.length ≤ 300 := fun x hx => by
      have := split_part sep.data.toList _ _ _ x (hP ▸ hx)
      rw [size_data] at this
      omega
    have htx : ∀ x ∈ texts P, x.size < 1000000 := fun x hx => by
      obtain ⟨y, hy, rfl⟩ := List.mem_map.1 hx
      have := hPx y hy
      rw [txt_size]
      omega
    have hhead : ∃ p0 q, P = p0 :: q ∧ ((Lib.index s.data.toList sep.data.toList = -1 ∧ P.length = 1) ∨ (Lib.index s.data.toList sep.data.toList = p0.length ∧ 1 < P.length)) := by
      have hge := Lib.index_ge s.data.toList sep.data.toList
      by_cases hi : Lib.index s.data.toList sep.data.toList < 0
      · refine ⟨s.data.toList, [], ?_, .inl ⟨by omega, ?_⟩⟩ <;>
        · rw [← hP]
          unfold splitF
          rw [if_neg (by decide), if_pos hi]
          try rfl
      · obtain ⟨x, t, e⟩ := split_cons sep.data.toList s.size (-1 - 1) (s.data.toList.drop ((Lib.index s.data.toList sep.data.toList).toNat + sep.data.toList.length))
        have hrm := (index_some hi).2.1
        have hPe : P = s.data.toList.take (Lib.index s.data.toList sep.data.toList).toNat :: x :: t := by
          rw [← hP]
          unfold splitF
          rw [if_neg (by decide), if_neg hi, e]
        refine ⟨_, _, hPe, .inr ⟨?_, by rw [hPe]; simp⟩⟩
        rw [List.length_take]
        omega
    obtain ⟨p0, q, hPe, hhd⟩ := hhead
    obtain ⟨x, hx⟩ : ∃ x, Lib.index s.data.toList sep.data.toList = x := ⟨_, rfl⟩
    rw [hx] at hhd
    obtain ⟨n, hn⟩ : ∃ n, P.length = n := ⟨_, rfl⟩
    rw [hn] at hcnt hPl hhd
    have hp0 : (texts P)[0]? = some (txt p0) := by rw [hPe]; rfl
    obtain ⟨B0, hB0⟩ : ∃ B0, txt p0 = B0 := ⟨_, rfl⟩
    have hB0l : p0.length = B0.size := by rw [← hB0]; rfl
    rw [hB0] at hp0
    rw [hB0l] at hhd
    have htl : (texts P).length = n := by rw [texts_len, hn]
    have HTL := hidden htl
    have HP0 := hidden hp0
    have HTX := hidden htx
    have HJS := hidden hjs
    have HREP := hidden hrep
    have HCN := hidden hcnt
    have HXX := hidden hx
    have HLL := hidden hL
    clear hL hP hjs hcnt hrep hPx htx hPe hx hn hp0 hB0 hB0l htl hsl
    go_enter Tryd.func3, Tryd.ntmps3
    go_wp2_with (first | (go_at_call 6; (with_reducible refine (HF.out _ HB.out).mono ?_); rintro e w2 ⟨rfl, hb⟩; replace HB := hidden hb; clear hb) | (go_at_call 7; (with_reducible refine (HSP.out _ HB.out).mono ?_); rintro e w1 ⟨v, rfl, hO, hb⟩; replace HB := hidden (HB.out.trans (hb.mono HB.out.size)); clear hb; obtain ⟨ao, cap, rfl, hX⟩ := hO.txs; rw [HTL.out]; have HX := hidden hX; clear hO hX))
    have hbw := HB.out
    have HL1 := hidden (HLL.out.below hbw)
    have J1 := hidden (HL1.out.join sep ao cap n (texts P) (.tuple #[.string s, .nilIface]) (by
      rw [datas_texts, HJS.out, joinV, if_pos (by rw [size_data]; omega)]; rfl) HX.out HTL.out (by omega) HTX.out (by omega))
    obtain ⟨cn, hcn⟩ : ∃ cn, countF s.data.toList sep.data.toList = cn := ⟨_, rfl⟩
    have hcn1 : cn + 1 = n := by rw [← hcn]; exact HCN.out
    have C1 := hidden (HL1.out.count s sep cn hcn (by omega))
    obtain ⟨T, hT⟩ : ∃ T, joinF other.data.toList P = T := ⟨_, rfl⟩
    have J2 := hidden (HL1.out.join other ao cap n (texts P) (joinV (.iface tE pE) T) (by rw [datas_texts, hT]) HX.out HTL.out (by omega) HTX.out (by omega))
    have R1 := hidden (HL1.out.replace s sep other (-1) (joinV (.iface tE pE) T) (by rw [HREP.out, hT]) (by omega) (by omega) (by omega))
    have F1 := hidden (HL1.out.find s sep 0 s.size x (by rw [← size_data s, find_all]; exact HXX.out) (by omega) (by omega) (by omega) (by omega) (by omega))
    have HB2 := hidden (Below.refl w1.heap.size w1)
    have h0n : 0 < n := by omega
    obtain ⟨bk, o, rfl, hbk, hcl⟩ := HX.out.at 0 (by rw [HTL.out]; exact h0n)
    rw [show (texts P)[0]'(by rw [HTL.out]; exact h0n) = B0 from by have := HP0.out; rw [List.getElem?_eq_getElem (by rw [HTL.out]; exact h0n)] at this; exact Option.some.inj this, Nat.add_zero] at hcl
    have HCL := hidden hcl
    clear hbw hcl hcn hT
    unfold joinV at J2 R1
    by_cases hT : T.length ≤ 1024
    · rw [if_pos hT] at J2 R1
      clear hT
      rcases hhd with ⟨rfl, rfl⟩ | ⟨rfl, hn1⟩ <;>
      · go_wp2_with (first | (go_at_call 8; first | ((with_reducible refine (J1.out _ HB2.out).mono ?_); rintro e w2 ⟨rfl, hb⟩; replace HB2 := hidden hb; clear hb) | ((with_reducible refine (J2.out _ HB2.out).mono ?_); rintro e w2 ⟨rfl, hb⟩; replace HB2 := hidden hb; clear hb)) | (go_at_call 9; ((with_reducible refine (C1.out _ HB2.out).mono ?_); rintro e w2 ⟨rfl, hb⟩; replace HB2 := hidden hb; clear hb)) | (go_at_call 10; ((with_reducible refine (R1.out _ HB2.out).mono ?_); rintro e w2 ⟨rfl, hb⟩; replace HB2 := hidden hb; clear hb)))
        go_quiet (fail)
        go_wp2_with ((go_at_call 11; ((refine (F1.out _ (by exact ⟨HB2.out.os, HB2.out.tape, HB2.out.output, HB2.out.size, HB2.out.block⟩)).mono ?_); rintro e w2 ⟨rfl, hb⟩; replace HB2 := hidden hb; clear hb; have hcl := (HB2.out.cell (p := ⟨bk, o, none⟩) hbk).trans HCL.out)))
        go_ret
        exact ⟨rfl, HB.out.trans (HB2.out.mono HB.out.size)⟩
    · rw [if_neg hT] at J2 R1
      clear hT
      rcases hhd with ⟨rfl, rfl⟩ | ⟨rfl, hn1⟩ <;>
      · go_wp2_with (first | (go_at_call 8; first | ((with_reducible refine (J1.out _ HB2.out).mono ?_); rintro e w2 ⟨rfl, hb⟩; replace HB2 := hidden hb; clear hb) | ((with_reducible refine (J2.out _ HB2.out).mono ?_); rintro e w2 ⟨rfl, hb⟩; replace HB2 := hidden hb; clear hb)) | (go_at_call 9; ((with_reducible refine (C1.out _ HB2.out).mono ?_); rintro e w2 ⟨rfl, hb⟩; replace HB2 := hidden hb; clear hb)) | (go_at_call 10; ((with_reducible refine (R1.out _ HB2.out).mono ?_); rintro e w2 ⟨rfl, hb⟩; replace HB2 := hidden hb; clear hb)))
        go_quiet (fail)
        go_wp2_with ((go_at_call 11; ((refine (F1.out _ (by exact ⟨HB2.out.os, HB2.out.tape, HB2.out.output, HB2.out.size, HB2.out.block⟩)).mono ?_); rintro e w2 ⟨rfl, hb⟩; replace HB2 := hidden hb; clear hb; have hcl := (HB2.out.cell (p := ⟨bk, o, none⟩) hbk).trans HCL.out)))
        go_ret
        exact ⟨rfl, HB.out.trans (HB2.out.mono HB.out.size)⟩
  · have hcs : 300 < s.size ∨ (s.size ≤ 300 ∧ 50 < sep.size) ∨ (s.size ≤ 300 ∧ sep.size ≤ 50 ∧ 50 < other.size) ∨ (s.size ≤ 300 ∧ sep.size ≤ 50 ∧ other.size ≤ 50 ∧ sep.size = 0) := by omega
    clear hL hok
    rcases hcs with h1 | ⟨h1, h2⟩ | ⟨h1, h2, h3⟩ | ⟨h1, h2, h3, h4⟩
    · go_enter Tryd.func3, Tryd.ntmps3
      go_wp2_with (go_at_call 6; ((with_reducible refine (HF.out _ HB.out).mono ?_); rintro e w2 ⟨rfl, hb⟩; replace HB := hidden hb; clear hb))
      go_ret
      exact ⟨rfl, HB.out⟩
    · go_enter Tryd.func3, Tryd.ntmps3
      go_wp2_with (go_at_call 6; ((with_reducible refine (HF.out _ HB.out).mono ?_); rintro e w2 ⟨rfl, hb⟩; replace HB := hidden hb; clear hb))
      go_ret
      exact ⟨rfl, HB.out⟩
    · go_enter Tryd.func3, Tryd.ntmps3
      go_wp2_with (go_at_call 6; ((with_reducible refine (HF.out _ HB.out).mono ?_); rintro e w2 ⟨rfl, hb⟩; replace HB := hidden hb; clear hb))
      go_ret
      exact ⟨rfl, HB.out⟩
    · have hem := text_emp h4
      clear h4
      go_enter Tryd.func3, Tryd.ntmps3
      go_wp2_with (go_at_call 6; ((with_reducible refine (HF.out _ HB.out).mono ?_); rintro e w2 ⟨rfl, hb⟩; replace HB := hidden hb; clear hb))
      go_ret
      exact ⟨rfl, HB.out⟩
end St
end Go.Proofs.YtdiocmcfaneajaaDoor
