/- num.Parse. Conditions: texts of at most 2400 bytes; api.ErrShape lies in its variable. -/
import Derived.Test.YtapdkibiegeijaaDoorNumPa
import Derived.Test.YtapdkibiegeijaaDoorTake
import Derived.Lib.Strings
namespace Go.Proofs.YtapdkibiegeijaaDoor
open Go.RowKit
namespace Nm

theorem says_cut (l : List UInt8) : says l = if wr (Lib.trimPrefix l [45]) = true ∧ ¬ (Lib.hasPrefix l [45] = true ∧ Lib.trimPrefix l [45] = [48]) then some (sgnv (Lib.hasPrefix l [45]) (nv (Lib.trimPrefix l [45]))) else none := by
  cases l with
  | nil => rfl
  | cons x t =>
    by_cases hx : x = 45
    · subst hx
      have h1 : Lib.hasPrefix (45 :: t) [45] = true := by simp [Lib.hasPrefix]
      have h2 : Lib.trimPrefix (45 :: t) [45] = t := by unfold Lib.trimPrefix; rw [h1]; rfl
      rw [h1, h2, says, List.headD_cons, if_pos rfl, List.tail_cons]
      simp [sgnv]
    · have h1 : Lib.hasPrefix (x :: t) [45] = false := by
        simp [Lib.hasPrefix]
        rw [List.isPrefixOf, Bool.and_eq_false_iff]
        exact .inl (beq_eq_false_iff_ne.2 fun h => hx (Eq.symm h))
      have h2 : Lib.trimPrefix (x :: t) [45] = x :: t := by unfold Lib.trimPrefix; rw [h1]; rfl
      rw [h1, h2, says, List.headD_cons, if_neg hx]
      simp [sgnv]
theorem cut_len (l : List UInt8) : (Lib.trimPrefix l [45]).length ≤ l.length := by
  unfold Lib.trimPrefix
  split
  · rw [List.length_drop]; omega
  · exact Nat.le_refl _
theorem wr_all {l : List UInt8} (h : wr l = true) : l.all isD = true := by
  unfold wr at h
  rw [Bool.and_eq_true] at h
  exact h.1
/-- What Parse answers. -/
def Parsed (w w' : World) (e : Ending) (o : Option Int) (ev : Value) (k : Nat) : Prop := ∃ (v u : Value), e = .returned (.tuple #[v, u]) ∧ Below w.heap.size w w' ∧ (o = none → u = ev ∧ v = .agg #[.bool false, .slice none 0 0]) ∧ (∀ z, o = some z → u = .nilIface ∧ NumAt w' v z k)
set_option maxHeartbeats 3200000 in
theorem parse_any (s : ByteArray) (a : Addr) (w : World) (hs : s.size ≤ 2400) (hE : w.cell? ⟨0, 0, none⟩ = some (.iface 129 (.pointer (some a)))) :
    Calls Tryd.prog 9 #[.string s] w fun e w' => Parsed w w' e (says s.data.toList) (.iface 129 (.pointer (some a))) 267 := by
  have hsc := says_cut s.data.toList
  have hln := cut_len s.data.toList
  have hl0 : s.data.toList.length = s.size := by simp
  rw [hl0] at hln
  obtain ⟨o, ho⟩ : ∃ o, says s.data.toList = o := ⟨_, rfl⟩
  rw [ho] at hsc ⊢
  have hcp := Tryd.strings_CutPrefix s ⟨#[45]⟩
  rw [show (⟨#[45]⟩ : ByteArray).data.toList = [45] from rfl] at hcp
  generalize Lib.hasPrefix s.data.toList [45] = m at hsc hcp
  generalize Lib.trimPrefix s.data.toList [45] = l at hsc hcp hln
  obtain ⟨d, hd⟩ : ∃ d : ByteArray, (⟨l.toArray⟩ : ByteArray) = d := ⟨_, rfl⟩
  obtain rfl : d.data.toList = l := by rw [← hd]
  have hdz : d.size ≤ 2400 := by
    have : d.size = d.data.toList.length := by simp
    omega
  rw [hd] at hcp
  have HCP := hidden hcp
  have hE1 := ((Below.refl w.heap.size w).alloc (Nat.le_refl _) (.cells #[.bool false, .slice none 0 0] 25)).cell (World.block_lt_of_cell? w _ hE) |>.trans hE
  have HB := hidden ((Below.refl w.heap.size w).alloc (Nat.le_refl _) (.cells #[.bool false, .slice none 0 0] 25))
  have hK := hidden (blk_new w (.bool false) (.slice none 0 0))
  have HS := hidden hsc
  clear hcp hd hsc ho hln hl0 hs
  go_enter Tryd.func9, Tryd.ntmps9
  go_wp2_with fail
  generalize w.alloc (.cells #[.bool false, .slice none 0 0] 25) = W at HB hE1 hK ⊢
  refine (HCP.out W).mono ?_
  rintro e w' ⟨rfl, rfl⟩
  go_wp2_with fail
  refine (written_any d _ (by omega)).mono ?_
  rintro e w' ⟨rfl, rfl⟩
  by_cases hw : wr d.data.toList = true
  · by_cases h8 : d.toList = [48]
    · have h8b : (d.toList == [48]) = true := by rw [h8]; rfl
      have h9 : Hid (d.data.toList = [48]) := hidden (by rw [← Lib.toList_data]; exact h8)
      clear h8
      cases m with
      | true =>
        have hno : o = none := by rw [HS.out, if_neg (fun h => h.2 ⟨rfl, h9.out⟩)]
        subst hno
        clear HS
        have hE2 := ((show Below w.heap.size w (w'.setCell ⟨w.heap.size, 0, none⟩ (.bool false)) from HB.out.setCell (Nat.le_refl _) _).cell (World.block_lt_of_cell? w _ hE)).trans hE
        obtain ⟨f0, f1, f2, f3⟩ := hK.out.facts
        have HST := hidden (Blk.set hK.out (.bool false) (.slice none 0 0)).facts
        have HB2 := hidden (show Below w.heap.size w (((w'.setCell ⟨w.heap.size, 0, none⟩ (.bool false)).setCell ⟨w.heap.size, 1, none⟩ (.slice none 0 0)).drew) from ((HB.out.setCell (Nat.le_refl _) _).setCell (Nat.le_refl _) _).drew)
        go_wp2
        go_region
        all_goals
          go_wp2
          refine bodyPost_ret (v := .tuple #[.agg #[.bool false, .slice none 0 0], .iface 129 (.pointer (some a))]) (by simp [results, Tryd.results9, go_sem, HST.out.1, HST.out.2.1]) rfl ⟨_, _, rfl, HB2.out, fun _ => ⟨rfl, rfl⟩, fun _ h => by cases h⟩
      | false =>
        have hyes : o = some (sgnv false (nv d.data.toList)) := by rw [HS.out, if_pos (⟨hw, fun h => by cases h.1⟩)]
        subst hyes
        have HALL := hidden (wr_all hw)
        have HW := hidden hw
        clear HS hw hE1 hE
        go_wp2_with fail
        refine (read_any d _ (by omega) HALL.out).mono ?_
        rintro e w2 ⟨v, lv, rfl, hO, hD, hv, hl, hb⟩
        obtain ⟨ao, cap, rfl, hc, hsrc⟩ := hO.src
        have HSR := hidden hsrc
        have HD := hidden hD
        have HV := hidden hv
        have HL := hidden (show lv.length ≤ 267 by omega)
        have HC := hidden hc
        replace hK := hidden (hK.out.below hb hK.out.lt)
        replace HB := hidden (HB.out.trans (hb.mono HB.out.size))
        clear hsrc hD hv hc hb hO hl
        obtain ⟨n, hn⟩ : ∃ n, lv.length = n := ⟨_, rfl⟩
        rw [hn] at HL HC ⊢
        have HN := hidden hn
        clear hn
        go_wp2_with fail
        refine (made_any false ao n cap lv w2 HN.out (by have := HL.out; omega) HC.out HSR.out HD.out).mono ?_
        rintro e w3 ⟨v, rfl, hv, hb⟩
        replace hK := hidden (hK.out.below hb hK.out.lt)
        replace HB := hidden (HB.out.trans (hb.mono HB.out.size))
        have Nz := hidden hv
        clear hb
        obtain ⟨n2, a2, c2, l2, rfl, hrest⟩ := hv
        clear hrest
        obtain ⟨f0, f1, f2, f3⟩ := hK.out.facts
        have HST := hidden (Blk.set hK.out (.bool n2) (.slice a2 l2.length c2)).facts
        have HZ := hidden (numAt_stored HB.out (Nat.le_refl _) hK.out (Nz.out.mono HL.out))
        go_wp2
        refine bodyPost_ret (v := .tuple #[.agg #[.bool n2, .slice a2 l2.length c2], .nilIface]) (by simp [results, Tryd.results9, go_sem, HST.out.1, HST.out.2.1]) rfl ⟨_, _, rfl, HZ.out.2, fun h => (by cases h), fun z h => ⟨rfl, ?_⟩⟩
        obtain rfl := Option.some.inj h
        rw [← HV.out]
        exact HZ.out.1
    · have h8b : (d.toList == [48]) = false := beq_eq_false_iff_ne.2 h8
      have h9 : Hid (¬ d.data.toList = [48]) := hidden (by rw [← Lib.toList_data]; exact h8)
      clear h8
      cases m with
      | true =>
        have hyes : o = some (sgnv true (nv d.data.toList)) := by rw [HS.out, if_pos (⟨hw, fun h => h9.out h.2⟩)]
        subst hyes
        have HALL := hidden (wr_all hw)
        have HW := hidden hw
        clear HS hw hE1 hE
        go_wp2_with fail
        refine (read_any d _ (by omega) HALL.out).mono ?_
        rintro e w2 ⟨v, lv, rfl, hO, hD, hv, hl, hb⟩
        obtain ⟨ao, cap, rfl, hc, hsrc⟩ := hO.src
        have HSR := hidden hsrc
        have HD := hidden hD
        have HV := hidden hv
        have HL := hidden (show lv.length ≤ 267 by omega)
        have HC := hidden hc
        replace hK := hidden (hK.out.below hb hK.out.lt)
        replace HB := hidden (HB.out.trans (hb.mono HB.out.size))
        clear hsrc hD hv hc hb hO hl
        obtain ⟨n, hn⟩ : ∃ n, lv.length = n := ⟨_, rfl⟩
        rw [hn] at HL HC ⊢
        have HN := hidden hn
        clear hn
        go_wp2_with fail
        refine (made_any true ao n cap lv w2 HN.out (by have := HL.out; omega) HC.out HSR.out HD.out).mono ?_
        rintro e w3 ⟨v, rfl, hv, hb⟩
        replace hK := hidden (hK.out.below hb hK.out.lt)
        replace HB := hidden (HB.out.trans (hb.mono HB.out.size))
        have Nz := hidden hv
        clear hb
        obtain ⟨n2, a2, c2, l2, rfl, hrest⟩ := hv
        clear hrest
        obtain ⟨f0, f1, f2, f3⟩ := hK.out.facts
        have HST := hidden (Blk.set hK.out (.bool n2) (.slice a2 l2.length c2)).facts
        have HZ := hidden (numAt_stored HB.out (Nat.le_refl _) hK.out (Nz.out.mono HL.out))
        go_wp2
        refine bodyPost_ret (v := .tuple #[.agg #[.bool n2, .slice a2 l2.length c2], .nilIface]) (by simp [results, Tryd.results9, go_sem, HST.out.1, HST.out.2.1]) rfl ⟨_, _, rfl, HZ.out.2, fun h => (by cases h), fun z h => ⟨rfl, ?_⟩⟩
        obtain rfl := Option.some.inj h
        rw [← HV.out]
        exact HZ.out.1
      | false =>
        have hyes : o = some (sgnv false (nv d.data.toList)) := by rw [HS.out, if_pos (⟨hw, fun h => by cases h.1⟩)]
        subst hyes
        have HALL := hidden (wr_all hw)
        have HW := hidden hw
        clear HS hw hE1 hE
        go_wp2_with fail
        refine (read_any d _ (by omega) HALL.out).mono ?_
        rintro e w2 ⟨v, lv, rfl, hO, hD, hv, hl, hb⟩
        obtain ⟨ao, cap, rfl, hc, hsrc⟩ := hO.src
        have HSR := hidden hsrc
        have HD := hidden hD
        have HV := hidden hv
        have HL := hidden (show lv.length ≤ 267 by omega)
        have HC := hidden hc
        replace hK := hidden (hK.out.below hb hK.out.lt)
        replace HB := hidden (HB.out.trans (hb.mono HB.out.size))
        clear hsrc hD hv hc hb hO hl
        obtain ⟨n, hn⟩ : ∃ n, lv.length = n := ⟨_, rfl⟩
        rw [hn] at HL HC ⊢
        have HN := hidden hn
        clear hn
        go_wp2_with fail
        refine (made_any false ao n cap lv w2 HN.out (by have := HL.out; omega) HC.out HSR.out HD.out).mono ?_
        rintro e w3 ⟨v, rfl, hv, hb⟩
        replace hK := hidden (hK.out.below hb hK.out.lt)
        replace HB := hidden (HB.out.trans (hb.mono HB.out.size))
        have Nz := hidden hv
        clear hb
        obtain ⟨n2, a2, c2, l2, rfl, hrest⟩ := hv
        clear hrest
        obtain ⟨f0, f1, f2, f3⟩ := hK.out.facts
        have HST := hidden (Blk.set hK.out (.bool n2) (.slice a2 l2.length c2)).facts
        have HZ := hidden (numAt_stored HB.out (Nat.le_refl _) hK.out (Nz.out.mono HL.out))
        go_wp2
        refine bodyPost_ret (v := .tuple #[.agg #[.bool n2, .slice a2 l2.length c2], .nilIface]) (by simp [results, Tryd.results9, go_sem, HST.out.1, HST.out.2.1]) rfl ⟨_, _, rfl, HZ.out.2, fun h => (by cases h), fun z h => ⟨rfl, ?_⟩⟩
        obtain rfl := Option.some.inj h
        rw [← HV.out]
        exact HZ.out.1
  · have hwf : wr d.data.toList = false := by simpa using hw
    have hno : o = none := by rw [HS.out, if_neg (fun h => hw h.1)]
    subst hno
    clear HS
    have hE2 := ((show Below w.heap.size w (w'.setCell ⟨w.heap.size, 0, none⟩ (.bool false)) from HB.out.setCell (Nat.le_refl _) _).cell (World.block_lt_of_cell? w _ hE)).trans hE
    obtain ⟨f0, f1, f2, f3⟩ := hK.out.facts
    have HST := hidden (Blk.set hK.out (.bool false) (.slice none 0 0)).facts
    have HB2 := hidden (show Below w.heap.size w (((w'.setCell ⟨w.heap.size, 0, none⟩ (.bool false)).setCell ⟨w.heap.size, 1, none⟩ (.slice none 0 0)).drew) from ((HB.out.setCell (Nat.le_refl _) _).setCell (Nat.le_refl _) _).drew)
    go_wp2
    go_region
    all_goals
      go_wp2
      refine bodyPost_ret (v := .tuple #[.agg #[.bool false, .slice none 0 0], .iface 129 (.pointer (some a))]) (by simp [results, Tryd.results9, go_sem, HST.out.1, HST.out.2.1]) rfl ⟨_, _, rfl, HB2.out, fun _ => ⟨rfl, rfl⟩, fun _ h => by cases h⟩
/-- A Num, whatever the text says. -/
theorem parse_num (s : ByteArray) (a : Addr) (w : World) (hs : s.size ≤ 2400) (hE : w.cell? ⟨0, 0, none⟩ = some (.iface 129 (.pointer (some a)))) :
    Calls Tryd.prog 9 #[.string s] w fun e w' => ∃ (v u : Value) (z : Int), e = .returned (.tuple #[v, u]) ∧ (u = .nilIface ∨ u = .iface 129 (.pointer (some a))) ∧ NumAt w' v z 267 ∧ Below w.heap.size w w' := by
  refine (parse_any s a w hs hE).mono ?_
  rintro e w' ⟨v, u, rfl, hb, hno, hyes⟩
  cases h : says s.data.toList with
  | none =>
    obtain ⟨h1, h2⟩ := hno h
    exact ⟨v, u, 0, rfl, .inr h1, by rw [h2]; exact numAt_zero _ _, hb⟩
  | some z => exact ⟨v, u, z, rfl, .inl (hyes z h).1, (hyes z h).2, hb⟩
end Nm
end Go.Proofs.YtapdkibiegeijaaDoor
