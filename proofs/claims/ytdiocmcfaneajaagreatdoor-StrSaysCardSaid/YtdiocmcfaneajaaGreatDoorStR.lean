/- What Replace answers. Conditions: a text of at most 100000 bytes; ErrLimit lies in its variable. -/
import Derived.Test.YtdiocmcfaneajaaGreatDoorStC
import Derived.Test.YtdiocmcfaneajaaGreatDoorStJ
namespace Go.Proofs.YtdiocmcfaneajaaGreatDoor
open Go.RowKit
namespace St

theorem slice_suf (T : ByteArray) (p : Nat) (h : p ≤ T.size) (W : World) : (Instr.sliceAt 9 (.string T) (some (.int .i64 (p : Int))) none none).run Tryz.prog W = .ok (.string (T.extract p T.size)) W := by
  have h1 : (p : Int) ≤ (T.size : Int) := by omega
  go_simp
theorem suf_data (s : ByteArray) (a : Nat) : (s.extract a s.size).data.toList = s.data.toList.drop a := by
  rw [ext_data, List.take_of_length_le]
  rw [List.length_drop, size_data]
  omega
theorem mid_data (s : ByteArray) (a b : Nat) : (s.extract a b).data.toList = (s.data.toList.take b).drop a := by
  rw [ext_data, List.drop_take]

set_option maxRecDepth 100000 in
set_option maxHeartbeats 6400000 in
theorem replace_any (D : Value) (tE : TypeId) (pE : Value) (m : Int) (s old new : ByteArray) (most : Int) (w : World) (hC : Cx D (.iface tE pE) m w) (hs : s.size ≤ 100000) (hold : old.size ≤ 100000) (hnew : new.size ≤ 100000) :
    Calls Tryz.prog 13 #[.string s, .string old, .string new, .int .i64 most] w fun e w' => e = .returned (joinV (.iface tE pE) (repF s.data.toList old.data.toList new.data.toList (s.size + 2) most 0 0)) ∧ Below w.heap.size w w' := by
  have hgb := World.block_lt_of_cell? w _ hC.lim
  have HG := hidden hgb
  have HC := hidden hC
  obtain ⟨T, hT⟩ : ∃ T, repF s.data.toList old.data.toList new.data.toList (s.size + 2) most 0 0 = T := ⟨_, rfl⟩
  have HT := hidden hT
  rw [hT]
  have hM0 := hidden (new_made w)
  have hb0 := hidden ((Below.refl w.heap.size w).alloc (Nat.le_refl _) (.cells #[.slice none 0 0] 65))
  clear hC hgb hT
  go_enter Tryz.func13, Tryz.ntmps13
  go_wp2
  go_loopw [11, 12, 13] (fun td tf tn wr => ∃ d fr k f : Nat, ∃ a : L, td = .int .i64 d ∧ tf = .int .i64 fr ∧ tn = .int .i64 k ∧ d ≤ fr ∧ d ≤ s.size ∧ fr ≤ s.size + 1 ∧ k ≤ fr ∧ s.size + 2 ≤ f + fr ∧ Hid (most < 0 ∨ (k : Int) ≤ most) ∧ Hid (a ++ repF s.data.toList old.data.toList new.data.toList f (most - k) d fr = T) ∧ Hid (a.length ≤ 1024) ∧ Hid (MadeAt wr w.heap.size a) ∧ Hid (Below w.heap.size w wr)) (fun _ tf _ _ => s.size + 2 - (intOf tf).toNat)
  case atStart => exact ⟨0, 0, 0, s.size + 2, [], rfl, rfl, rfl, by omega, by omega, by omega, by omega, by omega, hidden (by omega), hidden (by simpa using HT.out), hidden (by simp), hM0, hb0⟩
  case round =>
    obtain ⟨d, fr, k, f, a, rfl, rfl, rfl, hdf, hds, hfs, hkf, hff, hmo, hall, hal, hM, hb⟩ := hrel
    clear hM0 hb0 HT
    have hbs := hb.out.size
    have hbl : w.heap.size < wr.heap.size := by obtain ⟨_, h1, _⟩ := hM.out; exact h1.lt
    obtain ⟨f, rfl⟩ : ∃ g, f = g + 1 := ⟨f - 1, by omega⟩
    by_cases hend : most - k = 0 ∨ s.size < fr ∨ (fr ≤ s.size ∧ Lib.index (s.data.toList.drop fr) old.data.toList < 0)
    · have HTe : Hid (T = a ++ cat [s.extract d s.size]) := hidden (by
        rw [← hall.out]
        unfold repF
        have e : cat [s.extract d s.size] = s.data.toList.drop d := by simp only [cat, List.flatMap_cons, List.flatMap_nil, List.append_nil, suf_data]
        rw [e, size_data]
        rcases hend with h | h | ⟨h, h2⟩
        · rw [if_pos (.inl h)]
        · rw [if_pos (.inr h)]
        · by_cases h3 : most - k = 0 ∨ s.size < fr
          · rw [if_pos h3]
          · rw [if_neg h3, if_pos h2])
      have hsl := slice_suf s d hds
      have hsl2 : Hid (fr ≤ s.size → ∀ W, (Instr.sliceAt 9 (.string s) (some (.int .i64 (fr : Int))) none none).run Tryz.prog W = .ok (.string (s.extract fr s.size)) W) := hidden fun h => slice_suf s fr h
      have HI := hidden (Tryz.strings_Index (s.extract fr s.size) old m wr (by rw [ByteArray.size_extract]; omega) (HC.out.below hb.out).max)
      rw [suf_data] at HI
      have hba := (Below.refl wr.heap.size wr).alloc (Nat.le_refl _) (.cells #[.string (s.extract d s.size)] 9)
      have HA := hidden (add_any D (.iface tE pE) m w.heap.size wr.heap.size a [s.extract d s.size] 1 (wr.alloc (.cells #[.string (s.extract d s.size)] 9)) rfl (by decide) ((HC.out.below hb.out).below hba) (hM.out.below hba) (rowS_one wr _) hal.out (by
        intro z hz
        obtain rfl : z = s.extract d s.size := by simpa using hz
        rw [ByteArray.size_extract]; omega) (by omega) HG.out)
      rw [← HTe.out] at HA
      obtain ⟨ix, hix⟩ : ∃ ix, Lib.index (s.data.toList.drop fr) old.data.toList = ix := ⟨_, rfl⟩
      rw [hix] at HI hend
      clear hix hba hall
      by_cases hf : T.length ≤ 1024
      · rw [addV, if_pos hf] at HA
        have HV : Hid (joinV (.iface tE pE) T = .tuple #[.string (txt T), .nilIface]) := hidden (by rw [joinV, if_pos hf])
        have HF := hidden hf
        clear hf
        rcases hend with h | h | ⟨h, h2⟩
        · by_cases h9 : fr ≤ s.size
          all_goals
            go_wp2_with (go_at_call 39; (with_reducible refine HA.out.mono ?_); rintro e w2 ⟨rfl, hm2, hb2, _⟩; have hm3 := hidden (hm2 HF.out); have hb3 := hidden ((hb.out.alloc hbs _).trans hb2); clear hm2 hb2; obtain ⟨v, hv1, hv2⟩ := hm3.out; have hcell := hv1.cell; have hconv := hv2.conv; clear hv1 hv2)
            go_ret2
            exact ⟨by rw [HV.out]; rfl, hb3.out⟩
        · by_cases h9 : (k : Int) = most
          all_goals
            go_wp2_with (go_at_call 39; (with_reducible refine HA.out.mono ?_); rintro e w2 ⟨rfl, hm2, hb2, _⟩; have hm3 := hidden (hm2 HF.out); have hb3 := hidden ((hb.out.alloc hbs _).trans hb2); clear hm2 hb2; obtain ⟨v, hv1, hv2⟩ := hm3.out; have hcell := hv1.cell; have hconv := hv2.conv; clear hv1 hv2)
            go_ret2
            exact ⟨by rw [HV.out]; rfl, hb3.out⟩
        · have hs9 := hsl2.out h
          by_cases h9 : (k : Int) = most
          all_goals
            go_wp2_with (first | (go_at_call 40; (with_reducible refine HI.out.mono ?_); rintro e w' ⟨rfl, rfl⟩) | (go_at_call 39; (with_reducible refine HA.out.mono ?_); rintro e w2 ⟨rfl, hm2, hb2, _⟩; have hm3 := hidden (hm2 HF.out); have hb3 := hidden ((hb.out.alloc hbs _).trans hb2); clear hm2 hb2; obtain ⟨v, hv1, hv2⟩ := hm3.out; have hcell := hv1.cell; have hconv := hv2.conv; clear hv1 hv2))
            go_ret2
            exact ⟨by rw [HV.out]; rfl, hb3.out⟩
      · rw [addV, if_neg hf] at HA
        have HV : Hid (joinV (.iface tE pE) T = .tuple #[.string ⟨#[]⟩, .iface tE pE]) := hidden (by rw [joinV, if_neg hf])
        clear hf
        rcases hend with h | h | ⟨h, h2⟩
        · by_cases h9 : fr ≤ s.size
          all_goals
            go_wp2_with (go_at_call 39; (with_reducible refine HA.out.mono ?_); rintro e w2 ⟨rfl, _, hb2, _⟩)
            go_ret2
            exact ⟨by rw [HV.out]; rfl, (hb.out.alloc hbs _).trans hb2⟩
        · by_cases h9 : (k : Int) = most
          all_goals
            go_wp2_with (go_at_call 39; (with_reducible refine HA.out.mono ?_); rintro e w2 ⟨rfl, _, hb2, _⟩)
            go_ret2
            exact ⟨by rw [HV.out]; rfl, (hb.out.alloc hbs _).trans hb2⟩
        · have hs9 := hsl2.out h
          by_cases h9 : (k : Int) = most
          all_goals
            go_wp2_with (first | (go_at_call 40; (with_reducible refine HI.out.mono ?_); rintro e w' ⟨rfl, rfl⟩) | (go_at_call 39; (with_reducible refine HA.out.mono ?_); rintro e w2 ⟨rfl, _, hb2, _⟩))
            go_ret2
            exact ⟨by rw [HV.out]; rfl, (hb.out.alloc hbs _).trans hb2⟩
    · have hne : most - k ≠ 0 := fun h => hend (.inl h)
      have hfr : fr ≤ s.size := by
        have : ¬ s.size < fr := fun h => hend (.inr (.inl h))
        omega
      have hix : ¬ Lib.index (s.data.toList.drop fr) old.data.toList < 0 := fun h => hend (.inr (.inr ⟨hfr, h⟩))
      have hsm := (index_some hix).2.1
      rw [List.length_drop, size_data, size_data] at hsm
      have HI := hidden (Tryz.strings_Index (s.extract fr s.size) old m wr (by rw [ByteArray.size_extract]; omega) (HC.out.below hb.out).max)
      rw [suf_data] at HI
      obtain ⟨x, hx⟩ : ∃ x : Nat, (Lib.index (s.data.toList.drop fr) old.data.toList).toNat = x := ⟨_, rfl⟩
      have hxi : Lib.index (s.data.toList.drop fr) old.data.toList = (x : Int) := by omega
      rw [hx] at hsm
      have hpc : Hid (cat [s.extract d (fr + x), new] = (s.data.toList.take (fr + x)).drop d ++ new.data.toList) := hidden (by
        simp only [cat, List.flatMap_cons, List.flatMap_nil, List.append_nil, mid_data])
      have hrest : Hid (a ++ cat [s.extract d (fr + x), new] ++ repF s.data.toList old.data.toList new.data.toList f (most - ((k + 1 : Nat) : Int)) (fr + x + old.size) (max (fr + x + old.size) (fr + x + 1)) = T) := hidden (by
        rw [← hall.out, hpc.out]
        conv => rhs; unfold repF
        rw [if_neg (by rw [size_data]; omega), if_neg hix, hx, size_data, show most - ((k + 1 : Nat) : Int) = most - k - 1 by omega]
        simp only [List.append_assoc])
      rw [hxi] at HI
      have hsl := slice_suf s fr hfr
      have hsl2 := slice_mid s d (fr + x) (by omega) (by omega)
      have hba := (Below.refl wr.heap.size wr).alloc (Nat.le_refl _) (.cells #[.string (s.extract d (fr + x)), .string new] 9)
      have HA := hidden (add_any D (.iface tE pE) m w.heap.size wr.heap.size a [s.extract d (fr + x), new] 2 (wr.alloc (.cells #[.string (s.extract d (fr + x)), .string new] 9)) rfl (by decide) ((HC.out.below hb.out).below hba) (hM.out.below hba) (rowS_new wr _ _) hal.out (by
        intro z hz
        rcases List.mem_cons.1 hz with rfl | hz
        · rw [ByteArray.size_extract]; omega
        · rcases List.mem_cons.1 hz with rfl | hz
          · omega
          · cases hz) (by omega) HG.out)
      have hle : Hid ((a ++ cat [s.extract d (fr + x), new]).length ≤ T.length) := hidden (by
        rw [← hrest.out]
        simp only [List.length_append]
        omega)
      have hmk : ¬ (k : Int) = most := by omega
      have hmo2 : Hid (most < 0 ∨ ((k + 1 : Nat) : Int) ≤ most) := hidden (by have := hmo.out; omega)
      have hcast : Hid (((fr + x : Nat) : Int) = (fr : Int) + x) := hidden (by omega)
      rw [hcast.out] at hsl2
      obtain ⟨y, hy⟩ : ∃ y, a ++ cat [s.extract d (fr + x), new] = y := ⟨_, rfl⟩
      rw [hy] at HA hrest hle
      clear hix hend hx hxi hba hall hpc hne hy
      by_cases hf : y.length ≤ 1024
      · rw [addV, if_pos hf] at HA
        have HF := hidden hf
        clear hf
        go_wp2_with (first | (go_at_call 40; (with_reducible refine HI.out.mono ?_); rintro e w' ⟨rfl, rfl⟩) | (go_at_call 39; (with_reducible refine HA.out.mono ?_); rintro e w2 ⟨rfl, hm2, hb2, _⟩; have HM2 := hidden (hm2 HF.out); have HB2 := hidden ((hb.out.alloc hbs _).trans hb2); clear hm2 hb2))
        all_goals
          go_roundw
          case rel => exact ⟨fr + x + old.size, max (fr + x + old.size) (fr + x + 1), k + 1, f, y, by go_num, by first | go_num | (congr 1; omega), by go_num, by omega, by omega, by omega, by omega, by omega, hmo2, hrest, HF, HM2, HB2⟩
          case measure => simp [intOf]; omega
      · rw [addV, if_neg hf] at HA
        have HV : Hid (joinV (.iface tE pE) T = .tuple #[.string ⟨#[]⟩, .iface tE pE]) := hidden (by rw [joinV, if_neg (by have := hle.out; omega)])
        clear hf
        go_wp2_with (first | (go_at_call 40; (with_reducible refine HI.out.mono ?_); rintro e w' ⟨rfl, rfl⟩) | (go_at_call 39; (with_reducible refine HA.out.mono ?_); rintro e w2 ⟨rfl, _, hb2, _⟩))
        go_ret2
        exact ⟨by rw [HV.out]; rfl, (hb.out.alloc hbs _).trans hb2⟩
end St
end Go.Proofs.YtdiocmcfaneajaaGreatDoor
