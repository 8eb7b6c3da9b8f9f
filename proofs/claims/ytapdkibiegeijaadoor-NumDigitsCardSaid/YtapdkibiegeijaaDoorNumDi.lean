/- What the law NumDigits answers. Conditions: the table of internal/strconv as the program's text lays it; api's errors lie in their variables. -/
import Derived.Test.YtapdkibiegeijaaDoorNumFi
import Derived.Test.YtapdkibiegeijaaDoorNumPr
import Derived.Test.YtapdkibiegeijaaDoorNumDp
import Derived.Test.YtapdkibiegeijaaDoorErrIs
import Derived.Test.YtapdkibiegeijaaDoorNumRg
import Derived.Deep.Cut
namespace Go.Proofs.YtapdkibiegeijaaDoor
open Go.RowKit
namespace Nm

/-- n nines; one and n noughts. -/
def ninesB (n : Nat) : ByteArray := ⟨(List.replicate n 57).toArray⟩
def tensB (n : Nat) : ByteArray := ⟨(49 :: List.replicate n 48).toArray⟩
theorem nines_snoc (n : Nat) : ninesB n ++ ⟨#[57]⟩ = ninesB (n + 1) := by
  apply ByteArray.ext
  apply Array.ext'
  simp [ninesB, ByteArray.data_append, List.replicate_succ']
theorem tens_snoc (n : Nat) : tensB n ++ ⟨#[48]⟩ = tensB (n + 1) := by
  apply ByteArray.ext
  apply Array.ext'
  simp [tensB, ByteArray.data_append, List.replicate_succ']
theorem nines_size (n : Nat) : (ninesB n).size = n := by simp [ninesB, ByteArray.size]
theorem tens_size (n : Nat) : (tensB n).size = n + 1 := by simp [tensB, ByteArray.size]
/-- How many digits the law takes. -/
theorem digits_n (n : Int) : ∃ k : Nat, 0 < k ∧ k ≤ 500 ∧ (n.tmod 500 + 500).tmod 500 + 1 = (k : Int) := by
  have h1 : -500 < n.tmod 500 := Int.lt_tmod_of_pos n (by decide)
  have h2 : n.tmod 500 < 500 := Int.tmod_lt_of_pos n (by decide)
  have h3 : (n.tmod 500 + 500).tmod 500 < 500 := Int.tmod_lt_of_pos _ (by decide)
  have h4 : 0 ≤ (n.tmod 500 + 500).tmod 500 := Int.tmod_nonneg _ (by omega)
  exact ⟨((n.tmod 500 + 500).tmod 500 + 1).toNat, by omega, by omega, by omega⟩
theorem is_shape {A : Nat → Addr} (w : World) (h : Sent A w) : Calls Tryd.prog 11 #[.iface 129 (.pointer (some (A 12))), .int .i64 113] w fun e w' => e = .returned (.bool true) ∧ Below w.heap.size w w' :=
  Is_bare (c := 113) 113 (.inr ⟨12, by omega, rfl, rfl⟩) w h
theorem dm_two (x : Int) : DM (x + x) 2 x 0 := ⟨by omega, by omega⟩
set_option maxRecDepth 100000 in
set_option maxHeartbeats 12800000 in
theorem numDigits_any (n : Int) (neg : Bool) (A : Nat → Addr) (w : World) (hT : Tab w) (hS : Sent A w) :
    Calls Tryd.prog 6 #[.int .i64 n, .bool neg] w fun e w' => e = .returned (.bool true) ∧ Below w.heap.size w w' := by
  have HT := hidden hT
  have HB := hidden (Below.refl w.heap.size w)
  have HE := hidden hS
  clear hT hS
  obtain ⟨k, hk0, hk1, hk⟩ := digits_n n
  have h1 : -500 < n.tmod 500 := Int.lt_tmod_of_pos n (by decide)
  have h2 : n.tmod 500 < 500 := Int.tmod_lt_of_pos n (by decide)
  obtain ⟨n1, hn1⟩ : ∃ m, n.tmod 500 = m := ⟨_, rfl⟩
  rw [hn1] at hk h1 h2
  have h3 : (n1 + 500).tmod 500 = (k : Int) - 1 := by omega
  clear hk
  go_enter Tryd.func6, Tryd.ntmps6
  go_wp2_with fail
  refine (first_any _ HT.out).mono ?_
  rintro e w1 ⟨rfl, hb⟩
  replace HB := hidden (HB.out.trans (hb.mono HB.out.size))
  replace HE := hidden (HE.out.below hb)
  replace HT := hidden (HT.out.below hb)
  clear hb
  go_wp2
  go_loop [6, 7, 8] (fun s z i => ∃ j : Nat, j ≤ k ∧ i = .int .i64 (j : Int) ∧ s = .string (ninesB j) ∧ z = .string (tensB j)) (fun _ _ i => k - (RowKit.intOf i).toNat)
  case atStart => exact ⟨0, Nat.zero_le _, rfl, rfl, rfl⟩
  case round =>
    obtain ⟨j, hj, rfl, rfl, rfl⟩ := hrel
    by_cases hlt : j < k
    · have z1 := nines_size j
      have z2 := tens_size j
      go_wp2
      go_round
      case rel => exact ⟨j + 1, by omega, by go_num, by rw [nines_snoc], by rw [tens_snoc]⟩
      case measure => simp [RowKit.intOf]; omega
    · obtain rfl : j = k := by omega
      have HK := hidden hk0
      have z1 := nines_size j
      have hsn := says_nines hk0
      go_wp2_with fail
      refine (parse_any (ninesB j) (A 12) _ (by omega) HE.out.g12).mono ?_
      rintro e w2 ⟨v, u, rfl, hb, hno, hyes⟩
      obtain ⟨rfl, hv⟩ := hyes _ hsn
      clear hno hyes hsn
      replace HE := hidden (HE.out.below hb)
      replace HB := hidden (HB.out.trans (hb.mono HB.out.size))
      replace HT := hidden (HT.out.below hb)
      clear hb
      obtain ⟨a, ha⟩ : ∃ a : Int, ((10 ^ j - 1 : Nat) : Int) = a := ⟨_, rfl⟩
      have hda := digs_nines hk0
      have hta := txt_nines hk0
      rw [ha] at hv hda hta
      have HA := hidden ha
      have HDA := hidden hda
      have HTA := hidden hta
      clear ha hda hta
      have Na := hidden hv
      obtain ⟨na, aa, ca, la, rfl, hrest⟩ := hv
      clear hrest
      replace HE := hidden (HE.out.below ((Below.refl w2.heap.size w2).alloc (Nat.le_refl _) (.cells #[(.bool na), (.slice aa la.length ca)] 25)))
      have hbw := (Below.refl w2.heap.size w2).alloc (Nat.le_refl _) (.cells #[(.bool na), (.slice aa la.length ca)] 25)
      replace Na := hidden (Na.out.below hbw)
      have Ka := hidden (blk_new w2 (.bool na) (.slice aa la.length ca))
      replace HB := hidden (HB.out.alloc HB.out.size (.cells #[(.bool na), (.slice aa la.length ca)] 25))
      replace HT := hidden (HT.out.below hbw)
      clear hbw
      have fa0 := Ka.out.facts.1
      have fa1 := Ka.out.facts.2.1
      go_wp2_with fail
      generalize w2.alloc (.cells #[(.bool na), (.slice aa la.length ca)] 25) = w3 at Na Ka HB HT fa0 fa1 HE ⊢
      generalize w2.heap.size = ia at Ka fa0 fa1 ⊢
      refine (digits_any _ a 267 _ Na.out (by omega)).mono ?_
      rintro e w4 ⟨rfl, hb⟩
      rw [HDA.out]
      replace HE := hidden (HE.out.below hb)
      clear fa0 fa1
      replace Na := hidden (Na.out.below hb)
      replace Ka := hidden (Ka.out.below hb Ka.out.lt)
      replace HB := hidden (HB.out.trans (hb.mono HB.out.size))
      replace HT := hidden (HT.out.below hb)
      clear hb
      have fa0 := Ka.out.facts.1
      have fa1 := Ka.out.facts.2.1
      go_wp2_with fail
      refine (text_is (l := List.replicate j 57) HTA.out _ 267 _ Na.out (by omega) HT.out).mono ?_
      rintro e w5 ⟨rfl, hb⟩
      replace HE := hidden (HE.out.below hb)
      clear fa0 fa1
      replace Na := hidden (Na.out.below hb)
      replace Ka := hidden (Ka.out.below hb Ka.out.lt)
      replace HB := hidden (HB.out.trans (hb.mono HB.out.size))
      replace HT := hidden (HT.out.below hb)
      clear hb
      have fa0 := Ka.out.facts.1
      have fa1 := Ka.out.facts.2.1
      rw [show (⟨(List.replicate j 57).toArray⟩ : ByteArray) = ninesB j from rfl]
      go_upto_region 15 with fail
      go_cut [11] from 21 (fun v wx => ∃ ip, v = .pointer (some ⟨ip, 0, none⟩) ∧ Hid (w5.heap.size ≤ ip ∧ Below w5.heap.size w5 wx ∧ ∃ np ap cp lp, Blk wx ip (.bool np) (.slice ap (List.length lp) cp) ∧ NumAt wx (.agg #[.bool np, .slice ap (List.length lp) cp]) (a + 1) 268))
      case first =>
        refine wp_region_held_drew (S := fun W => Below w5.heap.size w5 W) (by kernel_rfl) (Below.refl _ _).drew (fun hH0 => ?_)
        have HS := hidden (show Below w5.heap.size w5 w5.drew from (Below.refl _ _).drew)
        refine take_val' (i := 0) (v := .agg #[.bool na, .slice aa la.length ca]) rfl (by kernel_rfl) (by kernel_rfl) (by kernel_rfl) (some 57) rfl (fun _ _ _ h => h) (Or.inl ⟨by rfl, fun W hW => by obtain ⟨k0, k1⟩ := Ka.out.held W hW; go_simp⟩) hH0 ?_
        try simp only [Act.put, List.setIfInBounds_toArray, List.set_cons_zero, List.set_cons_succ]
        refine wpAnyH_ready (rs := [1, 3]) (by kernel_rfl) (by simp) ?_
        refine AllReadyH.cons rfl (fun K hK => ?_) (AllReadyH.cons rfl (fun K hK => ?_) AllReadyH.nil)
        · go_simp
          refine (of_any 1 _ (by omega) (by omega)).mono ?_
          rintro e w51 ⟨vo, rfl, hv, hb⟩
          replace HS := hidden (HS.out.trans (hb.mono HS.out.size))
          clear hb
          have m1 := hidden hv
          clear hv
          refine hK.out _ _ HS.out (fun hH1 => ?_)
          clear hK K
          try simp only [Act.put, List.setIfInBounds_toArray, List.set_cons_zero, List.set_cons_succ]
          refine wpAnyH_ready (rs := [2, 3]) (by kernel_rfl) (by simp) ?_
          refine AllReadyH.cons rfl (fun K hK => ?_) (AllReadyH.cons rfl (fun K hK => ?_) AllReadyH.nil)
          · go_simp
            refine (add_any _ _ a 1 267 3 _ (Na.out.below HS.out) m1.out (by omega) (by omega)).mono ?_
            rintro e w52 ⟨vp, rfl, hv, hb⟩
            replace m1 := hidden (m1.out.below hb)
            replace HS := hidden (HS.out.trans (hb.mono HS.out.size))
            clear hb
            have Np := hidden hv
            obtain ⟨np, ap, cp, lp, rfl, hrest⟩ := hv
            clear hrest
            refine hK.out _ _ HS.out (fun hH2 => ?_)
            clear hK K
            try simp only [Act.put, List.setIfInBounds_toArray, List.set_cons_zero, List.set_cons_succ]
            clear m1
            refine wpAnyH_ready (rs := [3]) (by kernel_rfl) (by simp) ?_
            refine AllReadyH.cons rfl (fun K hK => ?_) AllReadyH.nil
            have hip : w5.heap.size ≤ w52.heap.size := HS.out.size
            have hbw := (Below.refl w52.heap.size w52).alloc (Nat.le_refl _) (.cells #[.bool false, .slice none 0 0] 25)
            replace Np := hidden (Np.out.below hbw)
            have Kp := hidden (show Blk (w52.alloc (.cells #[.bool false, .slice none 0 0] 25)) w52.heap.size _ _ from blk_new w52 (.bool false) (.slice none 0 0))
            replace HS := hidden (show Below w5.heap.size w5 (w52.alloc (.cells #[.bool false, .slice none 0 0] 25)) from HS.out.trans (hbw.mono HS.out.size))
            clear hbw
            go_simp
            refine hK.out _ _ HS.out (fun hH3 => ?_)
            clear hK K
            try simp only [Act.put, List.setIfInBounds_toArray, List.set_cons_zero, List.set_cons_succ]
            generalize w52.alloc (.cells #[.bool false, .slice none 0 0] 25) = w53 at HS Kp Np hH3 ⊢
            generalize w52.heap.size = ip at Kp hip ⊢
            refine wpAnyH_ready (rs := [4]) (by kernel_rfl) (by simp) ?_
            refine AllReadyH.cons rfl (fun K hK => ?_) AllReadyH.nil
            obtain ⟨f0, f1, f2, f3⟩ := Kp.out.facts
            go_simp
            clear f0 f1 f2 f3
            replace Np := hidden (show NumAt ((w53.setCell ⟨ip, 0, none⟩ (.bool np)).setCell ⟨ip, 1, none⟩ (.slice ap lp.length cp)) _ _ _ from Np.out.stored Kp.out)
            replace Kp := hidden (show Blk ((w53.setCell ⟨ip, 0, none⟩ (.bool np)).setCell ⟨ip, 1, none⟩ (.slice ap lp.length cp)) (ip) (.bool np) (.slice ap lp.length cp) from Kp.out.set (.bool np) (.slice ap lp.length cp))
            replace HS := hidden (show Below w5.heap.size w5 ((w53.setCell ⟨ip, 0, none⟩ (.bool np)).setCell ⟨ip, 1, none⟩ (.slice ap lp.length cp)) from (HS.out.setCell hip _).setCell hip _)
            refine hK.out _ _ HS.out (fun hH4 => ?_)
            clear hK K
            try simp only [Act.put, List.setIfInBounds_toArray, List.set_cons_zero, List.set_cons_succ]
            generalize ((w53.setCell ⟨ip, 0, none⟩ (.bool np)).setCell ⟨ip, 1, none⟩ (.slice ap lp.length cp)) = w54 at HS Kp Np hH4 ⊢
            refine wpAnyH_done (by kernel_rfl) ?_ _
            go_wp2
            go_meet
            case rel => exact ⟨_, rfl, hidden ⟨hip, HS.out, np, ap, cp, lp, Kp.out, Np.out⟩⟩
          · have hip : w5.heap.size ≤ w51.heap.size := HS.out.size
            have hbw := (Below.refl w51.heap.size w51).alloc (Nat.le_refl _) (.cells #[.bool false, .slice none 0 0] 25)
            replace m1 := hidden (m1.out.below hbw)
            have Kp := hidden (show Blk (w51.alloc (.cells #[.bool false, .slice none 0 0] 25)) w51.heap.size _ _ from blk_new w51 (.bool false) (.slice none 0 0))
            replace HS := hidden (show Below w5.heap.size w5 (w51.alloc (.cells #[.bool false, .slice none 0 0] 25)) from HS.out.trans (hbw.mono HS.out.size))
            clear hbw
            go_simp
            refine hK.out _ _ HS.out (fun hH2 => ?_)
            clear hK K
            try simp only [Act.put, List.setIfInBounds_toArray, List.set_cons_zero, List.set_cons_succ]
            generalize w51.alloc (.cells #[.bool false, .slice none 0 0] 25) = w55 at HS Kp m1 hH2 ⊢
            generalize w51.heap.size = ip at Kp hip ⊢
            refine wpAnyH_ready (rs := [2]) (by kernel_rfl) (by simp) ?_
            refine AllReadyH.cons rfl (fun K hK => ?_) AllReadyH.nil
            go_simp
            refine (add_any _ _ a 1 267 3 _ (Na.out.below HS.out) m1.out (by omega) (by omega)).mono ?_
            rintro e w56 ⟨vp, rfl, hv, hb⟩
            replace m1 := hidden (m1.out.below hb)
            replace Kp := hidden (Kp.out.below hb Kp.out.lt)
            replace HS := hidden (HS.out.trans (hb.mono HS.out.size))
            clear hb
            have Np := hidden hv
            obtain ⟨np, ap, cp, lp, rfl, hrest⟩ := hv
            clear hrest
            refine hK.out _ _ HS.out (fun hH3 => ?_)
            clear hK K
            try simp only [Act.put, List.setIfInBounds_toArray, List.set_cons_zero, List.set_cons_succ]
            clear m1
            refine wpAnyH_ready (rs := [4]) (by kernel_rfl) (by simp) ?_
            refine AllReadyH.cons rfl (fun K hK => ?_) AllReadyH.nil
            obtain ⟨f0, f1, f2, f3⟩ := Kp.out.facts
            go_simp
            clear f0 f1 f2 f3
            replace Np := hidden (show NumAt ((w56.setCell ⟨ip, 0, none⟩ (.bool np)).setCell ⟨ip, 1, none⟩ (.slice ap lp.length cp)) _ _ _ from Np.out.stored Kp.out)
            replace Kp := hidden (show Blk ((w56.setCell ⟨ip, 0, none⟩ (.bool np)).setCell ⟨ip, 1, none⟩ (.slice ap lp.length cp)) (ip) (.bool np) (.slice ap lp.length cp) from Kp.out.set (.bool np) (.slice ap lp.length cp))
            replace HS := hidden (show Below w5.heap.size w5 ((w56.setCell ⟨ip, 0, none⟩ (.bool np)).setCell ⟨ip, 1, none⟩ (.slice ap lp.length cp)) from (HS.out.setCell hip _).setCell hip _)
            refine hK.out _ _ HS.out (fun hH4 => ?_)
            clear hK K
            try simp only [Act.put, List.setIfInBounds_toArray, List.set_cons_zero, List.set_cons_succ]
            generalize ((w56.setCell ⟨ip, 0, none⟩ (.bool np)).setCell ⟨ip, 1, none⟩ (.slice ap lp.length cp)) = w57 at HS Kp Np hH4 ⊢
            refine wpAnyH_done (by kernel_rfl) ?_ _
            go_wp2
            go_meet
            case rel => exact ⟨_, rfl, hidden ⟨hip, HS.out, np, ap, cp, lp, Kp.out, Np.out⟩⟩
        · have hip : w5.heap.size ≤ w5.heap.size := HS.out.size
          have hbw := (Below.refl w5.drew.heap.size w5.drew).alloc (Nat.le_refl _) (.cells #[.bool false, .slice none 0 0] 25)
          have Kp := hidden (show Blk ((w5.alloc (.cells #[.bool false, .slice none 0 0] 25)).drew) w5.heap.size _ _ from blk_new w5.drew (.bool false) (.slice none 0 0))
          replace HS := hidden (show Below w5.heap.size w5 ((w5.alloc (.cells #[.bool false, .slice none 0 0] 25)).drew) from HS.out.trans (hbw.mono HS.out.size))
          clear hbw
          go_simp
          refine hK.out _ _ HS.out (fun hH1 => ?_)
          clear hK K
          try simp only [Act.put, List.setIfInBounds_toArray, List.set_cons_zero, List.set_cons_succ]
          generalize (w5.alloc (.cells #[.bool false, .slice none 0 0] 25)).drew = w58 at HS Kp  hH1 ⊢
          refine wpAnyH_ready (rs := [1]) (by kernel_rfl) (by simp) ?_
          refine AllReadyH.cons rfl (fun K hK => ?_) AllReadyH.nil
          go_simp
          refine (of_any 1 _ (by omega) (by omega)).mono ?_
          rintro e w59 ⟨vo, rfl, hv, hb⟩
          replace Kp := hidden (Kp.out.below hb Kp.out.lt)
          replace HS := hidden (HS.out.trans (hb.mono HS.out.size))
          clear hb
          have m1 := hidden hv
          clear hv
          refine hK.out _ _ HS.out (fun hH2 => ?_)
          clear hK K
          try simp only [Act.put, List.setIfInBounds_toArray, List.set_cons_zero, List.set_cons_succ]
          refine wpAnyH_ready (rs := [2]) (by kernel_rfl) (by simp) ?_
          refine AllReadyH.cons rfl (fun K hK => ?_) AllReadyH.nil
          go_simp
          refine (add_any _ _ a 1 267 3 _ (Na.out.below HS.out) m1.out (by omega) (by omega)).mono ?_
          rintro e w60 ⟨vp, rfl, hv, hb⟩
          replace m1 := hidden (m1.out.below hb)
          replace Kp := hidden (Kp.out.below hb Kp.out.lt)
          replace HS := hidden (HS.out.trans (hb.mono HS.out.size))
          clear hb
          have Np := hidden hv
          obtain ⟨np, ap, cp, lp, rfl, hrest⟩ := hv
          clear hrest
          refine hK.out _ _ HS.out (fun hH3 => ?_)
          clear hK K
          try simp only [Act.put, List.setIfInBounds_toArray, List.set_cons_zero, List.set_cons_succ]
          clear m1
          refine wpAnyH_ready (rs := [4]) (by kernel_rfl) (by simp) ?_
          refine AllReadyH.cons rfl (fun K hK => ?_) AllReadyH.nil
          obtain ⟨f0, f1, f2, f3⟩ := Kp.out.facts
          go_simp
          clear f0 f1 f2 f3
          replace Np := hidden (show NumAt ((w60.setCell ⟨w5.heap.size, 0, none⟩ (.bool np)).setCell ⟨w5.heap.size, 1, none⟩ (.slice ap lp.length cp)) _ _ _ from Np.out.stored Kp.out)
          replace Kp := hidden (show Blk ((w60.setCell ⟨w5.heap.size, 0, none⟩ (.bool np)).setCell ⟨w5.heap.size, 1, none⟩ (.slice ap lp.length cp)) (w5.heap.size) (.bool np) (.slice ap lp.length cp) from Kp.out.set (.bool np) (.slice ap lp.length cp))
          replace HS := hidden (show Below w5.heap.size w5 ((w60.setCell ⟨w5.heap.size, 0, none⟩ (.bool np)).setCell ⟨w5.heap.size, 1, none⟩ (.slice ap lp.length cp)) from (HS.out.setCell hip _).setCell hip _)
          refine hK.out _ _ HS.out (fun hH4 => ?_)
          clear hK K
          try simp only [Act.put, List.setIfInBounds_toArray, List.set_cons_zero, List.set_cons_succ]
          generalize ((w60.setCell ⟨w5.heap.size, 0, none⟩ (.bool np)).setCell ⟨w5.heap.size, 1, none⟩ (.slice ap lp.length cp)) = w61 at HS Kp Np hH4 ⊢
          refine wpAnyH_done (by kernel_rfl) ?_ _
          go_wp2
          go_meet
          case rel => exact ⟨_, rfl, hidden ⟨hip, HS.out, np, ap, cp, lp, Kp.out, Np.out⟩⟩
      case rest =>
        obtain ⟨ib, rfl, hcut⟩ := hcut
        obtain ⟨hib, hb, nb, ab, cb, lb, hK, hN⟩ := hcut.out
        replace HE := hidden (HE.out.below hb)
        clear fa0 fa1
        replace Na := hidden (Na.out.below hb)
        replace Ka := hidden (Ka.out.below hb Ka.out.lt)
        replace HB := hidden (HB.out.trans (hb.mono HB.out.size))
        replace HT := hidden (HT.out.below hb)
        clear hb
        have fa0 := Ka.out.facts.1
        have fa1 := Ka.out.facts.2.1
        have Kb := hidden hK
        have Nb := hidden hN
        clear hK hN hcut
        have fb0 := Kb.out.facts.1
        have fb1 := Kb.out.facts.2.1
        have hab : a + 1 = ((10 ^ j : Nat) : Int) := by rw [← HA.out]; have := Nat.one_le_pow j 10 (by decide); omega
        have HTB := hidden (show txt (a + 1) = 49 :: List.replicate j 48 by rw [hab]; exact txt_ten j)
        have HDB := hidden (show digs (a + 1) = j + 1 by rw [hab]; exact digs_ten j)
        have HY := hidden (show a + 1 ≠ 0 by rw [hab]; have := Nat.one_le_pow j 10 (by decide); omega)
        clear hab
        go_upto_region 16 with fail
        refine wp_region_held_drew (S := fun W => Below wc.heap.size wc W) (by kernel_rfl) (Below.refl _ _).drew (fun hH0 => ?_)
        have HS := hidden (show Below wc.heap.size wc wc.drew from (Below.refl _ _).drew)
        refine take_val' (i := 0) (v := .agg #[.bool nb, .slice ab lb.length cb]) rfl (by kernel_rfl) (by kernel_rfl) (by kernel_rfl) (some 60) rfl (fun _ _ _ h => h) (Or.inl ⟨by rfl, fun W hW => by obtain ⟨k0, k1⟩ := Kb.out.held W hW; go_simp⟩) hH0 ?_
        try simp only [Act.put, List.setIfInBounds_toArray, List.set_cons_zero, List.set_cons_succ]
        refine take_val' (i := 2) (v := .string (tensB j)) rfl (by kernel_rfl) (by kernel_rfl) (by kernel_rfl) (some 62) rfl (fun _ _ _ h => h) (Or.inl ⟨by rfl, fun W hW => by go_simp⟩) hH0 ?_
        try simp only [Act.put, List.setIfInBounds_toArray, List.set_cons_zero, List.set_cons_succ]
        refine wpAnyH_ready (rs := [1]) (by kernel_rfl) (by simp) ?_
        refine AllReadyH.cons rfl (fun K hK => ?_) AllReadyH.nil
        go_simp
        refine (text_is (l := 49 :: List.replicate j 48) HTB.out _ 268 _ (Nb.out.below HS.out) (by omega) (HT.out.below HS.out)).mono ?_
        rintro e w62 ⟨rfl, hb⟩
        replace HS := hidden (HS.out.trans (hb.mono HS.out.size))
        clear hb
        rw [show (⟨(49 :: List.replicate j 48).toArray⟩ : ByteArray) = tensB j from rfl]
        refine hK.out _ _ HS.out (fun hH1 => ?_)
        clear hK K
        try simp only [Act.put, List.setIfInBounds_toArray, List.set_cons_zero, List.set_cons_succ]
        refine take_val' (i := 3) (v := .bool false) rfl (by kernel_rfl) (by kernel_rfl) (by kernel_rfl) (some 63) rfl (fun _ _ _ h => h) (Or.inl ⟨by rfl, fun W hW => by go_simp⟩) hH1 ?_
        try simp only [Act.put, List.setIfInBounds_toArray, List.set_cons_zero, List.set_cons_succ]
        refine take_val' (i := 4) (v := .bool false) rfl (by kernel_rfl) (by kernel_rfl) (by kernel_rfl) (some 64) rfl (fun _ _ _ h => h) (Or.inl ⟨by rfl, fun W hW => by go_simp⟩) hH1 ?_
        try simp only [Act.put, List.setIfInBounds_toArray, List.set_cons_zero, List.set_cons_succ]
        refine take_val' (i := 5) (v := .agg #[.bool nb, .slice ab lb.length cb]) rfl (by kernel_rfl) (by kernel_rfl) (by kernel_rfl) (some 65) rfl (fun _ _ _ h => h) (Or.inl ⟨by rfl, fun W hW => by obtain ⟨k0, k1⟩ := Kb.out.held W hW; go_simp⟩) hH1 ?_
        try simp only [Act.put, List.setIfInBounds_toArray, List.set_cons_zero, List.set_cons_succ]
        refine take_val' (i := 7) (v := .int .i64 (j : Int)) rfl (by kernel_rfl) (by kernel_rfl) (by kernel_rfl) (some 67) rfl (fun _ _ _ h => h) (Or.inl ⟨by rfl, fun W hW => by go_simp⟩) hH1 ?_
        try simp only [Act.put, List.setIfInBounds_toArray, List.set_cons_zero, List.set_cons_succ]
        refine take_val' (i := 8) (v := .int .i64 ((j : Int) + 1)) rfl (by kernel_rfl) (by kernel_rfl) (by kernel_rfl) (some 68) rfl (fun _ _ _ h => h) (Or.inl ⟨by rfl, fun W hW => by have hjw : IntKind.i64.wrap ((j : Int) + 1) = (j : Int) + 1 := (by first | (simp only [IntKind.wrap, IntKind.bits, IntKind.signed]; omega) | (rw [IntKind.wrap_i64]; omega) | go_num); go_simp⟩) hH1 ?_
        try simp only [Act.put, List.setIfInBounds_toArray, List.set_cons_zero, List.set_cons_succ]
        refine wpAnyH_ready (rs := [6]) (by kernel_rfl) (by simp) ?_
        refine AllReadyH.cons rfl (fun K hK => ?_) AllReadyH.nil
        go_simp
        refine (digits_any _ (a + 1) 268 _ (Nb.out.below HS.out) (by omega)).mono ?_
        rintro e w63 ⟨rfl, hb⟩
        replace HS := hidden (HS.out.trans (hb.mono HS.out.size))
        clear hb
        rw [HDB.out, show ((j + 1 : Nat) : Int) = (j : Int) + 1 from rfl]
        refine hK.out _ _ HS.out (fun hH2 => ?_)
        clear hK K
        try simp only [Act.put, List.setIfInBounds_toArray, List.set_cons_zero, List.set_cons_succ]
        refine take_val' (i := 9) (v := .bool false) rfl (by kernel_rfl) (by kernel_rfl) (by kernel_rfl) (some 69) rfl (fun _ _ _ h => h) (Or.inl ⟨by rfl, fun W hW => by go_simp⟩) hH2 ?_
        try simp only [Act.put, List.setIfInBounds_toArray, List.set_cons_zero, List.set_cons_succ]
        refine take_val' (i := 10) (v := .bool false) rfl (by kernel_rfl) (by kernel_rfl) (by kernel_rfl) (some 70) rfl (fun _ _ _ h => h) (Or.inl ⟨by rfl, fun W hW => by go_simp⟩) hH2 ?_
        try simp only [Act.put, List.setIfInBounds_toArray, List.set_cons_zero, List.set_cons_succ]
        refine take_val' (i := 11) (v := .bool false) rfl (by kernel_rfl) (by kernel_rfl) (by kernel_rfl) (some 71) rfl (fun _ _ _ h => h) (Or.inl ⟨by rfl, fun W hW => by go_simp⟩) hH2 ?_
        try simp only [Act.put, List.setIfInBounds_toArray, List.set_cons_zero, List.set_cons_succ]
        refine take_val' (i := 12) (v := .agg #[.bool nb, .slice ab lb.length cb]) rfl (by kernel_rfl) (by kernel_rfl) (by kernel_rfl) (some 72) rfl (fun _ _ _ h => h) (Or.inl ⟨by rfl, fun W hW => by obtain ⟨k0, k1⟩ := Kb.out.held W hW; go_simp⟩) hH2 ?_
        try simp only [Act.put, List.setIfInBounds_toArray, List.set_cons_zero, List.set_cons_succ]
        refine take_val' (i := 15) (v := .agg #[.bool na, .slice aa la.length ca]) rfl (by kernel_rfl) (by kernel_rfl) (by kernel_rfl) (some 75) rfl (fun _ _ _ h => h) (Or.inl ⟨by rfl, fun W hW => by obtain ⟨k0, k1⟩ := Ka.out.held W hW; go_simp⟩) hH2 ?_
        try simp only [Act.put, List.setIfInBounds_toArray, List.set_cons_zero, List.set_cons_succ]
        refine wpAnyH_ready (rs := [13]) (by kernel_rfl) (by simp) ?_
        refine AllReadyH.cons rfl (fun K hK => ?_) AllReadyH.nil
        go_simp
        refine (of_any 1 _ (by omega) (by omega)).mono ?_
        rintro e w64 ⟨vo, rfl, hv, hb⟩
        replace HS := hidden (HS.out.trans (hb.mono HS.out.size))
        clear hb
        have m1 := hidden hv
        clear hv
        refine hK.out _ _ HS.out (fun hH3 => ?_)
        clear hK K
        try simp only [Act.put, List.setIfInBounds_toArray, List.set_cons_zero, List.set_cons_succ]
        refine wpAnyH_ready (rs := [14]) (by kernel_rfl) (by simp) ?_
        refine AllReadyH.cons rfl (fun K hK => ?_) AllReadyH.nil
        go_simp
        refine (sub_any _ _ (a + 1) 1 268 3 _ (Nb.out.below HS.out) m1.out (by omega) (by omega)).mono ?_
        rintro e w65 ⟨vs, rfl, hv, hb⟩
        replace m1 := hidden (m1.out.below hb)
        replace HS := hidden (HS.out.trans (hb.mono HS.out.size))
        clear hb
        have m2 := hidden hv
        clear hv
        refine hK.out _ _ HS.out (fun hH4 => ?_)
        clear hK K
        try simp only [Act.put, List.setIfInBounds_toArray, List.set_cons_zero, List.set_cons_succ]
        clear m1
        refine wpAnyH_ready (rs := [16]) (by kernel_rfl) (by simp) ?_
        refine AllReadyH.cons rfl (fun K hK => ?_) AllReadyH.nil
        go_simp
        refine (cmp_same _ _ (a + 1 - 1) a (max 268 3 + 1) 267 _ (by omega) m2.out (Na.out.below HS.out) (by omega) (by omega)).mono ?_
        rintro e w66 ⟨rfl, hb⟩
        replace m2 := hidden (m2.out.below hb)
        replace HS := hidden (HS.out.trans (hb.mono HS.out.size))
        clear hb
        refine hK.out _ _ HS.out (fun hH5 => ?_)
        clear hK K
        try simp only [Act.put, List.setIfInBounds_toArray, List.set_cons_zero, List.set_cons_succ]
        clear m2
        refine take_val' (i := 17) (v := .bool false) rfl (by kernel_rfl) (by kernel_rfl) (by kernel_rfl) (some 77) rfl (fun _ _ _ h => h) (Or.inl ⟨by rfl, fun W hW => by go_simp⟩) hH5 ?_
        try simp only [Act.put, List.setIfInBounds_toArray, List.set_cons_zero, List.set_cons_succ]
        refine take_val' (i := 18) (v := .bool false) rfl (by kernel_rfl) (by kernel_rfl) (by kernel_rfl) (some 78) rfl (fun _ _ _ h => h) (Or.inl ⟨by rfl, fun W hW => by go_simp⟩) hH5 ?_
        try simp only [Act.put, List.setIfInBounds_toArray, List.set_cons_zero, List.set_cons_succ]
        replace HE := hidden (HE.out.below HS.out)
        refine wpAnyH_done (by kernel_rfl) ?_ _
        clear fa0 fa1 fb0 fb1
        replace Na := hidden (Na.out.below HS.out)
        replace Nb := hidden (Nb.out.below HS.out)
        replace Ka := hidden (Ka.out.below HS.out Ka.out.lt)
        replace Kb := hidden (Kb.out.below HS.out Kb.out.lt)
        replace HB := hidden (HB.out.trans (HS.out.mono HB.out.size))
        replace HT := hidden (HT.out.below HS.out)
        clear HS
        have fa0 := Ka.out.facts.1
        have fa1 := Ka.out.facts.2.1
        have fb0 := Kb.out.facts.1
        have fb1 := Kb.out.facts.2.1
        cases neg
        · have Nc := Na
          have ga0 := Ka.out.facts.1
          have ga1 := Ka.out.facts.2.1
          replace HE := hidden (HE.out.below ((Below.refl w66.heap.size w66).alloc (Nat.le_refl _) (.cells #[(.bool na), (.slice aa la.length ca)] 25)))
          have hbw := (Below.refl w66.heap.size w66).alloc (Nat.le_refl _) (.cells #[(.bool na), (.slice aa la.length ca)] 25)
          clear fa0 fa1 fb0 fb1
          replace Na := hidden (Na.out.below hbw)
          replace Nb := hidden (Nb.out.below hbw)
          replace Nc := hidden (Nc.out.below hbw)
          replace Ka := hidden (Ka.out.below hbw Ka.out.lt)
          replace Kb := hidden (Kb.out.below hbw Kb.out.lt)
          have Kc := hidden (blk_new w66 (.bool na) (.slice aa la.length ca))
          replace HB := hidden (HB.out.alloc HB.out.size (.cells #[(.bool na), (.slice aa la.length ca)] 25))
          replace HT := hidden (HT.out.below hbw)
          clear hbw
          have fa0 := Ka.out.facts.1
          have fa1 := Ka.out.facts.2.1
          have fb0 := Kb.out.facts.1
          have fb1 := Kb.out.facts.2.1
          have fc0 := Kc.out.facts.1
          have fc1 := Kc.out.facts.2.1
          go_upto_region 21 with fail
          generalize w66.alloc (.cells #[(.bool na), (.slice aa la.length ca)] 25) = w67 at Na Nb Nc Ka Kb Kc HB HT fa0 fa1 fb0 fb1 fc0 fc1 HE ⊢
          generalize w66.heap.size = ic at Kc fc0 fc1 ⊢
          clear ga0 ga1
          go_wp2_with fail
          refine (add_any _ _ (a) (a) 267 267 _ Nc.out Nc.out (by omega) (by omega)).mono ?_
          rintro e w68 ⟨vs, rfl, hv, hb⟩
          replace HE := hidden (HE.out.below hb)
          clear fa0 fa1 fb0 fb1 fc0 fc1
          replace Na := hidden (Na.out.below hb)
          replace Nb := hidden (Nb.out.below hb)
          replace Nc := hidden (Nc.out.below hb)
          replace Ka := hidden (Ka.out.below hb Ka.out.lt)
          replace Kb := hidden (Kb.out.below hb Kb.out.lt)
          replace Kc := hidden (Kc.out.below hb Kc.out.lt)
          replace HB := hidden (HB.out.trans (hb.mono HB.out.size))
          replace HT := hidden (HT.out.below hb)
          clear hb
          have fa0 := Ka.out.facts.1
          have fa1 := Ka.out.facts.2.1
          have fb0 := Kb.out.facts.1
          have fb1 := Kb.out.facts.2.1
          have fc0 := Kc.out.facts.1
          have fc1 := Kc.out.facts.2.1
          have Ns := hidden hv
          clear hv
          go_wp2_with fail
          refine (of_any 2 _ (by omega) (by omega)).mono ?_
          rintro e w69 ⟨vo, rfl, hv, hb⟩
          replace HE := hidden (HE.out.below hb)
          clear fa0 fa1 fb0 fb1 fc0 fc1
          replace Na := hidden (Na.out.below hb)
          replace Nb := hidden (Nb.out.below hb)
          replace Nc := hidden (Nc.out.below hb)
          replace Ns := hidden (Ns.out.below hb)
          replace Ka := hidden (Ka.out.below hb Ka.out.lt)
          replace Kb := hidden (Kb.out.below hb Kb.out.lt)
          replace Kc := hidden (Kc.out.below hb Kc.out.lt)
          replace HB := hidden (HB.out.trans (hb.mono HB.out.size))
          replace HT := hidden (HT.out.below hb)
          clear hb
          have fa0 := Ka.out.facts.1
          have fa1 := Ka.out.facts.2.1
          have fb0 := Kb.out.facts.1
          have fb1 := Kb.out.facts.2.1
          have fc0 := Kc.out.facts.1
          have fc1 := Kc.out.facts.2.1
          have No := hidden hv
          clear hv
          go_wp2_with fail
          refine (div_any _ _ (a + a) 2 (max 267 267 + 1) 3 _ Ns.out No.out (by omega) (by omega) (by decide)).mono ?_
          rintro e w70 ⟨vd, zq, zr, rfl, hv, hdm, hb⟩
          obtain ⟨hzq, hzr⟩ := dm_unique hdm (dm_two (a))
          replace hzq := hzq.symm
          subst hzq
          subst hzr
          clear hdm
          replace HE := hidden (HE.out.below hb)
          clear fa0 fa1 fb0 fb1 fc0 fc1
          replace Na := hidden (Na.out.below hb)
          replace Nb := hidden (Nb.out.below hb)
          replace Nc := hidden (Nc.out.below hb)
          replace Ns := hidden (Ns.out.below hb)
          replace No := hidden (No.out.below hb)
          replace Ka := hidden (Ka.out.below hb Ka.out.lt)
          replace Kb := hidden (Kb.out.below hb Kb.out.lt)
          replace Kc := hidden (Kc.out.below hb Kc.out.lt)
          replace HB := hidden (HB.out.trans (hb.mono HB.out.size))
          replace HT := hidden (HT.out.below hb)
          clear hb
          have fa0 := Ka.out.facts.1
          have fa1 := Ka.out.facts.2.1
          have fb0 := Kb.out.facts.1
          have fb1 := Kb.out.facts.2.1
          have fc0 := Kc.out.facts.1
          have fc1 := Kc.out.facts.2.1
          have Nd := hidden hv
          obtain ⟨nd, ad, cd, ld, rfl, hrest⟩ := hv
          clear hrest
          clear Ns
          clear No
          replace HE := hidden (HE.out.below ((Below.refl w70.heap.size w70).alloc (Nat.le_refl _) (.cells #[(.bool nd), (.slice ad ld.length cd)] 25)))
          have hbw := (Below.refl w70.heap.size w70).alloc (Nat.le_refl _) (.cells #[(.bool nd), (.slice ad ld.length cd)] 25)
          clear fa0 fa1 fb0 fb1 fc0 fc1
          replace Na := hidden (Na.out.below hbw)
          replace Nb := hidden (Nb.out.below hbw)
          replace Nc := hidden (Nc.out.below hbw)
          replace Nd := hidden (Nd.out.below hbw)
          replace Ka := hidden (Ka.out.below hbw Ka.out.lt)
          replace Kb := hidden (Kb.out.below hbw Kb.out.lt)
          replace Kc := hidden (Kc.out.below hbw Kc.out.lt)
          have Kd := hidden (blk_new w70 (.bool nd) (.slice ad ld.length cd))
          replace HB := hidden (HB.out.alloc HB.out.size (.cells #[(.bool nd), (.slice ad ld.length cd)] 25))
          replace HT := hidden (HT.out.below hbw)
          clear hbw
          have fa0 := Ka.out.facts.1
          have fa1 := Ka.out.facts.2.1
          have fb0 := Kb.out.facts.1
          have fb1 := Kb.out.facts.2.1
          have fc0 := Kc.out.facts.1
          have fc1 := Kc.out.facts.2.1
          have fd0 := Kd.out.facts.1
          have fd1 := Kd.out.facts.2.1
          go_upto_region 22 with fail
          generalize w70.alloc (.cells #[(.bool nd), (.slice ad ld.length cd)] 25) = w71 at Na Nb Nc Nd Ka Kb Kc Kd HB HT fa0 fa1 fb0 fb1 fc0 fc1 fd0 fd1 HE ⊢
          generalize w70.heap.size = id at Kd fd0 fd1 ⊢
          have HPQ := hidden (dm_back (a + 1) HY.out)
          go_cut [15, 16] from 21 (fun v u wx => ∃ ip, v = .pointer (some ⟨ip, 0, none⟩) ∧ u = .bool true ∧ Hid (w71.heap.size ≤ ip ∧ Below w71.heap.size w71 wx ∧ ∃ np ap cp lp, Blk wx ip (.bool np) (.slice ap (List.length lp) cp) ∧ NumAt wx (.agg #[.bool np, .slice ap (List.length lp) cp]) (a + 1) (max (268 + 268) 3 + 1)))
          case first =>
            refine wp_region_held_drew (S := fun W => Below w71.heap.size w71 W) (by kernel_rfl) (Below.refl _ _).drew (fun hH0 => ?_)
            have HS := hidden (show Below w71.heap.size w71 w71.drew from (Below.refl _ _).drew)
            refine take_val' (i := 0) (v := .agg #[.bool nb, .slice ab lb.length cb]) rfl (by kernel_rfl) (by kernel_rfl) (by kernel_rfl) (some 92) rfl (fun _ _ _ h => h) (Or.inl ⟨by rfl, fun W hW => by obtain ⟨k0, k1⟩ := Kb.out.held W hW; go_simp⟩) hH0 ?_
            try simp only [Act.put, List.setIfInBounds_toArray, List.set_cons_zero, List.set_cons_succ]
            refine take_val' (i := 1) (v := .agg #[.bool nb, .slice ab lb.length cb]) rfl (by kernel_rfl) (by kernel_rfl) (by kernel_rfl) (some 93) rfl (fun _ _ _ h => h) (Or.inl ⟨by rfl, fun W hW => by obtain ⟨k0, k1⟩ := Kb.out.held W hW; go_simp⟩) hH0 ?_
            try simp only [Act.put, List.setIfInBounds_toArray, List.set_cons_zero, List.set_cons_succ]
            refine take_val' (i := 3) (v := .agg #[.bool nb, .slice ab lb.length cb]) rfl (by kernel_rfl) (by kernel_rfl) (by kernel_rfl) (some 95) rfl (fun _ _ _ h => h) (Or.inl ⟨by rfl, fun W hW => by obtain ⟨k0, k1⟩ := Kb.out.held W hW; go_simp⟩) hH0 ?_
            try simp only [Act.put, List.setIfInBounds_toArray, List.set_cons_zero, List.set_cons_succ]
            refine wpAnyH_ready (rs := [2, 8]) (by kernel_rfl) (by simp) ?_
            refine AllReadyH.cons rfl (fun K hK => ?_) (AllReadyH.cons rfl (fun K hK => ?_) AllReadyH.nil)
            · go_simp
              refine (mul_any _ _ (a + 1) (a + 1) 268 268 _ (Nb.out.below HS.out) (Nb.out.below HS.out) (by omega) (by omega)).mono ?_
              rintro e w72 ⟨vm1, rfl, hv, hb⟩
              replace HS := hidden (HS.out.trans (hb.mono HS.out.size))
              clear hb
              have m1 := hidden hv
              clear hv
              refine hK.out _ _ HS.out (fun hH1 => ?_)
              clear hK K
              try simp only [Act.put, List.setIfInBounds_toArray, List.set_cons_zero, List.set_cons_succ]
              refine wpAnyH_ready (rs := [4, 8]) (by kernel_rfl) (by simp) ?_
              refine AllReadyH.cons rfl (fun K hK => ?_) (AllReadyH.cons rfl (fun K hK => ?_) AllReadyH.nil)
              · go_simp
                refine (div_any _ _ ((a + 1) * (a + 1)) (a + 1) (268 + 268) 268 _ m1.out (Nb.out.below HS.out) (by omega) (by omega) HY.out).mono ?_
                rintro e w73 ⟨vp, q3, r3, rfl, hv, hdm, hb⟩
                replace HS := hidden (HS.out.trans (hb.mono HS.out.size))
                clear hb
                obtain ⟨hq3, hr3⟩ := dm_unique hdm HPQ.out
                subst hq3 hr3
                clear hdm
                have Np := hidden hv
                obtain ⟨np, ap, cp, lp, rfl, hrest⟩ := hv
                clear hrest m1
                refine hK.out _ _ HS.out (fun hH2 => ?_)
                clear hK K
                try simp only [Act.put, List.setIfInBounds_toArray, List.set_cons_zero, List.set_cons_succ]
                refine take_val' (i := 5) (v := .tuple #[.agg #[.bool np, .slice ap lp.length cp], .bool true]) rfl (by kernel_rfl) (by kernel_rfl) (by kernel_rfl) (some 91) rfl (fun _ _ _ h => h) (Or.inl ⟨by rfl, fun W hW => by go_simp⟩) hH2 ?_
                try simp only [Act.put, List.setIfInBounds_toArray, List.set_cons_zero, List.set_cons_succ]
                refine take_val' (i := 6) (v := .agg #[.bool np, .slice ap lp.length cp]) rfl (by kernel_rfl) (by kernel_rfl) (by kernel_rfl) (some 97) rfl (fun _ _ _ h => h) (Or.inl ⟨by rfl, fun W hW => by go_simp⟩) hH2 ?_
                try simp only [Act.put, List.setIfInBounds_toArray, List.set_cons_zero, List.set_cons_succ]
                refine take_val' (i := 7) (v := .bool true) rfl (by kernel_rfl) (by kernel_rfl) (by kernel_rfl) (some 98) rfl (fun _ _ _ h => h) (Or.inl ⟨by rfl, fun W hW => by go_simp⟩) hH2 ?_
                try simp only [Act.put, List.setIfInBounds_toArray, List.set_cons_zero, List.set_cons_succ]
                refine wpAnyH_ready (rs := [8]) (by kernel_rfl) (by simp) ?_
                refine AllReadyH.cons rfl (fun K hK => ?_) AllReadyH.nil
                have hip : w71.heap.size ≤ w73.heap.size := HS.out.size
                have hbw := (Below.refl w73.heap.size w73).alloc (Nat.le_refl _) (.cells #[.bool false, .slice none 0 0] 25)
                replace Np := hidden (Np.out.below hbw)
                have Kp := hidden (show Blk (w73.alloc (.cells #[.bool false, .slice none 0 0] 25)) w73.heap.size _ _ from blk_new w73 (.bool false) (.slice none 0 0))
                replace HS := hidden (show Below w71.heap.size w71 (w73.alloc (.cells #[.bool false, .slice none 0 0] 25)) from HS.out.trans (hbw.mono HS.out.size))
                clear hbw
                go_simp
                refine hK.out _ _ HS.out (fun hH3 => ?_)
                clear hK K
                try simp only [Act.put, List.setIfInBounds_toArray, List.set_cons_zero, List.set_cons_succ]
                generalize w73.alloc (.cells #[.bool false, .slice none 0 0] 25) = w74 at HS Kp Np hH3 ⊢
                generalize w73.heap.size = ip at Kp hip ⊢
                refine wpAnyH_ready (rs := [9]) (by kernel_rfl) (by simp) ?_
                refine AllReadyH.cons rfl (fun K hK => ?_) AllReadyH.nil
                obtain ⟨f0, f1, f2, f3⟩ := Kp.out.facts
                go_simp
                clear f0 f1 f2 f3
                replace Np := hidden (show NumAt ((w74.setCell ⟨ip, 0, none⟩ (.bool np)).setCell ⟨ip, 1, none⟩ (.slice ap lp.length cp)) _ _ _ from Np.out.stored Kp.out)
                replace Kp := hidden (show Blk ((w74.setCell ⟨ip, 0, none⟩ (.bool np)).setCell ⟨ip, 1, none⟩ (.slice ap lp.length cp)) (ip) (.bool np) (.slice ap lp.length cp) from Kp.out.set (.bool np) (.slice ap lp.length cp))
                replace HS := hidden (show Below w71.heap.size w71 ((w74.setCell ⟨ip, 0, none⟩ (.bool np)).setCell ⟨ip, 1, none⟩ (.slice ap lp.length cp)) from (HS.out.setCell hip _).setCell hip _)
                refine hK.out _ _ HS.out (fun hH4 => ?_)
                clear hK K
                try simp only [Act.put, List.setIfInBounds_toArray, List.set_cons_zero, List.set_cons_succ]
                generalize ((w74.setCell ⟨ip, 0, none⟩ (.bool np)).setCell ⟨ip, 1, none⟩ (.slice ap lp.length cp)) = w75 at HS Kp Np hH4 ⊢
                refine take_val' (i := 10) (v := .bool true) rfl (by kernel_rfl) (by kernel_rfl) (by kernel_rfl) (some 16) rfl (fun _ _ _ h => h) (Or.inl ⟨by rfl, fun W hW => by go_simp⟩) hH4 ?_
                try simp only [Act.put, List.setIfInBounds_toArray, List.set_cons_zero, List.set_cons_succ]
                refine wpAnyH_done (by kernel_rfl) ?_ _
                go_wp2
                go_meet
                case rel => exact ⟨_, rfl, rfl, hidden ⟨hip, HS.out, np, ap, cp, lp, Kp.out, Np.out⟩⟩
              · have hip : w71.heap.size ≤ w72.heap.size := HS.out.size
                have hbw := (Below.refl w72.heap.size w72).alloc (Nat.le_refl _) (.cells #[.bool false, .slice none 0 0] 25)
                replace m1 := hidden (m1.out.below hbw)
                have Kp := hidden (show Blk (w72.alloc (.cells #[.bool false, .slice none 0 0] 25)) w72.heap.size _ _ from blk_new w72 (.bool false) (.slice none 0 0))
                replace HS := hidden (show Below w71.heap.size w71 (w72.alloc (.cells #[.bool false, .slice none 0 0] 25)) from HS.out.trans (hbw.mono HS.out.size))
                clear hbw
                go_simp
                refine hK.out _ _ HS.out (fun hH2 => ?_)
                clear hK K
                try simp only [Act.put, List.setIfInBounds_toArray, List.set_cons_zero, List.set_cons_succ]
                generalize w72.alloc (.cells #[.bool false, .slice none 0 0] 25) = w76 at HS Kp m1 hH2 ⊢
                generalize w72.heap.size = ip at Kp hip ⊢
                refine wpAnyH_ready (rs := [4]) (by kernel_rfl) (by simp) ?_
                refine AllReadyH.cons rfl (fun K hK => ?_) AllReadyH.nil
                go_simp
                refine (div_any _ _ ((a + 1) * (a + 1)) (a + 1) (268 + 268) 268 _ m1.out (Nb.out.below HS.out) (by omega) (by omega) HY.out).mono ?_
                rintro e w77 ⟨vp, q3, r3, rfl, hv, hdm, hb⟩
                replace Kp := hidden (Kp.out.below hb Kp.out.lt)
                replace HS := hidden (HS.out.trans (hb.mono HS.out.size))
                clear hb
                obtain ⟨hq3, hr3⟩ := dm_unique hdm HPQ.out
                subst hq3 hr3
                clear hdm
                have Np := hidden hv
                obtain ⟨np, ap, cp, lp, rfl, hrest⟩ := hv
                clear hrest m1
                refine hK.out _ _ HS.out (fun hH3 => ?_)
                clear hK K
                try simp only [Act.put, List.setIfInBounds_toArray, List.set_cons_zero, List.set_cons_succ]
                refine take_val' (i := 5) (v := .tuple #[.agg #[.bool np, .slice ap lp.length cp], .bool true]) rfl (by kernel_rfl) (by kernel_rfl) (by kernel_rfl) (some 91) rfl (fun _ _ _ h => h) (Or.inl ⟨by rfl, fun W hW => by go_simp⟩) hH3 ?_
                try simp only [Act.put, List.setIfInBounds_toArray, List.set_cons_zero, List.set_cons_succ]
                refine take_val' (i := 6) (v := .agg #[.bool np, .slice ap lp.length cp]) rfl (by kernel_rfl) (by kernel_rfl) (by kernel_rfl) (some 97) rfl (fun _ _ _ h => h) (Or.inl ⟨by rfl, fun W hW => by go_simp⟩) hH3 ?_
                try simp only [Act.put, List.setIfInBounds_toArray, List.set_cons_zero, List.set_cons_succ]
                refine take_val' (i := 7) (v := .bool true) rfl (by kernel_rfl) (by kernel_rfl) (by kernel_rfl) (some 98) rfl (fun _ _ _ h => h) (Or.inl ⟨by rfl, fun W hW => by go_simp⟩) hH3 ?_
                try simp only [Act.put, List.setIfInBounds_toArray, List.set_cons_zero, List.set_cons_succ]
                refine wpAnyH_ready (rs := [9]) (by kernel_rfl) (by simp) ?_
                refine AllReadyH.cons rfl (fun K hK => ?_) AllReadyH.nil
                obtain ⟨f0, f1, f2, f3⟩ := Kp.out.facts
                go_simp
                clear f0 f1 f2 f3
                replace Np := hidden (show NumAt ((w77.setCell ⟨ip, 0, none⟩ (.bool np)).setCell ⟨ip, 1, none⟩ (.slice ap lp.length cp)) _ _ _ from Np.out.stored Kp.out)
                replace Kp := hidden (show Blk ((w77.setCell ⟨ip, 0, none⟩ (.bool np)).setCell ⟨ip, 1, none⟩ (.slice ap lp.length cp)) (ip) (.bool np) (.slice ap lp.length cp) from Kp.out.set (.bool np) (.slice ap lp.length cp))
                replace HS := hidden (show Below w71.heap.size w71 ((w77.setCell ⟨ip, 0, none⟩ (.bool np)).setCell ⟨ip, 1, none⟩ (.slice ap lp.length cp)) from (HS.out.setCell hip _).setCell hip _)
                refine hK.out _ _ HS.out (fun hH4 => ?_)
                clear hK K
                try simp only [Act.put, List.setIfInBounds_toArray, List.set_cons_zero, List.set_cons_succ]
                generalize ((w77.setCell ⟨ip, 0, none⟩ (.bool np)).setCell ⟨ip, 1, none⟩ (.slice ap lp.length cp)) = w78 at HS Kp Np hH4 ⊢
                refine take_val' (i := 10) (v := .bool true) rfl (by kernel_rfl) (by kernel_rfl) (by kernel_rfl) (some 16) rfl (fun _ _ _ h => h) (Or.inl ⟨by rfl, fun W hW => by go_simp⟩) hH4 ?_
                try simp only [Act.put, List.setIfInBounds_toArray, List.set_cons_zero, List.set_cons_succ]
                refine wpAnyH_done (by kernel_rfl) ?_ _
                go_wp2
                go_meet
                case rel => exact ⟨_, rfl, rfl, hidden ⟨hip, HS.out, np, ap, cp, lp, Kp.out, Np.out⟩⟩
            · have hip : w71.heap.size ≤ w71.heap.size := HS.out.size
              have hbw := (Below.refl w71.drew.heap.size w71.drew).alloc (Nat.le_refl _) (.cells #[.bool false, .slice none 0 0] 25)
              have Kp := hidden (show Blk ((w71.alloc (.cells #[.bool false, .slice none 0 0] 25)).drew) w71.heap.size _ _ from blk_new w71.drew (.bool false) (.slice none 0 0))
              replace HS := hidden (show Below w71.heap.size w71 ((w71.alloc (.cells #[.bool false, .slice none 0 0] 25)).drew) from HS.out.trans (hbw.mono HS.out.size))
              clear hbw
              go_simp
              refine hK.out _ _ HS.out (fun hH1 => ?_)
              clear hK K
              try simp only [Act.put, List.setIfInBounds_toArray, List.set_cons_zero, List.set_cons_succ]
              generalize (w71.alloc (.cells #[.bool false, .slice none 0 0] 25)).drew = w79 at HS Kp  hH1 ⊢
              refine wpAnyH_ready (rs := [2]) (by kernel_rfl) (by simp) ?_
              refine AllReadyH.cons rfl (fun K hK => ?_) AllReadyH.nil
              go_simp
              refine (mul_any _ _ (a + 1) (a + 1) 268 268 _ (Nb.out.below HS.out) (Nb.out.below HS.out) (by omega) (by omega)).mono ?_
              rintro e w80 ⟨vm1, rfl, hv, hb⟩
              replace Kp := hidden (Kp.out.below hb Kp.out.lt)
              replace HS := hidden (HS.out.trans (hb.mono HS.out.size))
              clear hb
              have m1 := hidden hv
              clear hv
              refine hK.out _ _ HS.out (fun hH2 => ?_)
              clear hK K
              try simp only [Act.put, List.setIfInBounds_toArray, List.set_cons_zero, List.set_cons_succ]
              refine wpAnyH_ready (rs := [4]) (by kernel_rfl) (by simp) ?_
              refine AllReadyH.cons rfl (fun K hK => ?_) AllReadyH.nil
              go_simp
              refine (div_any _ _ ((a + 1) * (a + 1)) (a + 1) (268 + 268) 268 _ m1.out (Nb.out.below HS.out) (by omega) (by omega) HY.out).mono ?_
              rintro e w81 ⟨vp, q3, r3, rfl, hv, hdm, hb⟩
              replace Kp := hidden (Kp.out.below hb Kp.out.lt)
              replace HS := hidden (HS.out.trans (hb.mono HS.out.size))
              clear hb
              obtain ⟨hq3, hr3⟩ := dm_unique hdm HPQ.out
              subst hq3 hr3
              clear hdm
              have Np := hidden hv
              obtain ⟨np, ap, cp, lp, rfl, hrest⟩ := hv
              clear hrest m1
              refine hK.out _ _ HS.out (fun hH3 => ?_)
              clear hK K
              try simp only [Act.put, List.setIfInBounds_toArray, List.set_cons_zero, List.set_cons_succ]
              refine take_val' (i := 5) (v := .tuple #[.agg #[.bool np, .slice ap lp.length cp], .bool true]) rfl (by kernel_rfl) (by kernel_rfl) (by kernel_rfl) (some 91) rfl (fun _ _ _ h => h) (Or.inl ⟨by rfl, fun W hW => by go_simp⟩) hH3 ?_
              try simp only [Act.put, List.setIfInBounds_toArray, List.set_cons_zero, List.set_cons_succ]
              refine take_val' (i := 6) (v := .agg #[.bool np, .slice ap lp.length cp]) rfl (by kernel_rfl) (by kernel_rfl) (by kernel_rfl) (some 97) rfl (fun _ _ _ h => h) (Or.inl ⟨by rfl, fun W hW => by go_simp⟩) hH3 ?_
              try simp only [Act.put, List.setIfInBounds_toArray, List.set_cons_zero, List.set_cons_succ]
              refine take_val' (i := 7) (v := .bool true) rfl (by kernel_rfl) (by kernel_rfl) (by kernel_rfl) (some 98) rfl (fun _ _ _ h => h) (Or.inl ⟨by rfl, fun W hW => by go_simp⟩) hH3 ?_
              try simp only [Act.put, List.setIfInBounds_toArray, List.set_cons_zero, List.set_cons_succ]
              refine wpAnyH_ready (rs := [9]) (by kernel_rfl) (by simp) ?_
              refine AllReadyH.cons rfl (fun K hK => ?_) AllReadyH.nil
              obtain ⟨f0, f1, f2, f3⟩ := Kp.out.facts
              go_simp
              clear f0 f1 f2 f3
              replace Np := hidden (show NumAt ((w81.setCell ⟨w71.heap.size, 0, none⟩ (.bool np)).setCell ⟨w71.heap.size, 1, none⟩ (.slice ap lp.length cp)) _ _ _ from Np.out.stored Kp.out)
              replace Kp := hidden (show Blk ((w81.setCell ⟨w71.heap.size, 0, none⟩ (.bool np)).setCell ⟨w71.heap.size, 1, none⟩ (.slice ap lp.length cp)) (w71.heap.size) (.bool np) (.slice ap lp.length cp) from Kp.out.set (.bool np) (.slice ap lp.length cp))
              replace HS := hidden (show Below w71.heap.size w71 ((w81.setCell ⟨w71.heap.size, 0, none⟩ (.bool np)).setCell ⟨w71.heap.size, 1, none⟩ (.slice ap lp.length cp)) from (HS.out.setCell hip _).setCell hip _)
              refine hK.out _ _ HS.out (fun hH4 => ?_)
              clear hK K
              try simp only [Act.put, List.setIfInBounds_toArray, List.set_cons_zero, List.set_cons_succ]
              generalize ((w81.setCell ⟨w71.heap.size, 0, none⟩ (.bool np)).setCell ⟨w71.heap.size, 1, none⟩ (.slice ap lp.length cp)) = w82 at HS Kp Np hH4 ⊢
              refine take_val' (i := 10) (v := .bool true) rfl (by kernel_rfl) (by kernel_rfl) (by kernel_rfl) (some 16) rfl (fun _ _ _ h => h) (Or.inl ⟨by rfl, fun W hW => by go_simp⟩) hH4 ?_
              try simp only [Act.put, List.setIfInBounds_toArray, List.set_cons_zero, List.set_cons_succ]
              refine wpAnyH_done (by kernel_rfl) ?_ _
              go_wp2
              go_meet
              case rel => exact ⟨_, rfl, rfl, hidden ⟨hip, HS.out, np, ap, cp, lp, Kp.out, Np.out⟩⟩
          case rest =>
            obtain ⟨iq, rfl, rfl, hcut⟩ := hcut
            obtain ⟨hiq, hb, nq, aq, cq, lq, hK, hN⟩ := hcut.out
            replace HE := hidden (HE.out.below hb)
            clear fa0 fa1 fb0 fb1 fc0 fc1 fd0 fd1
            replace Na := hidden (Na.out.below hb)
            replace Nb := hidden (Nb.out.below hb)
            replace Nc := hidden (Nc.out.below hb)
            replace Nd := hidden (Nd.out.below hb)
            replace Ka := hidden (Ka.out.below hb Ka.out.lt)
            replace Kb := hidden (Kb.out.below hb Kb.out.lt)
            replace Kc := hidden (Kc.out.below hb Kc.out.lt)
            replace Kd := hidden (Kd.out.below hb Kd.out.lt)
            replace HB := hidden (HB.out.trans (hb.mono HB.out.size))
            replace HT := hidden (HT.out.below hb)
            clear hb
            have fa0 := Ka.out.facts.1
            have fa1 := Ka.out.facts.2.1
            have fb0 := Kb.out.facts.1
            have fb1 := Kb.out.facts.2.1
            have fc0 := Kc.out.facts.1
            have fc1 := Kc.out.facts.2.1
            have fd0 := Kd.out.facts.1
            have fd1 := Kd.out.facts.2.1
            have Kq := hidden hK
            have Nq := hidden hN
            clear hK hN hcut
            have fq0 := Kq.out.facts.1
            have fq1 := Kq.out.facts.2.1
            have e0 : (⟨#[48]⟩ ++ ninesB j : ByteArray).data.toList = 48 :: List.replicate j 57 := by simp [ninesB, ByteArray.data_append]
            have hsl := says_led HK.out
            rw [← e0] at hsl
            have e1 : (⟨#[48]⟩ ++ ninesB j : ByteArray).size ≤ 2400 := by rw [ByteArray.size_append, nines_size]; show 1 + j ≤ 2400; omega
            clear e0
            obtain ⟨bs, hbs⟩ : ∃ b : ByteArray, (⟨#[48]⟩ ++ ninesB j) = b := ⟨_, rfl⟩
            rw [hbs] at hsl e1
            go_wp2_with fail
            clear hbs
            refine (parse_any bs (A 12) _ e1 HE.out.g12).mono ?_
            rintro e w83 ⟨v, u, rfl, hb, hno, hyes⟩
            obtain ⟨rfl, rfl⟩ := hno hsl
            clear hno hyes hsl e1
            replace HE := hidden (HE.out.below hb)
            clear fa0 fa1 fb0 fb1 fc0 fc1 fd0 fd1 fq0 fq1
            replace Na := hidden (Na.out.below hb)
            replace Nb := hidden (Nb.out.below hb)
            replace Nc := hidden (Nc.out.below hb)
            replace Nd := hidden (Nd.out.below hb)
            replace Nq := hidden (Nq.out.below hb)
            replace Ka := hidden (Ka.out.below hb Ka.out.lt)
            replace Kb := hidden (Kb.out.below hb Kb.out.lt)
            replace Kc := hidden (Kc.out.below hb Kc.out.lt)
            replace Kd := hidden (Kd.out.below hb Kd.out.lt)
            replace Kq := hidden (Kq.out.below hb Kq.out.lt)
            replace HB := hidden (HB.out.trans (hb.mono HB.out.size))
            replace HT := hidden (HT.out.below hb)
            clear hb
            have fa0 := Ka.out.facts.1
            have fa1 := Ka.out.facts.2.1
            have fb0 := Kb.out.facts.1
            have fb1 := Kb.out.facts.2.1
            have fc0 := Kc.out.facts.1
            have fc1 := Kc.out.facts.2.1
            have fd0 := Kd.out.facts.1
            have fd1 := Kd.out.facts.2.1
            have fq0 := Kq.out.facts.1
            have fq1 := Kq.out.facts.2.1
            replace HE := hidden (HE.out.below ((Below.refl w83.heap.size w83).alloc (Nat.le_refl _) (.cells #[(.bool false), (.slice none 0 0)] 25)))
            have hbw := (Below.refl w83.heap.size w83).alloc (Nat.le_refl _) (.cells #[(.bool false), (.slice none 0 0)] 25)
            clear fa0 fa1 fb0 fb1 fc0 fc1 fd0 fd1 fq0 fq1
            replace Na := hidden (Na.out.below hbw)
            replace Nb := hidden (Nb.out.below hbw)
            replace Nc := hidden (Nc.out.below hbw)
            replace Nd := hidden (Nd.out.below hbw)
            replace Nq := hidden (Nq.out.below hbw)
            replace Ka := hidden (Ka.out.below hbw Ka.out.lt)
            replace Kb := hidden (Kb.out.below hbw Kb.out.lt)
            replace Kc := hidden (Kc.out.below hbw Kc.out.lt)
            replace Kd := hidden (Kd.out.below hbw Kd.out.lt)
            replace Kq := hidden (Kq.out.below hbw Kq.out.lt)
            have Kx := hidden (blk_new w83 (.bool false) (.slice none 0 0))
            replace HB := hidden (HB.out.alloc HB.out.size (.cells #[(.bool false), (.slice none 0 0)] 25))
            replace HT := hidden (HT.out.below hbw)
            clear hbw
            have fa0 := Ka.out.facts.1
            have fa1 := Ka.out.facts.2.1
            have fb0 := Kb.out.facts.1
            have fb1 := Kb.out.facts.2.1
            have fc0 := Kc.out.facts.1
            have fc1 := Kc.out.facts.2.1
            have fd0 := Kd.out.facts.1
            have fd1 := Kd.out.facts.2.1
            have fq0 := Kq.out.facts.1
            have fq1 := Kq.out.facts.2.1
            have fx0 := Kx.out.facts.1
            have fx1 := Kx.out.facts.2.1
            go_wp2_with fail
            generalize w83.alloc (.cells #[(.bool false), (.slice none 0 0)] 25) = w84 at Na Nb Nc Nd Nq Ka Kb Kc Kd Kq Kx HB HT fa0 fa1 fb0 fb1 fc0 fc1 fd0 fd1 fq0 fq1 fx0 fx1 HE ⊢
            generalize w83.heap.size = ix at Kx fx0 fx1 ⊢
            refine (parse_any ⟨#[45, 48]⟩ (A 12) _ (by decide) HE.out.g12).mono ?_
            rintro e w85 ⟨v, u, rfl, hb, hno, hyes⟩
            obtain ⟨rfl, rfl⟩ := hno says_minus
            clear hno hyes
            replace HE := hidden (HE.out.below hb)
            clear fa0 fa1 fb0 fb1 fc0 fc1 fd0 fd1 fq0 fq1 fx0 fx1
            replace Na := hidden (Na.out.below hb)
            replace Nb := hidden (Nb.out.below hb)
            replace Nc := hidden (Nc.out.below hb)
            replace Nd := hidden (Nd.out.below hb)
            replace Nq := hidden (Nq.out.below hb)
            replace Ka := hidden (Ka.out.below hb Ka.out.lt)
            replace Kb := hidden (Kb.out.below hb Kb.out.lt)
            replace Kc := hidden (Kc.out.below hb Kc.out.lt)
            replace Kd := hidden (Kd.out.below hb Kd.out.lt)
            replace Kq := hidden (Kq.out.below hb Kq.out.lt)
            replace Kx := hidden (Kx.out.below hb Kx.out.lt)
            replace HB := hidden (HB.out.trans (hb.mono HB.out.size))
            replace HT := hidden (HT.out.below hb)
            clear hb
            have fa0 := Ka.out.facts.1
            have fa1 := Ka.out.facts.2.1
            have fb0 := Kb.out.facts.1
            have fb1 := Kb.out.facts.2.1
            have fc0 := Kc.out.facts.1
            have fc1 := Kc.out.facts.2.1
            have fd0 := Kd.out.facts.1
            have fd1 := Kd.out.facts.2.1
            have fq0 := Kq.out.facts.1
            have fq1 := Kq.out.facts.2.1
            have fx0 := Kx.out.facts.1
            have fx1 := Kx.out.facts.2.1
            replace HE := hidden (HE.out.below ((Below.refl w85.heap.size w85).alloc (Nat.le_refl _) (.cells #[(.bool false), (.slice none 0 0)] 25)))
            have hbw := (Below.refl w85.heap.size w85).alloc (Nat.le_refl _) (.cells #[(.bool false), (.slice none 0 0)] 25)
            clear fa0 fa1 fb0 fb1 fc0 fc1 fd0 fd1 fq0 fq1 fx0 fx1
            replace Na := hidden (Na.out.below hbw)
            replace Nb := hidden (Nb.out.below hbw)
            replace Nc := hidden (Nc.out.below hbw)
            replace Nd := hidden (Nd.out.below hbw)
            replace Nq := hidden (Nq.out.below hbw)
            replace Ka := hidden (Ka.out.below hbw Ka.out.lt)
            replace Kb := hidden (Kb.out.below hbw Kb.out.lt)
            replace Kc := hidden (Kc.out.below hbw Kc.out.lt)
            replace Kd := hidden (Kd.out.below hbw Kd.out.lt)
            replace Kq := hidden (Kq.out.below hbw Kq.out.lt)
            replace Kx := hidden (Kx.out.below hbw Kx.out.lt)
            have Ky := hidden (blk_new w85 (.bool false) (.slice none 0 0))
            replace HB := hidden (HB.out.alloc HB.out.size (.cells #[(.bool false), (.slice none 0 0)] 25))
            replace HT := hidden (HT.out.below hbw)
            clear hbw
            have fa0 := Ka.out.facts.1
            have fa1 := Ka.out.facts.2.1
            have fb0 := Kb.out.facts.1
            have fb1 := Kb.out.facts.2.1
            have fc0 := Kc.out.facts.1
            have fc1 := Kc.out.facts.2.1
            have fd0 := Kd.out.facts.1
            have fd1 := Kd.out.facts.2.1
            have fq0 := Kq.out.facts.1
            have fq1 := Kq.out.facts.2.1
            have fx0 := Kx.out.facts.1
            have fx1 := Kx.out.facts.2.1
            have fy0 := Ky.out.facts.1
            have fy1 := Ky.out.facts.2.1
            go_wp2_with fail
            generalize w85.alloc (.cells #[(.bool false), (.slice none 0 0)] 25) = w86 at Na Nb Nc Nd Nq Ka Kb Kc Kd Kq Kx Ky HB HT fa0 fa1 fb0 fb1 fc0 fc1 fd0 fd1 fq0 fq1 fx0 fx1 fy0 fy1 HE ⊢
            generalize w85.heap.size = iy at Ky fy0 fy1 ⊢
            refine (cmp_same _ _ (a) (a) (max (max 267 267 + 1) 3 + 1) 267 _ rfl Nd.out Nc.out (by omega) (by omega)).mono ?_
            rintro e w87 ⟨rfl, hb⟩
            replace HE := hidden (HE.out.below hb)
            clear fa0 fa1 fb0 fb1 fc0 fc1 fd0 fd1 fq0 fq1 fx0 fx1 fy0 fy1
            replace Na := hidden (Na.out.below hb)
            replace Nb := hidden (Nb.out.below hb)
            replace Nc := hidden (Nc.out.below hb)
            replace Nd := hidden (Nd.out.below hb)
            replace Nq := hidden (Nq.out.below hb)
            replace Ka := hidden (Ka.out.below hb Ka.out.lt)
            replace Kb := hidden (Kb.out.below hb Kb.out.lt)
            replace Kc := hidden (Kc.out.below hb Kc.out.lt)
            replace Kd := hidden (Kd.out.below hb Kd.out.lt)
            replace Kq := hidden (Kq.out.below hb Kq.out.lt)
            replace Kx := hidden (Kx.out.below hb Kx.out.lt)
            replace Ky := hidden (Ky.out.below hb Ky.out.lt)
            replace HB := hidden (HB.out.trans (hb.mono HB.out.size))
            replace HT := hidden (HT.out.below hb)
            clear hb
            have fa0 := Ka.out.facts.1
            have fa1 := Ka.out.facts.2.1
            have fb0 := Kb.out.facts.1
            have fb1 := Kb.out.facts.2.1
            have fc0 := Kc.out.facts.1
            have fc1 := Kc.out.facts.2.1
            have fd0 := Kd.out.facts.1
            have fd1 := Kd.out.facts.2.1
            have fq0 := Kq.out.facts.1
            have fq1 := Kq.out.facts.2.1
            have fx0 := Kx.out.facts.1
            have fx1 := Kx.out.facts.2.1
            have fy0 := Ky.out.facts.1
            have fy1 := Ky.out.facts.2.1
            go_wp2_with fail
            refine (cmp_same _ _ (a + 1) (a + 1) (max (268 + 268) 3 + 1) 268 _ rfl Nq.out Nb.out (by omega) (by omega)).mono ?_
            rintro e w88 ⟨rfl, hb⟩
            replace HE := hidden (HE.out.below hb)
            clear fa0 fa1 fb0 fb1 fc0 fc1 fd0 fd1 fq0 fq1 fx0 fx1 fy0 fy1
            replace Na := hidden (Na.out.below hb)
            replace Nb := hidden (Nb.out.below hb)
            replace Nc := hidden (Nc.out.below hb)
            replace Nd := hidden (Nd.out.below hb)
            replace Nq := hidden (Nq.out.below hb)
            replace Ka := hidden (Ka.out.below hb Ka.out.lt)
            replace Kb := hidden (Kb.out.below hb Kb.out.lt)
            replace Kc := hidden (Kc.out.below hb Kc.out.lt)
            replace Kd := hidden (Kd.out.below hb Kd.out.lt)
            replace Kq := hidden (Kq.out.below hb Kq.out.lt)
            replace Kx := hidden (Kx.out.below hb Kx.out.lt)
            replace Ky := hidden (Ky.out.below hb Ky.out.lt)
            replace HB := hidden (HB.out.trans (hb.mono HB.out.size))
            replace HT := hidden (HT.out.below hb)
            clear hb
            have fa0 := Ka.out.facts.1
            have fa1 := Ka.out.facts.2.1
            have fb0 := Kb.out.facts.1
            have fb1 := Kb.out.facts.2.1
            have fc0 := Kc.out.facts.1
            have fc1 := Kc.out.facts.2.1
            have fd0 := Kd.out.facts.1
            have fd1 := Kd.out.facts.2.1
            have fq0 := Kq.out.facts.1
            have fq1 := Kq.out.facts.2.1
            have fx0 := Kx.out.facts.1
            have fx1 := Kx.out.facts.2.1
            have fy0 := Ky.out.facts.1
            have fy1 := Ky.out.facts.2.1
            go_wp2_with fail
            refine (is_shape _ HE.out).mono ?_
            rintro e w89 ⟨rfl, hb⟩
            replace HE := hidden (HE.out.below hb)
            clear fa0 fa1 fb0 fb1 fc0 fc1 fd0 fd1 fq0 fq1 fx0 fx1 fy0 fy1
            replace Na := hidden (Na.out.below hb)
            replace Nb := hidden (Nb.out.below hb)
            replace Nc := hidden (Nc.out.below hb)
            replace Nd := hidden (Nd.out.below hb)
            replace Nq := hidden (Nq.out.below hb)
            replace Ka := hidden (Ka.out.below hb Ka.out.lt)
            replace Kb := hidden (Kb.out.below hb Kb.out.lt)
            replace Kc := hidden (Kc.out.below hb Kc.out.lt)
            replace Kd := hidden (Kd.out.below hb Kd.out.lt)
            replace Kq := hidden (Kq.out.below hb Kq.out.lt)
            replace Kx := hidden (Kx.out.below hb Kx.out.lt)
            replace Ky := hidden (Ky.out.below hb Ky.out.lt)
            replace HB := hidden (HB.out.trans (hb.mono HB.out.size))
            replace HT := hidden (HT.out.below hb)
            clear hb
            have fa0 := Ka.out.facts.1
            have fa1 := Ka.out.facts.2.1
            have fb0 := Kb.out.facts.1
            have fb1 := Kb.out.facts.2.1
            have fc0 := Kc.out.facts.1
            have fc1 := Kc.out.facts.2.1
            have fd0 := Kd.out.facts.1
            have fd1 := Kd.out.facts.2.1
            have fq0 := Kq.out.facts.1
            have fq1 := Kq.out.facts.2.1
            have fx0 := Kx.out.facts.1
            have fx1 := Kx.out.facts.2.1
            have fy0 := Ky.out.facts.1
            have fy1 := Ky.out.facts.2.1
            go_wp2_with fail
            refine (is_shape _ HE.out).mono ?_
            rintro e w90 ⟨rfl, hb⟩
            replace HE := hidden (HE.out.below hb)
            clear fa0 fa1 fb0 fb1 fc0 fc1 fd0 fd1 fq0 fq1 fx0 fx1 fy0 fy1
            replace Na := hidden (Na.out.below hb)
            replace Nb := hidden (Nb.out.below hb)
            replace Nc := hidden (Nc.out.below hb)
            replace Nd := hidden (Nd.out.below hb)
            replace Nq := hidden (Nq.out.below hb)
            replace Ka := hidden (Ka.out.below hb Ka.out.lt)
            replace Kb := hidden (Kb.out.below hb Kb.out.lt)
            replace Kc := hidden (Kc.out.below hb Kc.out.lt)
            replace Kd := hidden (Kd.out.below hb Kd.out.lt)
            replace Kq := hidden (Kq.out.below hb Kq.out.lt)
            replace Kx := hidden (Kx.out.below hb Kx.out.lt)
            replace Ky := hidden (Ky.out.below hb Ky.out.lt)
            replace HB := hidden (HB.out.trans (hb.mono HB.out.size))
            replace HT := hidden (HT.out.below hb)
            clear hb
            have fa0 := Ka.out.facts.1
            have fa1 := Ka.out.facts.2.1
            have fb0 := Kb.out.facts.1
            have fb1 := Kb.out.facts.2.1
            have fc0 := Kc.out.facts.1
            have fc1 := Kc.out.facts.2.1
            have fd0 := Kd.out.facts.1
            have fd1 := Kd.out.facts.2.1
            have fq0 := Kq.out.facts.1
            have fq1 := Kq.out.facts.2.1
            have fx0 := Kx.out.facts.1
            have fx1 := Kx.out.facts.2.1
            have fy0 := Ky.out.facts.1
            have fy1 := Ky.out.facts.2.1
            go_wp2
            go_ret
            exact ⟨rfl, HB.out⟩
        · have hbw := (Below.refl w66.heap.size w66).alloc (Nat.le_refl _) (.cells #[(.bool na), (.slice aa la.length ca)] 25)
          have HC := hidden hbw
          have KC := hidden (blk_new w66 (.bool na) (.slice aa la.length ca))
          have NaC := hidden (Na.out.below hbw)
          have fz0 := (Ka.out.below hbw Ka.out.lt).facts.1
          have fz1 := (Ka.out.below hbw Ka.out.lt).facts.2.1
          clear hbw
          go_wp2_with fail
          generalize w66.alloc (.cells #[(.bool na), (.slice aa la.length ca)] 25) = w91 at HC KC NaC fz0 fz1 ⊢
          refine (neg_any _ a 267 _ NaC.out (by omega)).mono ?_
          rintro e w92 ⟨vc, rfl, hv, hb⟩
          have Nc0 := hidden hv
          obtain ⟨nc, ac, cc, lc, rfl, hrest⟩ := hv
          clear hrest fz0 fz1
          have KC2 := hidden (KC.out.below hb KC.out.lt)
          obtain ⟨fc0, fc1, fc2, fc3⟩ := KC2.out.facts
          have HC2 := hidden (HC.out.trans (hb.mono HC.out.size))
          clear hb
          go_upto_region 21 with fail
          clear fc0 fc1 fc2 fc3
          have Nc := hidden (show NumAt ((w92.setCell ⟨w66.heap.size, 0, none⟩ (.bool nc)).setCell ⟨w66.heap.size, 1, none⟩ (.slice ac lc.length cc)) _ _ _ from Nc0.out.stored KC2.out)
          have Kc := hidden (show Blk ((w92.setCell ⟨w66.heap.size, 0, none⟩ (.bool nc)).setCell ⟨w66.heap.size, 1, none⟩ (.slice ac lc.length cc)) w66.heap.size (.bool nc) (.slice ac lc.length cc) from KC2.out.set (.bool nc) (.slice ac lc.length cc))
          have hb := (show Below w66.heap.size w66 ((w92.setCell ⟨w66.heap.size, 0, none⟩ (.bool nc)).setCell ⟨w66.heap.size, 1, none⟩ (.slice ac lc.length cc)) from (HC2.out.setCell (Nat.le_refl _) _).setCell (Nat.le_refl _) _)
          clear KC KC2 NaC Nc0 HC HC2
          generalize ((w92.setCell ⟨w66.heap.size, 0, none⟩ (.bool nc)).setCell ⟨w66.heap.size, 1, none⟩ (.slice ac lc.length cc)) = w93 at Nc Kc hb ⊢
          obtain ⟨ic, hic⟩ : ∃ i, w66.heap.size = i := ⟨_, rfl⟩
          rw [hic] at Kc ⊢
          replace HE := hidden (HE.out.below hb)
          clear fa0 fa1 fb0 fb1
          replace Na := hidden (Na.out.below hb)
          replace Nb := hidden (Nb.out.below hb)
          replace Ka := hidden (Ka.out.below hb Ka.out.lt)
          replace Kb := hidden (Kb.out.below hb Kb.out.lt)
          replace HB := hidden (HB.out.trans (hb.mono HB.out.size))
          replace HT := hidden (HT.out.below hb)
          clear hb
          have fa0 := Ka.out.facts.1
          have fa1 := Ka.out.facts.2.1
          have fb0 := Kb.out.facts.1
          have fb1 := Kb.out.facts.2.1
          have fc0 := Kc.out.facts.1
          have fc1 := Kc.out.facts.2.1
          go_wp2_with fail
          refine (add_any _ _ (-a) (-a) 267 267 _ Nc.out Nc.out (by omega) (by omega)).mono ?_
          rintro e w94 ⟨vs, rfl, hv, hb⟩
          replace HE := hidden (HE.out.below hb)
          clear fa0 fa1 fb0 fb1 fc0 fc1
          replace Na := hidden (Na.out.below hb)
          replace Nb := hidden (Nb.out.below hb)
          replace Nc := hidden (Nc.out.below hb)
          replace Ka := hidden (Ka.out.below hb Ka.out.lt)
          replace Kb := hidden (Kb.out.below hb Kb.out.lt)
          replace Kc := hidden (Kc.out.below hb Kc.out.lt)
          replace HB := hidden (HB.out.trans (hb.mono HB.out.size))
          replace HT := hidden (HT.out.below hb)
          clear hb
          have fa0 := Ka.out.facts.1
          have fa1 := Ka.out.facts.2.1
          have fb0 := Kb.out.facts.1
          have fb1 := Kb.out.facts.2.1
          have fc0 := Kc.out.facts.1
          have fc1 := Kc.out.facts.2.1
          have Ns := hidden hv
          clear hv
          go_wp2_with fail
          refine (of_any 2 _ (by omega) (by omega)).mono ?_
          rintro e w95 ⟨vo, rfl, hv, hb⟩
          replace HE := hidden (HE.out.below hb)
          clear fa0 fa1 fb0 fb1 fc0 fc1
          replace Na := hidden (Na.out.below hb)
          replace Nb := hidden (Nb.out.below hb)
          replace Nc := hidden (Nc.out.below hb)
          replace Ns := hidden (Ns.out.below hb)
          replace Ka := hidden (Ka.out.below hb Ka.out.lt)
          replace Kb := hidden (Kb.out.below hb Kb.out.lt)
          replace Kc := hidden (Kc.out.below hb Kc.out.lt)
          replace HB := hidden (HB.out.trans (hb.mono HB.out.size))
          replace HT := hidden (HT.out.below hb)
          clear hb
          have fa0 := Ka.out.facts.1
          have fa1 := Ka.out.facts.2.1
          have fb0 := Kb.out.facts.1
          have fb1 := Kb.out.facts.2.1
          have fc0 := Kc.out.facts.1
          have fc1 := Kc.out.facts.2.1
          have No := hidden hv
          clear hv
          go_wp2_with fail
          refine (div_any _ _ (-a + -a) 2 (max 267 267 + 1) 3 _ Ns.out No.out (by omega) (by omega) (by decide)).mono ?_
          rintro e w96 ⟨vd, zq, zr, rfl, hv, hdm, hb⟩
          obtain ⟨hzq, hzr⟩ := dm_unique hdm (dm_two (-a))
          replace hzq := hzq.symm
          subst hzq
          subst hzr
          clear hdm
          replace HE := hidden (HE.out.below hb)
          clear fa0 fa1 fb0 fb1 fc0 fc1
          replace Na := hidden (Na.out.below hb)
          replace Nb := hidden (Nb.out.below hb)
          replace Nc := hidden (Nc.out.below hb)
          replace Ns := hidden (Ns.out.below hb)
          replace No := hidden (No.out.below hb)
          replace Ka := hidden (Ka.out.below hb Ka.out.lt)
          replace Kb := hidden (Kb.out.below hb Kb.out.lt)
          replace Kc := hidden (Kc.out.below hb Kc.out.lt)
          replace HB := hidden (HB.out.trans (hb.mono HB.out.size))
          replace HT := hidden (HT.out.below hb)
          clear hb
          have fa0 := Ka.out.facts.1
          have fa1 := Ka.out.facts.2.1
          have fb0 := Kb.out.facts.1
          have fb1 := Kb.out.facts.2.1
          have fc0 := Kc.out.facts.1
          have fc1 := Kc.out.facts.2.1
          have Nd := hidden hv
          obtain ⟨nd, ad, cd, ld, rfl, hrest⟩ := hv
          clear hrest
          clear Ns
          clear No
          replace HE := hidden (HE.out.below ((Below.refl w96.heap.size w96).alloc (Nat.le_refl _) (.cells #[(.bool nd), (.slice ad ld.length cd)] 25)))
          have hbw := (Below.refl w96.heap.size w96).alloc (Nat.le_refl _) (.cells #[(.bool nd), (.slice ad ld.length cd)] 25)
          clear fa0 fa1 fb0 fb1 fc0 fc1
          replace Na := hidden (Na.out.below hbw)
          replace Nb := hidden (Nb.out.below hbw)
          replace Nc := hidden (Nc.out.below hbw)
          replace Nd := hidden (Nd.out.below hbw)
          replace Ka := hidden (Ka.out.below hbw Ka.out.lt)
          replace Kb := hidden (Kb.out.below hbw Kb.out.lt)
          replace Kc := hidden (Kc.out.below hbw Kc.out.lt)
          have Kd := hidden (blk_new w96 (.bool nd) (.slice ad ld.length cd))
          replace HB := hidden (HB.out.alloc HB.out.size (.cells #[(.bool nd), (.slice ad ld.length cd)] 25))
          replace HT := hidden (HT.out.below hbw)
          clear hbw
          have fa0 := Ka.out.facts.1
          have fa1 := Ka.out.facts.2.1
          have fb0 := Kb.out.facts.1
          have fb1 := Kb.out.facts.2.1
          have fc0 := Kc.out.facts.1
          have fc1 := Kc.out.facts.2.1
          have fd0 := Kd.out.facts.1
          have fd1 := Kd.out.facts.2.1
          go_upto_region 22 with fail
          generalize w96.alloc (.cells #[(.bool nd), (.slice ad ld.length cd)] 25) = w97 at Na Nb Nc Nd Ka Kb Kc Kd HB HT fa0 fa1 fb0 fb1 fc0 fc1 fd0 fd1 HE ⊢
          generalize w96.heap.size = id at Kd fd0 fd1 ⊢
          have HPQ := hidden (dm_back (a + 1) HY.out)
          go_cut [15, 16] from 21 (fun v u wx => ∃ ip, v = .pointer (some ⟨ip, 0, none⟩) ∧ u = .bool true ∧ Hid (w97.heap.size ≤ ip ∧ Below w97.heap.size w97 wx ∧ ∃ np ap cp lp, Blk wx ip (.bool np) (.slice ap (List.length lp) cp) ∧ NumAt wx (.agg #[.bool np, .slice ap (List.length lp) cp]) (a + 1) (max (268 + 268) 3 + 1)))
          case first =>
            refine wp_region_held_drew (S := fun W => Below w97.heap.size w97 W) (by kernel_rfl) (Below.refl _ _).drew (fun hH0 => ?_)
            have HS := hidden (show Below w97.heap.size w97 w97.drew from (Below.refl _ _).drew)
            refine take_val' (i := 0) (v := .agg #[.bool nb, .slice ab lb.length cb]) rfl (by kernel_rfl) (by kernel_rfl) (by kernel_rfl) (some 92) rfl (fun _ _ _ h => h) (Or.inl ⟨by rfl, fun W hW => by obtain ⟨k0, k1⟩ := Kb.out.held W hW; go_simp⟩) hH0 ?_
            try simp only [Act.put, List.setIfInBounds_toArray, List.set_cons_zero, List.set_cons_succ]
            refine take_val' (i := 1) (v := .agg #[.bool nb, .slice ab lb.length cb]) rfl (by kernel_rfl) (by kernel_rfl) (by kernel_rfl) (some 93) rfl (fun _ _ _ h => h) (Or.inl ⟨by rfl, fun W hW => by obtain ⟨k0, k1⟩ := Kb.out.held W hW; go_simp⟩) hH0 ?_
            try simp only [Act.put, List.setIfInBounds_toArray, List.set_cons_zero, List.set_cons_succ]
            refine take_val' (i := 3) (v := .agg #[.bool nb, .slice ab lb.length cb]) rfl (by kernel_rfl) (by kernel_rfl) (by kernel_rfl) (some 95) rfl (fun _ _ _ h => h) (Or.inl ⟨by rfl, fun W hW => by obtain ⟨k0, k1⟩ := Kb.out.held W hW; go_simp⟩) hH0 ?_
            try simp only [Act.put, List.setIfInBounds_toArray, List.set_cons_zero, List.set_cons_succ]
            refine wpAnyH_ready (rs := [2, 8]) (by kernel_rfl) (by simp) ?_
            refine AllReadyH.cons rfl (fun K hK => ?_) (AllReadyH.cons rfl (fun K hK => ?_) AllReadyH.nil)
            · go_simp
              refine (mul_any _ _ (a + 1) (a + 1) 268 268 _ (Nb.out.below HS.out) (Nb.out.below HS.out) (by omega) (by omega)).mono ?_
              rintro e w98 ⟨vm1, rfl, hv, hb⟩
              replace HS := hidden (HS.out.trans (hb.mono HS.out.size))
              clear hb
              have m1 := hidden hv
              clear hv
              refine hK.out _ _ HS.out (fun hH1 => ?_)
              clear hK K
              try simp only [Act.put, List.setIfInBounds_toArray, List.set_cons_zero, List.set_cons_succ]
              refine wpAnyH_ready (rs := [4, 8]) (by kernel_rfl) (by simp) ?_
              refine AllReadyH.cons rfl (fun K hK => ?_) (AllReadyH.cons rfl (fun K hK => ?_) AllReadyH.nil)
              · go_simp
                refine (div_any _ _ ((a + 1) * (a + 1)) (a + 1) (268 + 268) 268 _ m1.out (Nb.out.below HS.out) (by omega) (by omega) HY.out).mono ?_
                rintro e w99 ⟨vp, q3, r3, rfl, hv, hdm, hb⟩
                replace HS := hidden (HS.out.trans (hb.mono HS.out.size))
                clear hb
                obtain ⟨hq3, hr3⟩ := dm_unique hdm HPQ.out
                subst hq3 hr3
                clear hdm
                have Np := hidden hv
                obtain ⟨np, ap, cp, lp, rfl, hrest⟩ := hv
                clear hrest m1
                refine hK.out _ _ HS.out (fun hH2 => ?_)
                clear hK K
                try simp only [Act.put, List.setIfInBounds_toArray, List.set_cons_zero, List.set_cons_succ]
                refine take_val' (i := 5) (v := .tuple #[.agg #[.bool np, .slice ap lp.length cp], .bool true]) rfl (by kernel_rfl) (by kernel_rfl) (by kernel_rfl) (some 91) rfl (fun _ _ _ h => h) (Or.inl ⟨by rfl, fun W hW => by go_simp⟩) hH2 ?_
                try simp only [Act.put, List.setIfInBounds_toArray, List.set_cons_zero, List.set_cons_succ]
                refine take_val' (i := 6) (v := .agg #[.bool np, .slice ap lp.length cp]) rfl (by kernel_rfl) (by kernel_rfl) (by kernel_rfl) (some 97) rfl (fun _ _ _ h => h) (Or.inl ⟨by rfl, fun W hW => by go_simp⟩) hH2 ?_
                try simp only [Act.put, List.setIfInBounds_toArray, List.set_cons_zero, List.set_cons_succ]
                refine take_val' (i := 7) (v := .bool true) rfl (by kernel_rfl) (by kernel_rfl) (by kernel_rfl) (some 98) rfl (fun _ _ _ h => h) (Or.inl ⟨by rfl, fun W hW => by go_simp⟩) hH2 ?_
                try simp only [Act.put, List.setIfInBounds_toArray, List.set_cons_zero, List.set_cons_succ]
                refine wpAnyH_ready (rs := [8]) (by kernel_rfl) (by simp) ?_
                refine AllReadyH.cons rfl (fun K hK => ?_) AllReadyH.nil
                have hip : w97.heap.size ≤ w99.heap.size := HS.out.size
                have hbw := (Below.refl w99.heap.size w99).alloc (Nat.le_refl _) (.cells #[.bool false, .slice none 0 0] 25)
                replace Np := hidden (Np.out.below hbw)
                have Kp := hidden (show Blk (w99.alloc (.cells #[.bool false, .slice none 0 0] 25)) w99.heap.size _ _ from blk_new w99 (.bool false) (.slice none 0 0))
                replace HS := hidden (show Below w97.heap.size w97 (w99.alloc (.cells #[.bool false, .slice none 0 0] 25)) from HS.out.trans (hbw.mono HS.out.size))
                clear hbw
                go_simp
                refine hK.out _ _ HS.out (fun hH3 => ?_)
                clear hK K
                try simp only [Act.put, List.setIfInBounds_toArray, List.set_cons_zero, List.set_cons_succ]
                generalize w99.alloc (.cells #[.bool false, .slice none 0 0] 25) = w100 at HS Kp Np hH3 ⊢
                generalize w99.heap.size = ip at Kp hip ⊢
                refine wpAnyH_ready (rs := [9]) (by kernel_rfl) (by simp) ?_
                refine AllReadyH.cons rfl (fun K hK => ?_) AllReadyH.nil
                obtain ⟨f0, f1, f2, f3⟩ := Kp.out.facts
                go_simp
                clear f0 f1 f2 f3
                replace Np := hidden (show NumAt ((w100.setCell ⟨ip, 0, none⟩ (.bool np)).setCell ⟨ip, 1, none⟩ (.slice ap lp.length cp)) _ _ _ from Np.out.stored Kp.out)
                replace Kp := hidden (show Blk ((w100.setCell ⟨ip, 0, none⟩ (.bool np)).setCell ⟨ip, 1, none⟩ (.slice ap lp.length cp)) (ip) (.bool np) (.slice ap lp.length cp) from Kp.out.set (.bool np) (.slice ap lp.length cp))
                replace HS := hidden (show Below w97.heap.size w97 ((w100.setCell ⟨ip, 0, none⟩ (.bool np)).setCell ⟨ip, 1, none⟩ (.slice ap lp.length cp)) from (HS.out.setCell hip _).setCell hip _)
                refine hK.out _ _ HS.out (fun hH4 => ?_)
                clear hK K
                try simp only [Act.put, List.setIfInBounds_toArray, List.set_cons_zero, List.set_cons_succ]
                generalize ((w100.setCell ⟨ip, 0, none⟩ (.bool np)).setCell ⟨ip, 1, none⟩ (.slice ap lp.length cp)) = w101 at HS Kp Np hH4 ⊢
                refine take_val' (i := 10) (v := .bool true) rfl (by kernel_rfl) (by kernel_rfl) (by kernel_rfl) (some 16) rfl (fun _ _ _ h => h) (Or.inl ⟨by rfl, fun W hW => by go_simp⟩) hH4 ?_
                try simp only [Act.put, List.setIfInBounds_toArray, List.set_cons_zero, List.set_cons_succ]
                refine wpAnyH_done (by kernel_rfl) ?_ _
                go_wp2
                go_meet
                case rel => exact ⟨_, rfl, rfl, hidden ⟨hip, HS.out, np, ap, cp, lp, Kp.out, Np.out⟩⟩
              · have hip : w97.heap.size ≤ w98.heap.size := HS.out.size
                have hbw := (Below.refl w98.heap.size w98).alloc (Nat.le_refl _) (.cells #[.bool false, .slice none 0 0] 25)
                replace m1 := hidden (m1.out.below hbw)
                have Kp := hidden (show Blk (w98.alloc (.cells #[.bool false, .slice none 0 0] 25)) w98.heap.size _ _ from blk_new w98 (.bool false) (.slice none 0 0))
                replace HS := hidden (show Below w97.heap.size w97 (w98.alloc (.cells #[.bool false, .slice none 0 0] 25)) from HS.out.trans (hbw.mono HS.out.size))
                clear hbw
                go_simp
                refine hK.out _ _ HS.out (fun hH2 => ?_)
                clear hK K
                try simp only [Act.put, List.setIfInBounds_toArray, List.set_cons_zero, List.set_cons_succ]
                generalize w98.alloc (.cells #[.bool false, .slice none 0 0] 25) = w102 at HS Kp m1 hH2 ⊢
                generalize w98.heap.size = ip at Kp hip ⊢
                refine wpAnyH_ready (rs := [4]) (by kernel_rfl) (by simp) ?_
                refine AllReadyH.cons rfl (fun K hK => ?_) AllReadyH.nil
                go_simp
                refine (div_any _ _ ((a + 1) * (a + 1)) (a + 1) (268 + 268) 268 _ m1.out (Nb.out.below HS.out) (by omega) (by omega) HY.out).mono ?_
                rintro e w103 ⟨vp, q3, r3, rfl, hv, hdm, hb⟩
                replace Kp := hidden (Kp.out.below hb Kp.out.lt)
                replace HS := hidden (HS.out.trans (hb.mono HS.out.size))
                clear hb
                obtain ⟨hq3, hr3⟩ := dm_unique hdm HPQ.out
                subst hq3 hr3
                clear hdm
                have Np := hidden hv
                obtain ⟨np, ap, cp, lp, rfl, hrest⟩ := hv
                clear hrest m1
                refine hK.out _ _ HS.out (fun hH3 => ?_)
                clear hK K
                try simp only [Act.put, List.setIfInBounds_toArray, List.set_cons_zero, List.set_cons_succ]
                refine take_val' (i := 5) (v := .tuple #[.agg #[.bool np, .slice ap lp.length cp], .bool true]) rfl (by kernel_rfl) (by kernel_rfl) (by kernel_rfl) (some 91) rfl (fun _ _ _ h => h) (Or.inl ⟨by rfl, fun W hW => by go_simp⟩) hH3 ?_
                try simp only [Act.put, List.setIfInBounds_toArray, List.set_cons_zero, List.set_cons_succ]
                refine take_val' (i := 6) (v := .agg #[.bool np, .slice ap lp.length cp]) rfl (by kernel_rfl) (by kernel_rfl) (by kernel_rfl) (some 97) rfl (fun _ _ _ h => h) (Or.inl ⟨by rfl, fun W hW => by go_simp⟩) hH3 ?_
                try simp only [Act.put, List.setIfInBounds_toArray, List.set_cons_zero, List.set_cons_succ]
                refine take_val' (i := 7) (v := .bool true) rfl (by kernel_rfl) (by kernel_rfl) (by kernel_rfl) (some 98) rfl (fun _ _ _ h => h) (Or.inl ⟨by rfl, fun W hW => by go_simp⟩) hH3 ?_
                try simp only [Act.put, List.setIfInBounds_toArray, List.set_cons_zero, List.set_cons_succ]
                refine wpAnyH_ready (rs := [9]) (by kernel_rfl) (by simp) ?_
                refine AllReadyH.cons rfl (fun K hK => ?_) AllReadyH.nil
                obtain ⟨f0, f1, f2, f3⟩ := Kp.out.facts
                go_simp
                clear f0 f1 f2 f3
                replace Np := hidden (show NumAt ((w103.setCell ⟨ip, 0, none⟩ (.bool np)).setCell ⟨ip, 1, none⟩ (.slice ap lp.length cp)) _ _ _ from Np.out.stored Kp.out)
                replace Kp := hidden (show Blk ((w103.setCell ⟨ip, 0, none⟩ (.bool np)).setCell ⟨ip, 1, none⟩ (.slice ap lp.length cp)) (ip) (.bool np) (.slice ap lp.length cp) from Kp.out.set (.bool np) (.slice ap lp.length cp))
                replace HS := hidden (show Below w97.heap.size w97 ((w103.setCell ⟨ip, 0, none⟩ (.bool np)).setCell ⟨ip, 1, none⟩ (.slice ap lp.length cp)) from (HS.out.setCell hip _).setCell hip _)
                refine hK.out _ _ HS.out (fun hH4 => ?_)
                clear hK K
                try simp only [Act.put, List.setIfInBounds_toArray, List.set_cons_zero, List.set_cons_succ]
                generalize ((w103.setCell ⟨ip, 0, none⟩ (.bool np)).setCell ⟨ip, 1, none⟩ (.slice ap lp.length cp)) = w104 at HS Kp Np hH4 ⊢
                refine take_val' (i := 10) (v := .bool true) rfl (by kernel_rfl) (by kernel_rfl) (by kernel_rfl) (some 16) rfl (fun _ _ _ h => h) (Or.inl ⟨by rfl, fun W hW => by go_simp⟩) hH4 ?_
                try simp only [Act.put, List.setIfInBounds_toArray, List.set_cons_zero, List.set_cons_succ]
                refine wpAnyH_done (by kernel_rfl) ?_ _
                go_wp2
                go_meet
                case rel => exact ⟨_, rfl, rfl, hidden ⟨hip, HS.out, np, ap, cp, lp, Kp.out, Np.out⟩⟩
            · have hip : w97.heap.size ≤ w97.heap.size := HS.out.size
              have hbw := (Below.refl w97.drew.heap.size w97.drew).alloc (Nat.le_refl _) (.cells #[.bool false, .slice none 0 0] 25)
              have Kp := hidden (show Blk ((w97.alloc (.cells #[.bool false, .slice none 0 0] 25)).drew) w97.heap.size _ _ from blk_new w97.drew (.bool false) (.slice none 0 0))
              replace HS := hidden (show Below w97.heap.size w97 ((w97.alloc (.cells #[.bool false, .slice none 0 0] 25)).drew) from HS.out.trans (hbw.mono HS.out.size))
              clear hbw
              go_simp
              refine hK.out _ _ HS.out (fun hH1 => ?_)
              clear hK K
              try simp only [Act.put, List.setIfInBounds_toArray, List.set_cons_zero, List.set_cons_succ]
              generalize (w97.alloc (.cells #[.bool false, .slice none 0 0] 25)).drew = w105 at HS Kp  hH1 ⊢
              refine wpAnyH_ready (rs := [2]) (by kernel_rfl) (by simp) ?_
              refine AllReadyH.cons rfl (fun K hK => ?_) AllReadyH.nil
              go_simp
              refine (mul_any _ _ (a + 1) (a + 1) 268 268 _ (Nb.out.below HS.out) (Nb.out.below HS.out) (by omega) (by omega)).mono ?_
              rintro e w106 ⟨vm1, rfl, hv, hb⟩
              replace Kp := hidden (Kp.out.below hb Kp.out.lt)
              replace HS := hidden (HS.out.trans (hb.mono HS.out.size))
              clear hb
              have m1 := hidden hv
              clear hv
              refine hK.out _ _ HS.out (fun hH2 => ?_)
              clear hK K
              try simp only [Act.put, List.setIfInBounds_toArray, List.set_cons_zero, List.set_cons_succ]
              refine wpAnyH_ready (rs := [4]) (by kernel_rfl) (by simp) ?_
              refine AllReadyH.cons rfl (fun K hK => ?_) AllReadyH.nil
              go_simp
              refine (div_any _ _ ((a + 1) * (a + 1)) (a + 1) (268 + 268) 268 _ m1.out (Nb.out.below HS.out) (by omega) (by omega) HY.out).mono ?_
              rintro e w107 ⟨vp, q3, r3, rfl, hv, hdm, hb⟩
              replace Kp := hidden (Kp.out.below hb Kp.out.lt)
              replace HS := hidden (HS.out.trans (hb.mono HS.out.size))
              clear hb
              obtain ⟨hq3, hr3⟩ := dm_unique hdm HPQ.out
              subst hq3 hr3
              clear hdm
              have Np := hidden hv
              obtain ⟨np, ap, cp, lp, rfl, hrest⟩ := hv
              clear hrest m1
              refine hK.out _ _ HS.out (fun hH3 => ?_)
              clear hK K
              try simp only [Act.put, List.setIfInBounds_toArray, List.set_cons_zero, List.set_cons_succ]
              refine take_val' (i := 5) (v := .tuple #[.agg #[.bool np, .slice ap lp.length cp], .bool true]) rfl (by kernel_rfl) (by kernel_rfl) (by kernel_rfl) (some 91) rfl (fun _ _ _ h => h) (Or.inl ⟨by rfl, fun W hW => by go_simp⟩) hH3 ?_
              try simp only [Act.put, List.setIfInBounds_toArray, List.set_cons_zero, List.set_cons_succ]
              refine take_val' (i := 6) (v := .agg #[.bool np, .slice ap lp.length cp]) rfl (by kernel_rfl) (by kernel_rfl) (by kernel_rfl) (some 97) rfl (fun _ _ _ h => h) (Or.inl ⟨by rfl, fun W hW => by go_simp⟩) hH3 ?_
              try simp only [Act.put, List.setIfInBounds_toArray, List.set_cons_zero, List.set_cons_succ]
              refine take_val' (i := 7) (v := .bool true) rfl (by kernel_rfl) (by kernel_rfl) (by kernel_rfl) (some 98) rfl (fun _ _ _ h => h) (Or.inl ⟨by rfl, fun W hW => by go_simp⟩) hH3 ?_
              try simp only [Act.put, List.setIfInBounds_toArray, List.set_cons_zero, List.set_cons_succ]
              refine wpAnyH_ready (rs := [9]) (by kernel_rfl) (by simp) ?_
              refine AllReadyH.cons rfl (fun K hK => ?_) AllReadyH.nil
              obtain ⟨f0, f1, f2, f3⟩ := Kp.out.facts
              go_simp
              clear f0 f1 f2 f3
              replace Np := hidden (show NumAt ((w107.setCell ⟨w97.heap.size, 0, none⟩ (.bool np)).setCell ⟨w97.heap.size, 1, none⟩ (.slice ap lp.length cp)) _ _ _ from Np.out.stored Kp.out)
              replace Kp := hidden (show Blk ((w107.setCell ⟨w97.heap.size, 0, none⟩ (.bool np)).setCell ⟨w97.heap.size, 1, none⟩ (.slice ap lp.length cp)) (w97.heap.size) (.bool np) (.slice ap lp.length cp) from Kp.out.set (.bool np) (.slice ap lp.length cp))
              replace HS := hidden (show Below w97.heap.size w97 ((w107.setCell ⟨w97.heap.size, 0, none⟩ (.bool np)).setCell ⟨w97.heap.size, 1, none⟩ (.slice ap lp.length cp)) from (HS.out.setCell hip _).setCell hip _)
              refine hK.out _ _ HS.out (fun hH4 => ?_)
              clear hK K
              try simp only [Act.put, List.setIfInBounds_toArray, List.set_cons_zero, List.set_cons_succ]
              generalize ((w107.setCell ⟨w97.heap.size, 0, none⟩ (.bool np)).setCell ⟨w97.heap.size, 1, none⟩ (.slice ap lp.length cp)) = w108 at HS Kp Np hH4 ⊢
              refine take_val' (i := 10) (v := .bool true) rfl (by kernel_rfl) (by kernel_rfl) (by kernel_rfl) (some 16) rfl (fun _ _ _ h => h) (Or.inl ⟨by rfl, fun W hW => by go_simp⟩) hH4 ?_
              try simp only [Act.put, List.setIfInBounds_toArray, List.set_cons_zero, List.set_cons_succ]
              refine wpAnyH_done (by kernel_rfl) ?_ _
              go_wp2
              go_meet
              case rel => exact ⟨_, rfl, rfl, hidden ⟨hip, HS.out, np, ap, cp, lp, Kp.out, Np.out⟩⟩
          case rest =>
            obtain ⟨iq, rfl, rfl, hcut⟩ := hcut
            obtain ⟨hiq, hb, nq, aq, cq, lq, hK, hN⟩ := hcut.out
            replace HE := hidden (HE.out.below hb)
            clear fa0 fa1 fb0 fb1 fc0 fc1 fd0 fd1
            replace Na := hidden (Na.out.below hb)
            replace Nb := hidden (Nb.out.below hb)
            replace Nc := hidden (Nc.out.below hb)
            replace Nd := hidden (Nd.out.below hb)
            replace Ka := hidden (Ka.out.below hb Ka.out.lt)
            replace Kb := hidden (Kb.out.below hb Kb.out.lt)
            replace Kc := hidden (Kc.out.below hb Kc.out.lt)
            replace Kd := hidden (Kd.out.below hb Kd.out.lt)
            replace HB := hidden (HB.out.trans (hb.mono HB.out.size))
            replace HT := hidden (HT.out.below hb)
            clear hb
            have fa0 := Ka.out.facts.1
            have fa1 := Ka.out.facts.2.1
            have fb0 := Kb.out.facts.1
            have fb1 := Kb.out.facts.2.1
            have fc0 := Kc.out.facts.1
            have fc1 := Kc.out.facts.2.1
            have fd0 := Kd.out.facts.1
            have fd1 := Kd.out.facts.2.1
            have Kq := hidden hK
            have Nq := hidden hN
            clear hK hN hcut
            have fq0 := Kq.out.facts.1
            have fq1 := Kq.out.facts.2.1
            have e0 : (⟨#[48]⟩ ++ ninesB j : ByteArray).data.toList = 48 :: List.replicate j 57 := by simp [ninesB, ByteArray.data_append]
            have hsl := says_led HK.out
            rw [← e0] at hsl
            have e1 : (⟨#[48]⟩ ++ ninesB j : ByteArray).size ≤ 2400 := by rw [ByteArray.size_append, nines_size]; show 1 + j ≤ 2400; omega
            clear e0
            obtain ⟨bs, hbs⟩ : ∃ b : ByteArray, (⟨#[48]⟩ ++ ninesB j) = b := ⟨_, rfl⟩
            rw [hbs] at hsl e1
            go_wp2_with fail
            clear hbs
            refine (parse_any bs (A 12) _ e1 HE.out.g12).mono ?_
            rintro e w109 ⟨v, u, rfl, hb, hno, hyes⟩
            obtain ⟨rfl, rfl⟩ := hno hsl
            clear hno hyes hsl e1
            replace HE := hidden (HE.out.below hb)
            clear fa0 fa1 fb0 fb1 fc0 fc1 fd0 fd1 fq0 fq1
            replace Na := hidden (Na.out.below hb)
            replace Nb := hidden (Nb.out.below hb)
            replace Nc := hidden (Nc.out.below hb)
            replace Nd := hidden (Nd.out.below hb)
            replace Nq := hidden (Nq.out.below hb)
            replace Ka := hidden (Ka.out.below hb Ka.out.lt)
            replace Kb := hidden (Kb.out.below hb Kb.out.lt)
            replace Kc := hidden (Kc.out.below hb Kc.out.lt)
            replace Kd := hidden (Kd.out.below hb Kd.out.lt)
            replace Kq := hidden (Kq.out.below hb Kq.out.lt)
            replace HB := hidden (HB.out.trans (hb.mono HB.out.size))
            replace HT := hidden (HT.out.below hb)
            clear hb
            have fa0 := Ka.out.facts.1
            have fa1 := Ka.out.facts.2.1
            have fb0 := Kb.out.facts.1
            have fb1 := Kb.out.facts.2.1
            have fc0 := Kc.out.facts.1
            have fc1 := Kc.out.facts.2.1
            have fd0 := Kd.out.facts.1
            have fd1 := Kd.out.facts.2.1
            have fq0 := Kq.out.facts.1
            have fq1 := Kq.out.facts.2.1
            replace HE := hidden (HE.out.below ((Below.refl w109.heap.size w109).alloc (Nat.le_refl _) (.cells #[(.bool false), (.slice none 0 0)] 25)))
            have hbw := (Below.refl w109.heap.size w109).alloc (Nat.le_refl _) (.cells #[(.bool false), (.slice none 0 0)] 25)
            clear fa0 fa1 fb0 fb1 fc0 fc1 fd0 fd1 fq0 fq1
            replace Na := hidden (Na.out.below hbw)
            replace Nb := hidden (Nb.out.below hbw)
            replace Nc := hidden (Nc.out.below hbw)
            replace Nd := hidden (Nd.out.below hbw)
            replace Nq := hidden (Nq.out.below hbw)
            replace Ka := hidden (Ka.out.below hbw Ka.out.lt)
            replace Kb := hidden (Kb.out.below hbw Kb.out.lt)
            replace Kc := hidden (Kc.out.below hbw Kc.out.lt)
            replace Kd := hidden (Kd.out.below hbw Kd.out.lt)
            replace Kq := hidden (Kq.out.below hbw Kq.out.lt)
            have Kx := hidden (blk_new w109 (.bool false) (.slice none 0 0))
            replace HB := hidden (HB.out.alloc HB.out.size (.cells #[(.bool false), (.slice none 0 0)] 25))
            replace HT := hidden (HT.out.below hbw)
            clear hbw
            have fa0 := Ka.out.facts.1
            have fa1 := Ka.out.facts.2.1
            have fb0 := Kb.out.facts.1
            have fb1 := Kb.out.facts.2.1
            have fc0 := Kc.out.facts.1
            have fc1 := Kc.out.facts.2.1
            have fd0 := Kd.out.facts.1
            have fd1 := Kd.out.facts.2.1
            have fq0 := Kq.out.facts.1
            have fq1 := Kq.out.facts.2.1
            have fx0 := Kx.out.facts.1
            have fx1 := Kx.out.facts.2.1
            go_wp2_with fail
            generalize w109.alloc (.cells #[(.bool false), (.slice none 0 0)] 25) = w110 at Na Nb Nc Nd Nq Ka Kb Kc Kd Kq Kx HB HT fa0 fa1 fb0 fb1 fc0 fc1 fd0 fd1 fq0 fq1 fx0 fx1 HE ⊢
            generalize w109.heap.size = ix at Kx fx0 fx1 ⊢
            refine (parse_any ⟨#[45, 48]⟩ (A 12) _ (by decide) HE.out.g12).mono ?_
            rintro e w111 ⟨v, u, rfl, hb, hno, hyes⟩
            obtain ⟨rfl, rfl⟩ := hno says_minus
            clear hno hyes
            replace HE := hidden (HE.out.below hb)
            clear fa0 fa1 fb0 fb1 fc0 fc1 fd0 fd1 fq0 fq1 fx0 fx1
            replace Na := hidden (Na.out.below hb)
            replace Nb := hidden (Nb.out.below hb)
            replace Nc := hidden (Nc.out.below hb)
            replace Nd := hidden (Nd.out.below hb)
            replace Nq := hidden (Nq.out.below hb)
            replace Ka := hidden (Ka.out.below hb Ka.out.lt)
            replace Kb := hidden (Kb.out.below hb Kb.out.lt)
            replace Kc := hidden (Kc.out.below hb Kc.out.lt)
            replace Kd := hidden (Kd.out.below hb Kd.out.lt)
            replace Kq := hidden (Kq.out.below hb Kq.out.lt)
            replace Kx := hidden (Kx.out.below hb Kx.out.lt)
            replace HB := hidden (HB.out.trans (hb.mono HB.out.size))
            replace HT := hidden (HT.out.below hb)
            clear hb
            have fa0 := Ka.out.facts.1
            have fa1 := Ka.out.facts.2.1
            have fb0 := Kb.out.facts.1
            have fb1 := Kb.out.facts.2.1
            have fc0 := Kc.out.facts.1
            have fc1 := Kc.out.facts.2.1
            have fd0 := Kd.out.facts.1
            have fd1 := Kd.out.facts.2.1
            have fq0 := Kq.out.facts.1
            have fq1 := Kq.out.facts.2.1
            have fx0 := Kx.out.facts.1
            have fx1 := Kx.out.facts.2.1
            replace HE := hidden (HE.out.below ((Below.refl w111.heap.size w111).alloc (Nat.le_refl _) (.cells #[(.bool false), (.slice none 0 0)] 25)))
            have hbw := (Below.refl w111.heap.size w111).alloc (Nat.le_refl _) (.cells #[(.bool false), (.slice none 0 0)] 25)
            clear fa0 fa1 fb0 fb1 fc0 fc1 fd0 fd1 fq0 fq1 fx0 fx1
            replace Na := hidden (Na.out.below hbw)
            replace Nb := hidden (Nb.out.below hbw)
            replace Nc := hidden (Nc.out.below hbw)
            replace Nd := hidden (Nd.out.below hbw)
            replace Nq := hidden (Nq.out.below hbw)
            replace Ka := hidden (Ka.out.below hbw Ka.out.lt)
            replace Kb := hidden (Kb.out.below hbw Kb.out.lt)
            replace Kc := hidden (Kc.out.below hbw Kc.out.lt)
            replace Kd := hidden (Kd.out.below hbw Kd.out.lt)
            replace Kq := hidden (Kq.out.below hbw Kq.out.lt)
            replace Kx := hidden (Kx.out.below hbw Kx.out.lt)
            have Ky := hidden (blk_new w111 (.bool false) (.slice none 0 0))
            replace HB := hidden (HB.out.alloc HB.out.size (.cells #[(.bool false), (.slice none 0 0)] 25))
            replace HT := hidden (HT.out.below hbw)
            clear hbw
            have fa0 := Ka.out.facts.1
            have fa1 := Ka.out.facts.2.1
            have fb0 := Kb.out.facts.1
            have fb1 := Kb.out.facts.2.1
            have fc0 := Kc.out.facts.1
            have fc1 := Kc.out.facts.2.1
            have fd0 := Kd.out.facts.1
            have fd1 := Kd.out.facts.2.1
            have fq0 := Kq.out.facts.1
            have fq1 := Kq.out.facts.2.1
            have fx0 := Kx.out.facts.1
            have fx1 := Kx.out.facts.2.1
            have fy0 := Ky.out.facts.1
            have fy1 := Ky.out.facts.2.1
            go_wp2_with fail
            generalize w111.alloc (.cells #[(.bool false), (.slice none 0 0)] 25) = w112 at Na Nb Nc Nd Nq Ka Kb Kc Kd Kq Kx Ky HB HT fa0 fa1 fb0 fb1 fc0 fc1 fd0 fd1 fq0 fq1 fx0 fx1 fy0 fy1 HE ⊢
            generalize w111.heap.size = iy at Ky fy0 fy1 ⊢
            refine (cmp_same _ _ (-a) (-a) (max (max 267 267 + 1) 3 + 1) 267 _ rfl Nd.out Nc.out (by omega) (by omega)).mono ?_
            rintro e w113 ⟨rfl, hb⟩
            replace HE := hidden (HE.out.below hb)
            clear fa0 fa1 fb0 fb1 fc0 fc1 fd0 fd1 fq0 fq1 fx0 fx1 fy0 fy1
            replace Na := hidden (Na.out.below hb)
            replace Nb := hidden (Nb.out.below hb)
            replace Nc := hidden (Nc.out.below hb)
            replace Nd := hidden (Nd.out.below hb)
            replace Nq := hidden (Nq.out.below hb)
            replace Ka := hidden (Ka.out.below hb Ka.out.lt)
            replace Kb := hidden (Kb.out.below hb Kb.out.lt)
            replace Kc := hidden (Kc.out.below hb Kc.out.lt)
            replace Kd := hidden (Kd.out.below hb Kd.out.lt)
            replace Kq := hidden (Kq.out.below hb Kq.out.lt)
            replace Kx := hidden (Kx.out.below hb Kx.out.lt)
            replace Ky := hidden (Ky.out.below hb Ky.out.lt)
            replace HB := hidden (HB.out.trans (hb.mono HB.out.size))
            replace HT := hidden (HT.out.below hb)
            clear hb
            have fa0 := Ka.out.facts.1
            have fa1 := Ka.out.facts.2.1
            have fb0 := Kb.out.facts.1
            have fb1 := Kb.out.facts.2.1
            have fc0 := Kc.out.facts.1
            have fc1 := Kc.out.facts.2.1
            have fd0 := Kd.out.facts.1
            have fd1 := Kd.out.facts.2.1
            have fq0 := Kq.out.facts.1
            have fq1 := Kq.out.facts.2.1
            have fx0 := Kx.out.facts.1
            have fx1 := Kx.out.facts.2.1
            have fy0 := Ky.out.facts.1
            have fy1 := Ky.out.facts.2.1
            go_wp2_with fail
            refine (cmp_same _ _ (a + 1) (a + 1) (max (268 + 268) 3 + 1) 268 _ rfl Nq.out Nb.out (by omega) (by omega)).mono ?_
            rintro e w114 ⟨rfl, hb⟩
            replace HE := hidden (HE.out.below hb)
            clear fa0 fa1 fb0 fb1 fc0 fc1 fd0 fd1 fq0 fq1 fx0 fx1 fy0 fy1
            replace Na := hidden (Na.out.below hb)
            replace Nb := hidden (Nb.out.below hb)
            replace Nc := hidden (Nc.out.below hb)
            replace Nd := hidden (Nd.out.below hb)
            replace Nq := hidden (Nq.out.below hb)
            replace Ka := hidden (Ka.out.below hb Ka.out.lt)
            replace Kb := hidden (Kb.out.below hb Kb.out.lt)
            replace Kc := hidden (Kc.out.below hb Kc.out.lt)
            replace Kd := hidden (Kd.out.below hb Kd.out.lt)
            replace Kq := hidden (Kq.out.below hb Kq.out.lt)
            replace Kx := hidden (Kx.out.below hb Kx.out.lt)
            replace Ky := hidden (Ky.out.below hb Ky.out.lt)
            replace HB := hidden (HB.out.trans (hb.mono HB.out.size))
            replace HT := hidden (HT.out.below hb)
            clear hb
            have fa0 := Ka.out.facts.1
            have fa1 := Ka.out.facts.2.1
            have fb0 := Kb.out.facts.1
            have fb1 := Kb.out.facts.2.1
            have fc0 := Kc.out.facts.1
            have fc1 := Kc.out.facts.2.1
            have fd0 := Kd.out.facts.1
            have fd1 := Kd.out.facts.2.1
            have fq0 := Kq.out.facts.1
            have fq1 := Kq.out.facts.2.1
            have fx0 := Kx.out.facts.1
            have fx1 := Kx.out.facts.2.1
            have fy0 := Ky.out.facts.1
            have fy1 := Ky.out.facts.2.1
            go_wp2_with fail
            refine (is_shape _ HE.out).mono ?_
            rintro e w115 ⟨rfl, hb⟩
            replace HE := hidden (HE.out.below hb)
            clear fa0 fa1 fb0 fb1 fc0 fc1 fd0 fd1 fq0 fq1 fx0 fx1 fy0 fy1
            replace Na := hidden (Na.out.below hb)
            replace Nb := hidden (Nb.out.below hb)
            replace Nc := hidden (Nc.out.below hb)
            replace Nd := hidden (Nd.out.below hb)
            replace Nq := hidden (Nq.out.below hb)
            replace Ka := hidden (Ka.out.below hb Ka.out.lt)
            replace Kb := hidden (Kb.out.below hb Kb.out.lt)
            replace Kc := hidden (Kc.out.below hb Kc.out.lt)
            replace Kd := hidden (Kd.out.below hb Kd.out.lt)
            replace Kq := hidden (Kq.out.below hb Kq.out.lt)
            replace Kx := hidden (Kx.out.below hb Kx.out.lt)
            replace Ky := hidden (Ky.out.below hb Ky.out.lt)
            replace HB := hidden (HB.out.trans (hb.mono HB.out.size))
            replace HT := hidden (HT.out.below hb)
            clear hb
            have fa0 := Ka.out.facts.1
            have fa1 := Ka.out.facts.2.1
            have fb0 := Kb.out.facts.1
            have fb1 := Kb.out.facts.2.1
            have fc0 := Kc.out.facts.1
            have fc1 := Kc.out.facts.2.1
            have fd0 := Kd.out.facts.1
            have fd1 := Kd.out.facts.2.1
            have fq0 := Kq.out.facts.1
            have fq1 := Kq.out.facts.2.1
            have fx0 := Kx.out.facts.1
            have fx1 := Kx.out.facts.2.1
            have fy0 := Ky.out.facts.1
            have fy1 := Ky.out.facts.2.1
            go_wp2_with fail
            refine (is_shape _ HE.out).mono ?_
            rintro e w116 ⟨rfl, hb⟩
            replace HE := hidden (HE.out.below hb)
            clear fa0 fa1 fb0 fb1 fc0 fc1 fd0 fd1 fq0 fq1 fx0 fx1 fy0 fy1
            replace Na := hidden (Na.out.below hb)
            replace Nb := hidden (Nb.out.below hb)
            replace Nc := hidden (Nc.out.below hb)
            replace Nd := hidden (Nd.out.below hb)
            replace Nq := hidden (Nq.out.below hb)
            replace Ka := hidden (Ka.out.below hb Ka.out.lt)
            replace Kb := hidden (Kb.out.below hb Kb.out.lt)
            replace Kc := hidden (Kc.out.below hb Kc.out.lt)
            replace Kd := hidden (Kd.out.below hb Kd.out.lt)
            replace Kq := hidden (Kq.out.below hb Kq.out.lt)
            replace Kx := hidden (Kx.out.below hb Kx.out.lt)
            replace Ky := hidden (Ky.out.below hb Ky.out.lt)
            replace HB := hidden (HB.out.trans (hb.mono HB.out.size))
            replace HT := hidden (HT.out.below hb)
            clear hb
            have fa0 := Ka.out.facts.1
            have fa1 := Ka.out.facts.2.1
            have fb0 := Kb.out.facts.1
            have fb1 := Kb.out.facts.2.1
            have fc0 := Kc.out.facts.1
            have fc1 := Kc.out.facts.2.1
            have fd0 := Kd.out.facts.1
            have fd1 := Kd.out.facts.2.1
            have fq0 := Kq.out.facts.1
            have fq1 := Kq.out.facts.2.1
            have fx0 := Kx.out.facts.1
            have fx1 := Kx.out.facts.2.1
            have fy0 := Ky.out.facts.1
            have fy1 := Ky.out.facts.2.1
            go_wp2
            go_ret
            exact ⟨rfl, HB.out⟩
end Nm
end Go.Proofs.YtapdkibiegeijaaDoor
