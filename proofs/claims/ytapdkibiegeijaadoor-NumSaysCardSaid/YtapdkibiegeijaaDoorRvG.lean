/- The document's Mul. Conditions: short numbers. -/
import Derived.Test.YtapdkibiegeijaaDoorRvC
import Derived.Deep.Cut
namespace Go.Proofs.YtapdkibiegeijaaDoor
open Go.RowKit
namespace Rv

theorem set_get (l : List Nat) (i j d : Nat) (h : i ≠ j) : (l.set i d).getD j 0 = l.getD j 0 := by
  rw [List.getD_eq_getElem?_getD, List.getElem?_set_ne h, ← List.getD_eq_getElem?_getD]
set_option maxRecDepth 100000 in
set_option maxHeartbeats 6400000 in
theorem mul_any (a b : Value) (x y : Int) (k m : Nat) (w : World) (ha : NumAt w a x k) (hb : NumAt w b y m) (hk : k < 1000000) (hm : m < 1000000) :
    Calls Tryd.prog 24 #[a, b] w fun e w' => IsNum w w' e (x * y) (k + m + 1) := by
  obtain ⟨na, ao, ac, la, rfl, hac, hsa, hda, hta, hla, hpa, rfl⟩ := ha
  obtain ⟨nb, bo, bc, lb, rfl, hbc, hsb, hdb, htb, hlb, hpb, rfl⟩ := hb
  have hbx := boxes_new w (.bool na) (.slice ao la.length ac) (.bool nb) (.slice bo lb.length bc)
  have HSA := hidden hsa
  have HSB := hidden hsb
  have HDA := hidden hda
  have HDB := hidden hdb
  obtain ⟨n, hn⟩ : ∃ n, la.length = n := ⟨_, rfl⟩
  obtain ⟨n2, hn2⟩ : ∃ n, lb.length = n := ⟨_, rfl⟩
  rw [hn] at hbx hla hac ⊢
  rw [hn2] at hbx hlb hbc ⊢
  have HNA := hidden hn
  have HNB := hidden hn2
  clear hsa hsb hda hdb hta htb hpa hpb hn hn2
  have hmk := make_i64 .i64 .i64 (n + n2 + 1) (by omega) ((n : Int) + n2 + 1) ((n : Int) + n2 + 1) (by omega) (by omega)
  go_enter Tryd.func24, Tryd.ntmps24
  go_upto_region 1 with fail
  have HBX := hidden hbx
  clear hbx
  generalize ((w.alloc (.cells #[.bool na, .slice ao n ac] 28)).alloc (.cells #[.bool nb, .slice bo n2 bc] 28)).alloc (.cells #[.bool false, .slice none 0 0] 28) = W0 at HBX ⊢
  obtain ⟨k0, k1, k2, k3, _, _⟩ := HBX.out.cells W0 (Below.refl _ _)
  go_wp2
  have hg3 := HBX.out.size
  have HROW := hidden (rowN_alloc W0 (List.replicate (n + n2 + 1) 0))
  have HBW := hidden ((Below.refl W0.heap.size W0).alloc (Nat.le_refl _) (.cells (ncells (List.replicate (n + n2 + 1) 0)) 3))
  have HSA0 := hidden (HSA.out.below HBX.out.below)
  have HSB0 := hidden (HSB.out.below HBX.out.below)
  clear hmk k0 k1 k2 k3 HSA HSB
  obtain ⟨g, hg⟩ : ∃ g, W0.heap.size = g := ⟨_, rfl⟩
  rw [hg] at HROW hg3 HBW ⊢
  have HG := hidden hg
  clear hg
  go_loopw [6, 7, 8, 9] (fun i _ _ _ wr => ∃ (k : Nat) (T : List Nat), k ≤ n ∧ i = .int .i64 (k : Int) ∧ Hid (T.length = n + n2 + 1) ∧ Hid (RowN wr g T) ∧ Hid (Dig T) ∧ Hid (∀ j, k + n2 ≤ j → T.getD j 0 = 0) ∧
    Hid (val T = val (la.take k) * val lb) ∧ Hid (Below g W0 wr)) (fun i _ _ _ _ => n - (intOf i).toNat)
  case atStart =>
    have hz : ∀ j, (List.replicate (n + n2 + 1) 0).getD j 0 = 0 := fun j => by rw [List.getD_eq_getElem?_getD, List.getElem?_replicate]; split <;> rfl
    exact ⟨0, _, Nat.zero_le _, rfl, hidden (by rw [List.length_replicate]), HROW, hidden (dig_zeros _), hidden (fun j _ => hz j), hidden (by rw [val_zeros, List.take_zero]; simp [val]), HBW⟩
  case round =>
    obtain ⟨wi, rfl⟩ : ∃ x, x = wr := ⟨_, rfl⟩
    obtain ⟨k1, T, hk1, rfl, hT, hR, hD, hZ, hv, hbl⟩ := hrel
    clear HROW HBW
    have hbg : Below W0.heap.size W0 wi := by rw [HG.out]; exact hbl.out
    have HBG := hidden hbg
    clear hbg
    obtain ⟨q0, q1, q2, q3, _, _⟩ := (HBX.out.more HBG.out).cells wi (Below.refl _ _)
    by_cases hlt : k1 < n
    · obtain ⟨ak, af, rfl, hca⟩ := (HSA0.out.below HBG.out).get k1 (by rw [HNA.out]; exact hlt)
      have hxl := dig_get HDA.out k1
      obtain ⟨x, hx⟩ : ∃ x, la.getD k1 0 = x := ⟨_, rfl⟩
      rw [hx] at hca hxl
      have HX := hidden hx
      clear hx
      go_wp2
      clear hca q0 q1 q2 q3
      go_loopw [7, 8, 9] (fun c i _ wr => ∃ (j cr : Nat) (T : List Nat), j ≤ n2 + 1 ∧ i = .int .i64 (j : Int) ∧ c = .int .i64 (cr : Int) ∧ cr < 10000 ∧ (j = n2 + 1 → cr = 0) ∧ Hid (T.length = n + n2 + 1) ∧ Hid (RowN wr g T) ∧ Hid (Dig T) ∧ Hid (∀ i, k1 + n2 < i → T.getD i 0 = 0) ∧
        Hid (j ≤ n2 → T.getD (k1 + n2) 0 = 0) ∧ Hid (val T + pw (k1 + j) * cr = val (la.take k1) * val lb + pw k1 * (x * val (lb.take j))) ∧ Hid (Below g W0 wr)) (fun _ i _ _ => n2 + 1 - (intOf i).toNat)
      case atStart => exact ⟨0, 0, T, by omega, rfl, rfl, by omega, fun _ => rfl, hT, hR, hD, hidden (fun j hj => hZ.out j (by omega)), hidden (fun _ => hZ.out _ (Nat.le_refl _)), hidden (by rw [hv.out, List.take_zero]; simp [val]), hbl⟩
      case round =>
        clear hT hR hD hZ hv hbl
        obtain ⟨j, cr, T, hj, rfl, rfl, hcr, hj1, hT, hR, hD, hZ, hZ2, hv, hbl⟩ := hrel
        have hbg : Below W0.heap.size W0 wr := by rw [HG.out]; exact hbl.out
        obtain ⟨q0, q1, q2, q3, _, _⟩ := (HBX.out.more hbg).cells wr (Below.refl _ _)
        have HBG2 := hidden hbg
        clear hbg
        by_cases hlm : j < n2
        · obtain ⟨bk, bf, rfl, hcb⟩ := (HSB0.out.below HBG2.out).get j (by rw [HNB.out]; exact hlm)
          obtain ⟨ak2, af2, hae, hca⟩ := (HSA0.out.below HBG2.out).get k1 (by rw [HNA.out]; exact hlt)
          injection hae with hae
          injection hae with hae1 hae2
          subst hae1 hae2
          rw [HX.out] at hca
          have hyl := dig_get HDB.out j
          obtain ⟨y, hy⟩ : ∃ y, lb.getD j 0 = y := ⟨_, rfl⟩
          rw [hy] at hcb hyl
          have HY := hidden hy
          have hfr := hR.out.frozen (k1 + j)
          have hto := hR.out.cell (k1 + j) (by rw [hT.out]; omega)
          have htl := dig_get hD.out (k1 + j)
          obtain ⟨t, ht⟩ : ∃ x, T.getD (k1 + j) 0 = x := ⟨_, rfl⟩
          rw [ht] at hto htl
          have HT := hidden ht
          obtain ⟨p, hp⟩ : ∃ p, x * y = p := ⟨_, rfl⟩
          have hpl : p ≤ 9999 * 9999 := by rw [← hp]; exact Nat.mul_le_mul (by omega) (by omega)
          have hpi : (x : Int) * (y : Int) = (p : Int) := by rw [← hp]; exact (Int.natCast_mul x y).symm
          have HP := hidden hp
          obtain ⟨r, hr⟩ : ∃ r, (t + cr + p) % 10000 = r := ⟨_, rfl⟩
          obtain ⟨q, hq⟩ : ∃ q, (t + cr + p) / 10000 = q := ⟨_, rfl⟩
          have hri : Int.tmod ((t : Int) + (cr : Int) + (p : Int)) 10000 = (r : Int) := by rw [← hr, ← tm]; simp
          have hqi : Int.tdiv ((t : Int) + (cr : Int) + (p : Int)) 10000 = (q : Int) := by rw [← hq, ← td]; simp
          have HS := hidden (show t + p + cr = r + 10000 * q by omega)
          have hrl : r < 10000 := by omega
          have hql : q < 10000 := by omega
          clear hy ht hp hr hq
          go_wp2
          go_quiet (fail)
          go_wp2
          go_roundw
          case rel =>
            refine ⟨j + 1, q, T.set (k1 + j) r, by omega, by go_num, rfl, hql, fun h => by omega, hidden (by rw [List.length_set]; exact hT.out), ?_, hidden (dig_set hD.out _ _ hrl), hidden (fun i hi => by rw [set_get _ _ _ _ (by omega)]; exact hZ.out i hi), hidden (fun _ => by rw [set_get _ _ _ _ (by omega)]; exact hZ2.out (by omega)), hidden ?_, ?_⟩
            · exact hidden (RowN.set (show RowN (wr.drewN _) g T from hR.out) (k1 + j) r)
            · have e := val_set T (k1 + j) r (by rw [hT.out]; omega)
              rw [HT.out] at e
              rw [show k1 + (j + 1) = k1 + j + 1 by omega, pw_succ, val_take, HY.out]
              exact prod_step (pw_add k1 j) hv.out e (by rw [HP.out]; exact HS.out)
            · exact hidden ((below_drewN hbl.out _).setCell (p := ⟨g, k1 + j, none⟩) (Nat.le_refl _) _)
          case measure => simp [intOf]; omega
        · by_cases hc0 : 0 < cr
          · obtain rfl : j = n2 := by
              rcases Nat.lt_or_ge n2 j with h | h
              · have := hj1 (by omega); omega
              · omega
            have hfr := hR.out.frozen (k1 + j)
            have hto := hR.out.cell (k1 + j) (by rw [hT.out]; omega)
            have ht0 := hZ2.out (Nat.le_refl _)
            rw [ht0] at hto
            have HT := hidden ht0
            have hri : Int.tmod (cr : Int) 10000 = (cr : Int) := by rw [tm, Nat.mod_eq_of_lt hcr]
            have hqi : Int.tdiv (cr : Int) 10000 = 0 := by rw [td, Nat.div_eq_of_lt hcr]; try rfl
            clear ht0
            simp only [Int.natCast_zero] at hto
            go_wp2
            go_roundw
            case rel =>
              refine ⟨j + 1, 0, T.set (k1 + j) cr, by omega, by go_num, rfl, by omega, fun h => rfl, hidden (by rw [List.length_set]; exact hT.out), hidden (hR.out.set (k1 + j) cr), hidden (dig_set hD.out _ _ hcr), hidden (fun i hi => by rw [set_get _ _ _ _ (by omega)]; exact hZ.out i hi), hidden (fun h => by omega), hidden ?_, hidden (hbl.out.setCell (p := ⟨g, k1 + j, none⟩) (Nat.le_refl _) _)⟩
              have e := val_set T (k1 + j) cr (by rw [hT.out]; omega)
              rw [HT.out] at e
              have h1 := hv.out
              rw [List.take_of_length_le (show lb.length ≤ j by rw [HNB.out]; omega)] at h1
              rw [List.take_of_length_le (show lb.length ≤ j + 1 by rw [HNB.out]; omega)]
              omega
            case measure => first | (simp [intOf]; done) | (simp [intOf]; omega)
          · obtain rfl : cr = 0 := by omega
            have hjn : n2 ≤ j := by omega
            go_wp2
            go_roundw
            case rel =>
              refine ⟨k1 + 1, T, by omega, by go_num, hT, hR, hD, hidden (fun i hi => hZ.out i (by omega)), hidden ?_, hbl⟩
              have e := hv.out
              rw [List.take_of_length_le (show lb.length ≤ j by rw [HNB.out]; omega), Nat.mul_zero, Nat.add_zero] at e
              rw [e, val_take, HX.out]
              grind
            case measure => simp [intOf]; omega
    · obtain rfl : k1 = n := by omega
      have HRR := hidden ((HBX.out.more HBG.out).r)
      have HT1 := hidden (trim_any (!(na == nb)) (some ⟨g, 0, none⟩) (k1 + n2 + 1) (k1 + n2 + 1) T wi hT.out (by omega) (Nat.le_refl _) hR.out.src hD.out)
      have hW0 : w.heap.size ≤ W0.heap.size := by rw [HG.out]; omega
      have hgs : w.heap.size + 3 ≤ wi.heap.size := (HBX.out.more HBG.out).size
      go_wp2_with fail
      refine HT1.out.mono ?_
      rintro e w2 ⟨v, rfl, hN, hb2⟩
      have HN := hidden hN
      obtain ⟨n3, a3, c3, l3, rfl, _⟩ := hN
      have hr2 := (show Blk w2 (w.heap.size + 1 + 1) _ _ from HRR.out.below hb2 (by omega))
      obtain ⟨f0, f1, f2, f3⟩ := hr2.facts
      have hst := (Blk.set hr2 (.bool n3) (.slice a3 l3.length c3)).facts
      obtain ⟨g1, g2⟩ := numAt_stored (w := w) (HBX.out.below.trans ((HBG.out.mono hW0).trans (hb2.mono (by omega)))) (by omega) hr2 HN.out
      have HG1 := hidden g1
      have HG2 := hidden g2
      have HST := hidden hst
      have HV := hidden hv.out
      clear hst g1 g2 hr2 hb2 hv
      go_wp2
      refine bodyPost_ret (v := .agg #[.bool n3, .slice a3 l3.length c3]) (by simp [results, Tryd.results24, go_sem, HST.out.1, HST.out.2.1]) rfl ⟨_, rfl, ?_, HG2.out⟩
      have e := HG1.out
      have e2 := HV.out
      rw [List.take_of_length_le (by rw [HNA.out]; omega)] at e2
      rw [← sgnv_mul, ← e2]
      exact e.mono (by omega)
end Rv
end Go.Proofs.YtapdkibiegeijaaDoor
