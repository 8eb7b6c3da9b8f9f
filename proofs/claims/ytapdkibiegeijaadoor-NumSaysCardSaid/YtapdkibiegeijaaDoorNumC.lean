/- num.product: a new row of parts. Conditions: the parts' cells hold them; fewer than 2^29 parts each. -/
import Derived.Test.YtapdkibiegeijaaDoorNumB
namespace Go.Proofs.YtapdkibiegeijaaDoor
open Go.RowKit
namespace Nm

theorem prod_lt {t x y c : Nat} (h1 : t < 1000000000) (h2 : x < 1000000000) (h3 : y < 1000000000) (h4 : c < 1000000000) : x * y ≤ 999999998000000001 ∧ (t + x * y + c) / 1000000000 < 1000000000 ∧ t + x * y + c < 18446744073709551616 := by
  have := Nat.mul_le_mul (show x ≤ 999999999 by omega) (show y ≤ 999999999 by omega)
  omega
set_option maxHeartbeats 3200000 in
theorem product_any (ao bo : Option Addr) (ac bc : Nat) (a b : List Nat) (w : World) (hla : a.length < 536870912) (hlb : b.length < 536870912) (ha : SrcN w ao a) (hb : SrcN w bo b) (da : Dig a) (db : Dig b) :
    Calls Tryd.prog 52 #[.slice ao a.length ac, .slice bo b.length bc] w fun e w' => Fresh w w' e (val a * val b) (a.length + b.length) := by
  obtain ⟨n, hn⟩ : ∃ n, a.length = n := ⟨_, rfl⟩
  obtain ⟨m, hm⟩ : ∃ m, b.length = m := ⟨_, rfl⟩
  rw [hn] at hla ⊢
  rw [hm] at hlb ⊢
  have HNA := hidden hn
  have HNB := hidden hm
  have HA := hidden ha
  have HB := hidden hb
  have HDA := hidden da
  have HDB := hidden db
  clear hn hm ha hb da db
  have hmk := make_u32 .i64 .i64 (n + m) (by omega) ((n : Int) + m) ((n : Int) + m) (by omega) (by omega)
  go_enter Tryd.func52, Tryd.ntmps52
  go_wp2
  have hrow := rowN_alloc w (List.replicate (n + m) 0)
  have HROW := hidden hrow
  clear hrow hmk
  go_loopw [20] (fun i wr => ∃ (k : Nat) (T : List Nat), k ≤ n ∧ i = .int .i64 k ∧ Hid (T.length = n + m) ∧ Hid (RowN wr w.heap.size T) ∧ Hid (Dig T) ∧ Hid (T.getD (k + m) 0 = 0 ∧ ∀ j, k + m ≤ j → T.getD j 0 = 0) ∧
    Hid (val T = val (a.take k) * val b) ∧ Hid (Below w.heap.size w wr)) (fun i _ => n - (intOf i).toNat)
  case atStart =>
    have hz : ∀ j, (List.replicate (n + m) 0).getD j 0 = 0 := fun j => by rw [List.getD_eq_getElem?_getD, List.getElem?_replicate]; split <;> rfl
    exact ⟨0, _, Nat.zero_le _, rfl, hidden (by rw [List.length_replicate]), HROW, hidden (dig_zeros _), hidden ⟨hz _, fun j _ => hz j⟩, hidden (by rw [val_zeros, List.take_zero]; simp [val]), hidden ((Below.refl _ _).alloc (Nat.le_refl _) _)⟩
  case round =>
    obtain ⟨k, T, hk, rfl, hT, hR, hD, hZ, hv, hbl⟩ := hrel
    clear HROW
    by_cases hlt : k < n
    · obtain ⟨ak, af, rfl, hca⟩ := (HA.out.below hbl.out).get k (by rw [HNA.out]; exact hlt)
      have hxl := dig_get HDA.out k
      obtain ⟨x, hx⟩ : ∃ x, a.getD k 0 = x := ⟨_, rfl⟩
      rw [hx] at hca hxl
      have HX := hidden hx
      clear hx
      go_wp2
      obtain ⟨wi, hwi⟩ : ∃ wi, wi = wr := ⟨_, rfl⟩
      rw [← hwi] at hbl hR ⊢
      clear hwi hca
      go_loopw [8, 27] (fun c i wr => ∃ (j cr : Nat) (T : List Nat), j ≤ m ∧ i = .int .i64 j ∧ c = .int .u64 cr ∧ cr < 1000000000 ∧ Hid (T.length = n + m) ∧ Hid (RowN wr w.heap.size T) ∧ Hid (Dig T) ∧ Hid (∀ j, k + m ≤ j → T.getD j 0 = 0) ∧
        Hid (val T + pw (k + j) * cr = val (a.take k) * val b + pw k * (x * val (b.take j))) ∧ Hid (Below w.heap.size w wr)) (fun _ i _ => m - (intOf i).toNat)
      case atStart => exact ⟨0, 0, T, Nat.zero_le _, rfl, rfl, by omega, hT, hR, hD, hidden hZ.out.2, hidden (by rw [hv.out, List.take_zero]; simp [val]), hbl⟩
      case round =>
        clear hT hR hD hZ hv hbl
        obtain ⟨j, cr, T, hj, rfl, rfl, hcr, hT, hR, hD, hZ, hv, hbl⟩ := hrel
        by_cases hlm : j < m
        · obtain ⟨bk, bf, rfl, hcb⟩ := (HB.out.below hbl.out).get j (by rw [HNB.out]; exact hlm)
          have hyl := dig_get HDB.out j
          obtain ⟨y, hy⟩ : ∃ y, b.getD j 0 = y := ⟨_, rfl⟩
          rw [hy] at hcb hyl
          have HY := hidden hy
          have hfr := hR.out.frozen (k + j)
          have hto := hR.out.cell (k + j) (by rw [hT.out]; omega)
          have htl := dig_get hD.out (k + j)
          obtain ⟨t, ht⟩ : ∃ x, T.getD (k + j) 0 = x := ⟨_, rfl⟩
          rw [ht] at hto htl
          have HT := hidden ht
          obtain ⟨p1, p2, p3⟩ := prod_lt htl hxl hyl hcr
          obtain ⟨p, hp⟩ : ∃ p, x * y = p := ⟨_, rfl⟩
          rw [hp] at p1 p2 p3
          have hpi : (x : Int) * (y : Int) = (p : Int) := by rw [← hp]; exact (Int.natCast_mul x y).symm
          have HP := hidden hp
          clear hy ht hp
          go_wp2
          go_roundw
          case rel =>
            refine ⟨j + 1, (t + p + cr) / 1000000000, T.set (k + j) ((t + p + cr) % 1000000000), by omega, by go_num, by go_num, p2, hidden (by rw [List.length_set]; exact hT.out), ?_, hidden (dig_set hD.out _ _ (by omega)), hidden (fun i hi => ?_), hidden ?_, hidden (hbl.out.setCell (Nat.le_refl _) _)⟩
            · have := hR.out.set (k + j) ((t + p + cr) % 1000000000)
              rw [sum_cast] at this
              exact hidden this
            · rw [getD_set_ne _ _ _ _ (by omega)]
              exact hZ.out i hi
            · rw [val_take, HY.out, ← Nat.add_assoc, pw_succ]
              have hs := val_set T (k + j) ((t + p + cr) % 1000000000) (by rw [hT.out]; omega)
              rw [HT.out] at hs
              exact prod_step (pw_add k j) hv.out hs (by rw [HP.out]; omega)
          case measure => simp [intOf]; omega
        · obtain rfl : j = m := by omega
          have hfr := hR.out.frozen (k + j)
          have hto := hR.out.cell (k + j) (by rw [hT.out]; omega)
          rw [hZ.out (k + j) (Nat.le_refl _)] at hto
          go_wp2
          go_roundw
          case rel =>
            refine ⟨k + 1, T.set (k + j) cr, by omega, by go_num, hidden (by rw [List.length_set]; exact hT.out), hidden (hR.out.set (k + j) cr), hidden (dig_set hD.out _ _ hcr), hidden ⟨?_, fun i hi => ?_⟩, hidden ?_, hidden (hbl.out.setCell (Nat.le_refl _) _)⟩
            · rw [getD_set_ne _ _ _ _ (by omega)]
              exact hZ.out _ (by omega)
            · rw [getD_set_ne _ _ _ _ (by omega)]
              exact hZ.out i (by omega)
            · have hs := val_set T (k + j) cr (by rw [hT.out]; omega)
              rw [hZ.out (k + j) (Nat.le_refl _)] at hs
              have hv2 := hv.out
              rw [show b.take j = b from List.take_of_length_le (by rw [HNB.out]; omega)] at hv2
              rw [val_take, HX.out, Nat.add_mul, Nat.mul_assoc]
              omega
          case measure => simp [intOf]; omega
    · obtain rfl : k = n := by omega
      go_wp2
      go_ret
      have e2 := hv.out
      rw [show a.take k = a from List.take_of_length_le (by rw [HNA.out]; omega)] at e2
      exact ⟨w.heap.size, T, hT.out, rfl, Nat.le_refl _, hR.out, hD.out, e2, hbl.out⟩
end Nm
end Go.Proofs.YtapdkibiegeijaaDoor
