/- num.sum, num.difference: new rows of parts. Conditions: the parts' cells hold them; fewer than 2^30 parts; of a difference, that it is none below 0. -/
import Derived.Test.YtapdkibiegeijaaDoorNumA
namespace Go.Proofs.YtapdkibiegeijaaDoor
open Go.RowKit
namespace Nm

/-- A new row of n parts that comes to z. -/
def Fresh (w w' : World) (e : Ending) (z n : Nat) : Prop := ∃ g T, T.length = n ∧ e = .returned (.slice (some ⟨g, 0, none⟩) n n) ∧ w.heap.size ≤ g ∧ RowN w' g T ∧ Dig T ∧ val T = z ∧ Below w.heap.size w w'
theorem sum_cast (x c y : Nat) : (((x + c + y) % 1000000000 : Nat) : Int) = ((x : Int) + c + y) % 1000000000 := by omega
theorem set_take (T : List Nat) (k d : Nat) (h : k < T.length) : val ((T.set k d).take (k + 1)) = val (T.take k) + pw k * d := by
  rw [val_take, take_set, getD_set_self _ _ _ h]

set_option maxHeartbeats 3200000 in
theorem sum_any (ao bo : Option Addr) (ac bc : Nat) (a b : List Nat) (w : World) (hla : a.length < 536870912) (hlb : b.length < 536870912) (ha : SrcN w ao a) (hb : SrcN w bo b) (da : Dig a) (db : Dig b) :
    Calls Tryd.prog 46 #[.slice ao a.length ac, .slice bo b.length bc] w fun e w' => Fresh w w' e (val a + val b) (max a.length b.length + 1) := by
  obtain ⟨n, hn⟩ : ∃ n, a.length = n := ⟨_, rfl⟩
  obtain ⟨m, hm⟩ : ∃ m, b.length = m := ⟨_, rfl⟩
  rw [hn] at hla ⊢
  rw [hm] at hlb ⊢
  have HNA := hidden hn
  have HNB := hidden hm
  have HA := hidden ha
  have HB := hidden hb
  have HDA := hidden da
  have HDB := hidden db
  clear hn hm ha hb da db
  by_cases hs : n < m
  · rw [Nat.max_eq_right (by omega)]
    have hmk := make_u32 .i64 .i64 (m + 1) (by omega) ((m : Int) + 1) ((m : Int) + 1) (by omega) (by omega)
    go_enter Tryd.func46, Tryd.ntmps46
    go_wp2
    have hrow := rowN_alloc w (List.replicate (m + 1) 0)
    have HROW := hidden hrow
    clear hrow hmk
    go_loopw [6, 22] (fun c i wr => ∃ (k cr : Nat) (T : List Nat), k ≤ m ∧ i = .int .i64 k ∧ c = .int .u32 cr ∧ cr ≤ 1 ∧ Hid (T.length = m + 1) ∧ Hid (RowN wr w.heap.size T) ∧ Hid (Dig T) ∧
      Hid (val (T.take k) + pw k * cr = val (b.take k) + val (a.take k)) ∧ Hid (Below w.heap.size w wr)) (fun _ i _ => m - (intOf i).toNat)
    case atStart => exact ⟨0, 0, _, Nat.zero_le _, rfl, rfl, by omega, hidden (by rw [List.length_replicate]), HROW, hidden (dig_zeros _), hidden rfl, hidden ((Below.refl _ _).alloc (Nat.le_refl _) _)⟩
    case round =>
      obtain ⟨k, cr, T, hk, rfl, rfl, hcr, hT, hR, hD, hv, hbl⟩ := hrel
      clear HROW
      by_cases hlt : k < m
      · obtain ⟨ak, af, rfl, hca⟩ := (HB.out.below hbl.out).get k (by rw [HNB.out]; exact hlt)
        have hxl := dig_get HDB.out k
        obtain ⟨x, hx⟩ : ∃ x, b.getD k 0 = x := ⟨_, rfl⟩
        rw [hx] at hca hxl
        have HX := hidden hx
        clear hx
        have hfr := hR.out.frozen k
        have hto := hR.out.cell k (by rw [hT.out]; omega)
        obtain ⟨old, hold⟩ : ∃ x, T.getD k 0 = x := ⟨_, rfl⟩
        rw [hold] at hto
        clear hold
        by_cases hlm : k < n
        · obtain ⟨bk, bf, rfl, hcb⟩ := (HA.out.below hbl.out).get k (by rw [HNA.out]; exact hlm)
          have hyl := dig_get HDA.out k
          obtain ⟨y, hy⟩ : ∃ y, a.getD k 0 = y := ⟨_, rfl⟩
          rw [hy] at hcb hyl
          have HY := hidden hy
          clear hy
          go_wp2
          go_roundw
          case rel =>
            refine ⟨k + 1, (x + cr + y) / 1000000000, T.set k ((x + cr + y) % 1000000000), by omega, by go_num, by go_num, by omega, hidden (by rw [List.length_set]; exact hT.out), ?_, hidden (dig_set hD.out _ _ (by omega)), hidden ?_, hidden (hbl.out.setCell (Nat.le_refl _) _)⟩
            · have := hR.out.set k ((x + cr + y) % 1000000000)
              rw [sum_cast] at this
              exact hidden this
            · rw [set_take _ _ _ (by rw [hT.out]; omega), val_take, val_take, HX.out, HY.out, pw_succ]
              exact sum_step hv.out (by omega)
          case measure => simp [intOf]; omega
        · have hY : Hid (a.getD k 0 = 0) := hidden (by rw [List.getD_eq_getElem?_getD, List.getElem?_eq_none (by rw [HNA.out]; omega)]; rfl)
          go_wp2
          go_roundw
          case rel =>
            refine ⟨k + 1, (x + cr + 0) / 1000000000, T.set k ((x + cr + 0) % 1000000000), by omega, by go_num, by go_num, by omega, hidden (by rw [List.length_set]; exact hT.out), ?_, hidden (dig_set hD.out _ _ (by omega)), hidden ?_, hidden (hbl.out.setCell (Nat.le_refl _) _)⟩
            · have := hR.out.set k ((x + cr + 0) % 1000000000)
              rw [sum_cast] at this
              simp only [Int.natCast_zero, Int.add_zero] at this
              exact hidden this
            · rw [set_take _ _ _ (by rw [hT.out]; omega), val_take, val_take, HX.out, hY.out, pw_succ]
              exact sum_step hv.out (by omega)
          case measure => simp [intOf]; omega
      · obtain rfl : k = m := by omega
        have hfr := hR.out.frozen k
        have hto := hR.out.cell k (by rw [hT.out]; omega)
        obtain ⟨old, hold⟩ : ∃ x, T.getD k 0 = x := ⟨_, rfl⟩
        rw [hold] at hto
        clear hold
        go_wp2
        go_ret
        refine ⟨w.heap.size, T.set k cr, by rw [List.length_set]; exact hT.out, rfl, Nat.le_refl _, hR.out.set k cr, dig_set hD.out _ _ (by omega), ?_, hbl.out.setCell (Nat.le_refl _) _⟩
        have e1 := set_take T k cr (by rw [hT.out]; omega)
        rw [List.take_of_length_le (by rw [List.length_set, hT.out]; omega)] at e1
        have e2 := hv.out
        rw [show b.take k = b from List.take_of_length_le (by rw [HNB.out]; omega), show a.take k = a from List.take_of_length_le (by rw [HNA.out]; omega)] at e2
        omega
  · rw [Nat.max_eq_left (by omega)]
    have hmk := make_u32 .i64 .i64 (n + 1) (by omega) ((n : Int) + 1) ((n : Int) + 1) (by omega) (by omega)
    go_enter Tryd.func46, Tryd.ntmps46
    go_wp2
    have hrow := rowN_alloc w (List.replicate (n + 1) 0)
    have HROW := hidden hrow
    clear hrow hmk
    go_loopw [6, 22] (fun c i wr => ∃ (k cr : Nat) (T : List Nat), k ≤ n ∧ i = .int .i64 k ∧ c = .int .u32 cr ∧ cr ≤ 1 ∧ Hid (T.length = n + 1) ∧ Hid (RowN wr w.heap.size T) ∧ Hid (Dig T) ∧
      Hid (val (T.take k) + pw k * cr = val (a.take k) + val (b.take k)) ∧ Hid (Below w.heap.size w wr)) (fun _ i _ => n - (intOf i).toNat)
    case atStart => exact ⟨0, 0, _, Nat.zero_le _, rfl, rfl, by omega, hidden (by rw [List.length_replicate]), HROW, hidden (dig_zeros _), hidden rfl, hidden ((Below.refl _ _).alloc (Nat.le_refl _) _)⟩
    case round =>
      obtain ⟨k, cr, T, hk, rfl, rfl, hcr, hT, hR, hD, hv, hbl⟩ := hrel
      clear HROW
      by_cases hlt : k < n
      · obtain ⟨ak, af, rfl, hca⟩ := (HA.out.below hbl.out).get k (by rw [HNA.out]; exact hlt)
        have hxl := dig_get HDA.out k
        obtain ⟨x, hx⟩ : ∃ x, a.getD k 0 = x := ⟨_, rfl⟩
        rw [hx] at hca hxl
        have HX := hidden hx
        clear hx
        have hfr := hR.out.frozen k
        have hto := hR.out.cell k (by rw [hT.out]; omega)
        obtain ⟨old, hold⟩ : ∃ x, T.getD k 0 = x := ⟨_, rfl⟩
        rw [hold] at hto
        clear hold
        by_cases hlm : k < m
        · obtain ⟨bk, bf, rfl, hcb⟩ := (HB.out.below hbl.out).get k (by rw [HNB.out]; exact hlm)
          have hyl := dig_get HDB.out k
          obtain ⟨y, hy⟩ : ∃ y, b.getD k 0 = y := ⟨_, rfl⟩
          rw [hy] at hcb hyl
          have HY := hidden hy
          clear hy
          go_wp2
          go_roundw
          case rel =>
            refine ⟨k + 1, (x + cr + y) / 1000000000, T.set k ((x + cr + y) % 1000000000), by omega, by go_num, by go_num, by omega, hidden (by rw [List.length_set]; exact hT.out), ?_, hidden (dig_set hD.out _ _ (by omega)), hidden ?_, hidden (hbl.out.setCell (Nat.le_refl _) _)⟩
            · have := hR.out.set k ((x + cr + y) % 1000000000)
              rw [sum_cast] at this
              exact hidden this
            · rw [set_take _ _ _ (by rw [hT.out]; omega), val_take, val_take, HX.out, HY.out, pw_succ]
              exact sum_step hv.out (by omega)
          case measure => simp [intOf]; omega
        · have hY : Hid (b.getD k 0 = 0) := hidden (by rw [List.getD_eq_getElem?_getD, List.getElem?_eq_none (by rw [HNB.out]; omega)]; rfl)
          go_wp2
          go_roundw
          case rel =>
            refine ⟨k + 1, (x + cr + 0) / 1000000000, T.set k ((x + cr + 0) % 1000000000), by omega, by go_num, by go_num, by omega, hidden (by rw [List.length_set]; exact hT.out), ?_, hidden (dig_set hD.out _ _ (by omega)), hidden ?_, hidden (hbl.out.setCell (Nat.le_refl _) _)⟩
            · have := hR.out.set k ((x + cr + 0) % 1000000000)
              rw [sum_cast] at this
              simp only [Int.natCast_zero, Int.add_zero] at this
              exact hidden this
            · rw [set_take _ _ _ (by rw [hT.out]; omega), val_take, val_take, HX.out, hY.out, pw_succ]
              exact sum_step hv.out (by omega)
          case measure => simp [intOf]; omega
      · obtain rfl : k = n := by omega
        have hfr := hR.out.frozen k
        have hto := hR.out.cell k (by rw [hT.out]; omega)
        obtain ⟨old, hold⟩ : ∃ x, T.getD k 0 = x := ⟨_, rfl⟩
        rw [hold] at hto
        clear hold
        go_wp2
        go_ret
        refine ⟨w.heap.size, T.set k cr, by rw [List.length_set]; exact hT.out, rfl, Nat.le_refl _, hR.out.set k cr, dig_set hD.out _ _ (by omega), ?_, hbl.out.setCell (Nat.le_refl _) _⟩
        have e1 := set_take T k cr (by rw [hT.out]; omega)
        rw [List.take_of_length_le (by rw [List.length_set, hT.out]; omega)] at e1
        have e2 := hv.out
        rw [show a.take k = a from List.take_of_length_le (by rw [HNA.out]; omega), show b.take k = b from List.take_of_length_le (by rw [HNB.out]; omega)] at e2
        omega

theorem diff_d (x aw : Nat) (h : aw ≤ x) : ((x - aw : Nat) : Int) = (x : Int) - aw := by omega
set_option maxHeartbeats 3200000 in
theorem difference_any (ao bo : Option Addr) (ac bc : Nat) (a b : List Nat) (w : World) (hla : a.length < 536870912) (ha : SrcN w ao a) (hb : SrcN w bo b) (da : Dig a) (db : Dig b)
    (hle : b.length ≤ a.length) (hv : val b ≤ val a) :
    Calls Tryd.prog 48 #[.slice ao a.length ac, .slice bo b.length bc] w fun e w' => Fresh w w' e (val a - val b) a.length := by
  obtain ⟨n, hn⟩ : ∃ n, a.length = n := ⟨_, rfl⟩
  obtain ⟨m, hm⟩ : ∃ m, b.length = m := ⟨_, rfl⟩
  rw [hn] at hla hle ⊢
  rw [hm] at hle ⊢
  have hlb : m < 536870912 := by omega
  have HNA := hidden hn
  have HNB := hidden hm
  have HA := hidden ha
  have HB := hidden hb
  have HDA := hidden da
  have HDB := hidden db
  have HV := hidden hv
  clear hn hm ha hb da db hv
  have hmk := make_u32 .i64 .i64 n (by omega) (n : Int) (n : Int) (by omega) (by omega)
  go_enter Tryd.func48, Tryd.ntmps48
  go_wp2
  have hrow := rowN_alloc w (List.replicate n 0)
  have HROW := hidden hrow
  clear hrow hmk
  go_loopw [6, 15] (fun c i wr => ∃ (k cr : Nat) (T : List Nat), k ≤ n ∧ i = .int .i64 k ∧ c = .int .u32 cr ∧ cr ≤ 1 ∧ Hid (T.length = n) ∧ Hid (RowN wr w.heap.size T) ∧ Hid (Dig T) ∧
    Hid (val (T.take k) + val (b.take k) = val (a.take k) + pw k * cr) ∧ Hid (Below w.heap.size w wr)) (fun _ i _ => n - (intOf i).toNat)
  case atStart => exact ⟨0, 0, _, Nat.zero_le _, rfl, rfl, by omega, hidden (by rw [List.length_replicate]), HROW, hidden (dig_zeros _), hidden rfl, hidden ((Below.refl _ _).alloc (Nat.le_refl _) _)⟩
  case round =>
    obtain ⟨k, cr, T, hk, rfl, rfl, hcr, hT, hR, hD, hv, hbl⟩ := hrel
    clear HROW
    by_cases hlt : k < n
    · obtain ⟨ak, af, rfl, hca⟩ := (HA.out.below hbl.out).get k (by rw [HNA.out]; exact hlt)
      have hxl := dig_get HDA.out k
      obtain ⟨x, hx⟩ : ∃ x, a.getD k 0 = x := ⟨_, rfl⟩
      rw [hx] at hca hxl
      have HX := hidden hx
      clear hx
      have hfr := hR.out.frozen k
      have hto := hR.out.cell k (by rw [hT.out]; omega)
      obtain ⟨old, hold⟩ : ∃ x, T.getD k 0 = x := ⟨_, rfl⟩
      rw [hold] at hto
      clear hold
      by_cases hlm : k < m
      · obtain ⟨bk, bf, rfl, hcb⟩ := (HB.out.below hbl.out).get k (by rw [HNB.out]; exact hlm)
        have hyl := dig_get HDB.out k
        obtain ⟨y, hy⟩ : ∃ y, b.getD k 0 = y := ⟨_, rfl⟩
        rw [hy] at hcb hyl
        have HY := hidden hy
        clear hy
        by_cases hxa : x < cr + y
        · go_wp2
          go_roundw
          case rel =>
            refine ⟨k + 1, 1, T.set k (x + 1000000000 - (cr + y)), by omega, by go_num, rfl, by omega, hidden (by rw [List.length_set]; exact hT.out), ?_, hidden (dig_set hD.out _ _ (by omega)), hidden ?_, hidden (hbl.out.setCell (Nat.le_refl _) _)⟩
            · have := hR.out.set k (x + 1000000000 - (cr + y))
              rw [show ((x + 1000000000 - (cr + y) : Nat) : Int) = (x : Int) + 1000000000 - (cr + y) by omega] at this
              exact hidden this
            · rw [set_take _ _ _ (by rw [hT.out]; omega), val_take, val_take, HX.out, HY.out, pw_succ]
              exact diff_step hv.out (by omega)
          case measure => simp [intOf]; omega
        · go_wp2
          go_roundw
          case rel =>
            refine ⟨k + 1, 0, T.set k (x - (cr + y)), by omega, by go_num, rfl, by omega, hidden (by rw [List.length_set]; exact hT.out), ?_, hidden (dig_set hD.out _ _ (by omega)), hidden ?_, hidden (hbl.out.setCell (Nat.le_refl _) _)⟩
            · have := hR.out.set k (x - (cr + y))
              rw [show ((x - (cr + y) : Nat) : Int) = (x : Int) - (cr + y) by omega] at this
              exact hidden this
            · rw [set_take _ _ _ (by rw [hT.out]; omega), val_take, val_take, HX.out, HY.out, pw_succ]
              exact diff_step hv.out (by omega)
          case measure => simp [intOf]; omega
      · have HY : Hid (b.getD k 0 = 0) := hidden (by rw [List.getD_eq_getElem?_getD, List.getElem?_eq_none (by rw [HNB.out]; omega)]; rfl)
        by_cases hxa : x < cr
        · go_wp2
          go_roundw
          case rel =>
            refine ⟨k + 1, 1, T.set k (x + 1000000000 - cr), by omega, by go_num, rfl, by omega, hidden (by rw [List.length_set]; exact hT.out), ?_, hidden (dig_set hD.out _ _ (by omega)), hidden ?_, hidden (hbl.out.setCell (Nat.le_refl _) _)⟩
            · have := hR.out.set k (x + 1000000000 - cr)
              rw [show ((x + 1000000000 - cr : Nat) : Int) = (x : Int) + 1000000000 - cr by omega] at this
              exact hidden this
            · rw [set_take _ _ _ (by rw [hT.out]; omega), val_take, val_take, HX.out, HY.out, pw_succ]
              exact diff_step hv.out (by omega)
          case measure => simp [intOf]; omega
        · go_wp2
          go_roundw
          case rel =>
            refine ⟨k + 1, 0, T.set k (x - cr), by omega, by go_num, rfl, by omega, hidden (by rw [List.length_set]; exact hT.out), ?_, hidden (dig_set hD.out _ _ (by omega)), hidden ?_, hidden (hbl.out.setCell (Nat.le_refl _) _)⟩
            · have := hR.out.set k (x - cr)
              rw [show ((x - cr : Nat) : Int) = (x : Int) - cr by omega] at this
              exact hidden this
            · rw [set_take _ _ _ (by rw [hT.out]; omega), val_take, val_take, HX.out, HY.out, pw_succ]
              exact diff_step hv.out (by omega)
          case measure => simp [intOf]; omega
    · obtain rfl : k = n := by omega
      go_wp2
      go_ret
      have e2 := hv.out
      have e4 := val_lt hD.out
      rw [show a.take k = a from List.take_of_length_le (by rw [HNA.out]; omega), show b.take k = b from List.take_of_length_le (by rw [HNB.out]; omega), show T.take k = T from List.take_of_length_le (by rw [hT.out]; omega)] at e2
      rw [hT.out] at e4
      have e5 := HV.out
      have e3 : cr = 0 := by
        cases cr with
        | zero => rfl
        | succ c =>
          rw [Nat.mul_succ] at e2
          omega
      subst e3
      exact ⟨w.heap.size, T, hT.out, rfl, Nat.le_refl _, hR.out, hD.out, by omega, hbl.out⟩
end Nm
end Go.Proofs.YtapdkibiegeijaaDoor
