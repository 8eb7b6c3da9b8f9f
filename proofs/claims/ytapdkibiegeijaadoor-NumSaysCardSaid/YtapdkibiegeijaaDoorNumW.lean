/- num.takeAway, num.putBack: a window of a row of the call's own. Conditions: the window lies within the row; the other parts lie in another block. -/
import Derived.Test.YtapdkibiegeijaaDoorNumQ
namespace Go.Proofs.YtapdkibiegeijaaDoor
open Go.RowKit
namespace Nm

theorem drop_set_in (T : List Nat) (i k d : Nat) : (T.set (i + k) d).drop i = (T.drop i).set k d := by
  rw [List.drop_set, if_neg (by omega), Nat.add_sub_cancel_left]
theorem getD_drop (T : List Nat) (i k : Nat) : (T.drop i).getD k 0 = T.getD (i + k) 0 := by
  rw [List.getD_eq_getElem?_getD, List.getElem?_drop, ← List.getD_eq_getElem?_getD]
theorem getD_of_drop {T R : List Nat} {j : Nat} (h : T.drop j = R.drop j) : T.getD j 0 = R.getD j 0 := by
  have := congrArg (fun l => l.getD 0 0) h
  simpa [getD_drop] using this
theorem drop_more {T R : List Nat} {j : Nat} (h : T.drop j = R.drop j) : T.drop (j + 1) = R.drop (j + 1) := by
  have := congrArg (List.drop 1) h
  simpa [List.drop_drop] using this
/-- A window of n parts from i on has turned, and nothing else. -/
structure Win (R T : List Nat) (i n : Nat) : Prop where
  len : T.length = R.length
  low : T.take i = R.take i
  high : T.drop (i + n) = R.drop (i + n)
  dig : Dig T
theorem Win.step {R T : List Nat} {i k d : Nat} (h : Win R T i k) (hd : d < 1000000000) : Win R (T.set (i + k) d) i (k + 1) where
  len := by rw [List.length_set]; exact h.len
  low := by rw [List.take_set_of_le (by omega)]; exact h.low
  high := by rw [← Nat.add_assoc, drop_set]; exact drop_more h.high
  dig := dig_set h.dig _ _ hd
theorem win_val {T : List Nat} {i k d : Nat} (h : i + k < T.length) : val (((T.set (i + k) d).drop i).take (k + 1)) = val ((T.drop i).take k) + pw k * d := by
  rw [drop_set_in, set_take _ _ _ (by rw [List.length_drop]; omega)]

/-- What takeAway answers. -/
def Away (g i n p : Nat) (R V : List Nat) (w w' : World) (e : Ending) : Prop := ∃ (c : Nat) (T : List Nat), e = .returned (.bool (decide (R.getD (i + n) 0 < c))) ∧ Win R T i n ∧ RowN w' g T ∧
  val ((T.drop i).take n) + p * val V = val ((R.drop i).take n) + pw n * c ∧ Turn g w w'
theorem away_cases {t s c2 : Nat} (ht : t < 1000000000) (hs : s < 1000000000) : (t < s → (t + 1000000000 - s) + s = t + 1000000000 * (c2 + 1 - c2)) ∧ (¬ t < s → (t - s) + s = t + 1000000000 * (c2 - c2)) := by
  refine ⟨fun h => ?_, fun h => ?_⟩
  · rw [Nat.add_sub_cancel_left]; omega
  · rw [Nat.sub_self]; omega
set_option maxHeartbeats 3200000 in
theorem takeAway_any (g i n p wc : Nat) (bo : Option Addr) (bc : Nat) (R V : List Nat) (w : World) (hn2 : n < 536870912) (hp : p < 1000000000) (hR : RowN w g R) (hi : i + n < R.length) (dR : Dig R) (hV : V.length = n)
    (hb : 0 < n → ∃ bk off, bo = some ⟨bk, off, none⟩ ∧ bk < w.heap.size ∧ bk ≠ g ∧ AtN w bk off V) (dV : Dig V) :
    Calls Tryd.prog 77 #[.slice (some ⟨g, i, none⟩) (n + 1) wc, .slice bo n bc, .int .u64 (p : Int)] w fun e w' => Away g i n p R V w w' e := by
  have HR := hidden hR
  have HI := hidden hi
  have HV := hidden hV
  have HB := hidden hb
  clear hR hi hV hb
  go_enter Tryd.func77, Tryd.ntmps77
  go_wp2
  go_loopw [7, 13] (fun c j wr => ∃ (k cr : Nat) (T : List Nat), k ≤ n ∧ j = .int .i64 k ∧ c = .int .u64 cr ∧ cr ≤ 1000000000 ∧ Hid (Win R T i k) ∧ Hid (RowN wr g T) ∧
    Hid (val ((T.drop i).take k) + p * val (V.take k) = val ((R.drop i).take k) + pw k * cr) ∧ Hid (Turn g w wr)) (fun _ j _ => n - (intOf j).toNat)
  case atStart => exact ⟨0, 0, R, Nat.zero_le _, rfl, rfl, by omega, hidden ⟨rfl, rfl, rfl, dR⟩, HR, hidden (by simp [val]), Turn.refl _ _⟩
  case round =>
    obtain ⟨k, cr, T, hk, rfl, rfl, hcr, hW, hT, hv, htu⟩ := hrel
    by_cases hlt : k < n
    · obtain ⟨bk, bf, rfl, hbl, hbg, hBt⟩ := HB.out (by omega)
      have hcb := (hBt.turn htu.out hbl hbg).get k (by rw [HV.out]; exact hlt)
      have hxl := dig_get dV k
      obtain ⟨x, hx⟩ : ∃ x, V.getD k 0 = x := ⟨_, rfl⟩
      rw [hx] at hcb hxl
      have HX := hidden hx
      have hfr := hT.out.frozen (i + k)
      have hto := hT.out.cell (i + k) (by rw [hW.out.len]; have := HI.out; omega)
      have htl := dig_get hW.out.dig (i + k)
      have het := getD_of_drop hW.out.high
      obtain ⟨t, ht⟩ : ∃ x, T.getD (i + k) 0 = x := ⟨_, rfl⟩
      rw [ht] at hto htl het
      have HT := hidden het
      obtain ⟨z, hz⟩ : ∃ z, x * p = z := ⟨_, rfl⟩
      have hzl := away_bound hcr hxl hp
      rw [hz] at hzl
      have hzi : (x : Int) * (p : Int) = (z : Int) := by rw [← hz]; exact (Int.natCast_mul x p).symm
      have HZ := hidden hz
      obtain ⟨hz1, hz2⟩ := hzl
      have hdm := Nat.div_add_mod (cr + z) 1000000000
      obtain ⟨s, hs⟩ : ∃ s, (cr + z) % 1000000000 = s := ⟨_, rfl⟩
      obtain ⟨c2, hc2⟩ : ∃ c, (cr + z) / 1000000000 = c := ⟨_, rfl⟩
      have hsi : ((cr : Int) + (z : Int)) % 1000000000 = (s : Int) := by omega
      have hci : ((cr : Int) + (z : Int)) / 1000000000 = (c2 : Int) := by omega
      have hsl : s < 1000000000 := by omega
      rw [hc2] at hz1 hdm
      rw [hs] at hdm
      have HDM := hidden hdm
      obtain ⟨a1, a2⟩ := away_cases (c2 := c2) htl hsl
      have A1 := hidden a1
      have A2 := hidden a2
      clear hx ht het hz hs hc2 hdm a1 a2
      by_cases hts : t < s
      · go_wp2
        go_roundw
        case rel =>
          refine ⟨k + 1, c2 + 1, T.set (i + k) (t + 1000000000 - s), by omega, by go_num, by go_num, by omega, hidden (hW.out.step (by omega)), ?_, hidden ?_, hidden (by first | exact (htu.out.setCell _ _).setCell _ _ | exact htu.out.setCell _ _)⟩
          · have := (hT.out.set (i + k) (t + 1000000000)).set (i + k) (t + 1000000000 - s)
            rw [List.set_set, show ((t + 1000000000 - s : Nat) : Int) = (t : Int) + 1000000000 - s by omega] at this
            exact hidden this
          · rw [win_val (by rw [hW.out.len]; have := HI.out; omega), val_take, val_take, HX.out, getD_drop, ← HT.out, pw_succ]
            exact away_step hv.out (by rw [HZ.out]; have := HDM.out; omega) (A1.out hts) (by omega)
        case measure => simp [intOf]; omega
      · go_wp2
        go_roundw
        case rel =>
          refine ⟨k + 1, c2, T.set (i + k) (t - s), by omega, by go_num, by go_num, by omega, hidden (hW.out.step (by omega)), ?_, hidden ?_, hidden (htu.out.setCell _ _)⟩
          · have := hT.out.set (i + k) (t - s)
            rw [show ((t - s : Nat) : Int) = (t : Int) - s by omega] at this
            exact hidden this
          · rw [win_val (by rw [hW.out.len]; have := HI.out; omega), val_take, val_take, HX.out, getD_drop, ← HT.out, pw_succ]
            exact away_step hv.out (by rw [HZ.out]; have := HDM.out; omega) (A2.out hts) (Nat.le_refl _)
        case measure => simp [intOf]; omega
    · obtain rfl : k = n := by omega
      have hto := hT.out.cell (i + k) (by rw [hW.out.len]; exact HI.out)
      have htl := dig_get hW.out.dig (i + k)
      have het := getD_of_drop hW.out.high
      obtain ⟨t, ht⟩ : ∃ x, T.getD (i + k) 0 = x := ⟨_, rfl⟩
      rw [ht] at hto htl het
      have HT := hidden het
      clear ht het
      have hfin : Hid (val ((T.drop i).take k) + p * val V = val ((R.drop i).take k) + pw k * cr) := hidden (by
        have e2 := hv.out
        rwa [show V.take k = V from List.take_of_length_le (by rw [HV.out]; omega)] at e2)
      by_cases htc : t < cr
      · go_wp2
        go_ret
        exact ⟨cr, T, by rw [← HT.out, decide_eq_true htc]; rfl, hW.out, hT.out, hfin.out, htu.out⟩
      · go_wp2
        go_ret
        exact ⟨cr, T, by rw [← HT.out, decide_eq_false htc]; rfl, hW.out, hT.out, hfin.out, htu.out⟩

/-- What putBack does. -/
def Back (g i n : Nat) (R V : List Nat) (w w' : World) (e : Ending) : Prop := ∃ (c : Nat) (T : List Nat), e = .returned (.tuple #[]) ∧ Win R T i n ∧ RowN w' g T ∧
  val ((T.drop i).take n) + pw n * c = val ((R.drop i).take n) + val V ∧ Turn g w w'
set_option maxHeartbeats 3200000 in
theorem putBack_any (g i n wc : Nat) (bo : Option Addr) (bc : Nat) (R V : List Nat) (w : World) (hn2 : n < 536870912) (hR : RowN w g R) (hi : i + n < R.length) (dR : Dig R) (hV : V.length = n)
    (hb : 0 < n → ∃ bk off, bo = some ⟨bk, off, none⟩ ∧ bk < w.heap.size ∧ bk ≠ g ∧ AtN w bk off V) (dV : Dig V) :
    Calls Tryd.prog 78 #[.slice (some ⟨g, i, none⟩) (n + 1) wc, .slice bo n bc] w fun e w' => Back g i n R V w w' e := by
  have HR := hidden hR
  have HI := hidden hi
  have HV := hidden hV
  have HB := hidden hb
  clear hR hi hV hb
  go_enter Tryd.func78, Tryd.ntmps78
  go_wp2
  go_loopw [4, 9] (fun c j wr => ∃ (k cr : Nat) (T : List Nat), k ≤ n ∧ j = .int .i64 k ∧ c = .int .u32 cr ∧ cr ≤ 1 ∧ Hid (Win R T i k) ∧ Hid (RowN wr g T) ∧
    Hid (val ((T.drop i).take k) + pw k * cr = val ((R.drop i).take k) + val (V.take k)) ∧ Hid (Turn g w wr)) (fun _ j _ => n - (intOf j).toNat)
  case atStart => exact ⟨0, 0, R, Nat.zero_le _, rfl, rfl, by omega, hidden ⟨rfl, rfl, rfl, dR⟩, HR, hidden (by simp [val]), Turn.refl _ _⟩
  case round =>
    obtain ⟨k, cr, T, hk, rfl, rfl, hcr, hW, hT, hv, htu⟩ := hrel
    by_cases hlt : k < n
    · obtain ⟨bk, bf, rfl, hbl, hbg, hBt⟩ := HB.out (by omega)
      have hcb := (hBt.turn htu.out hbl hbg).get k (by rw [HV.out]; exact hlt)
      have hxl := dig_get dV k
      obtain ⟨x, hx⟩ : ∃ x, V.getD k 0 = x := ⟨_, rfl⟩
      rw [hx] at hcb hxl
      have HX := hidden hx
      have hfr := hT.out.frozen (i + k)
      have hto := hT.out.cell (i + k) (by rw [hW.out.len]; have := HI.out; omega)
      have htl := dig_get hW.out.dig (i + k)
      have het := getD_of_drop hW.out.high
      obtain ⟨t, ht⟩ : ∃ x, T.getD (i + k) 0 = x := ⟨_, rfl⟩
      rw [ht] at hto htl het
      have HT := hidden het
      clear hx ht het
      go_wp2
      go_roundw
      case rel =>
        refine ⟨k + 1, (x + t + cr) / 1000000000, T.set (i + k) ((x + t + cr) % 1000000000), by omega, by go_num, by go_num, by omega, hidden (hW.out.step (by omega)), ?_, hidden ?_, hidden (htu.out.setCell _ _)⟩
        · have := hT.out.set (i + k) ((x + t + cr) % 1000000000)
          rw [show (((x + t + cr) % 1000000000 : Nat) : Int) = ((x : Int) + (t + cr)) % 1000000000 by omega] at this
          exact hidden this
        · rw [win_val (by rw [hW.out.len]; have := HI.out; omega), val_take, val_take, HX.out, getD_drop, ← HT.out, pw_succ]
          exact sum_step hv.out (by omega)
      case measure => simp [intOf]; omega
    · obtain rfl : k = n := by omega
      have hfin : Hid (val ((T.drop i).take k) + pw k * cr = val ((R.drop i).take k) + val V) := hidden (by
        have e2 := hv.out
        rwa [show V.take k = V from List.take_of_length_le (by rw [HV.out]; omega)] at e2)
      go_wp2
      go_end0
      exact ⟨cr, T, rfl, hW.out, hT.out, hfin.out, htu.out⟩
end Nm
end Go.Proofs.YtapdkibiegeijaaDoor
