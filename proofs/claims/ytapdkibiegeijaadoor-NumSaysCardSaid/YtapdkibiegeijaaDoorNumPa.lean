/- num.written, num.read, num.Parse. Conditions: texts of at most 2400 bytes; api.ErrShape lies in its variable. -/
import Derived.Test.YtapdkibiegeijaaDoorNumY
namespace Go.Proofs.YtapdkibiegeijaaDoor
open Go.RowKit
namespace Nm

theorem take_snocB (s : ByteArray) (k : Nat) (h : k < s.size) : s.data.toList.take (k + 1) = s.data.toList.take k ++ [s[k]] := by
  rw [List.take_succ_eq_append_getElem (by simpa using h)]; rfl
theorem isD_of {c : UInt8} (h0 : 48 ≤ (c.toNat : Int)) (h1 : (c.toNat : Int) ≤ 57) : isD c = true := decide_eq_true (by omega)
theorem notD_of {c : UInt8} (h : (c.toNat : Int) < 48 ∨ 57 < (c.toNat : Int)) : isD c = false := decide_eq_false (by omega)
theorem wr_false {l : List UInt8} {c : UInt8} (h : c ∈ l) (hc : isD c = false) : wr l = false := by
  unfold wr
  have : l.all isD = false := by
    rw [List.all_eq_false]
    exact ⟨c, h, by simp [hc]⟩
  rw [this, Bool.false_and]
theorem headD_zero (l : List UInt8) (h : 0 < l.length) : l.headD 48 = l[0] := by
  cases l with
  | nil => simp at h
  | cons x l => rfl
set_option maxHeartbeats 1600000 in
theorem written_any (s : ByteArray) (w : World) (hs : s.size < 1073741824) :
    Calls Tryd.prog 33 #[.string s] w fun e w' => e = .returned (.bool (wr s.data.toList)) ∧ w' = w := by
  obtain ⟨r, hr⟩ : ∃ r, wr s.data.toList = r := ⟨_, rfl⟩
  rw [hr]
  have HR := hidden hr
  clear hr
  go_enter Tryd.func33, Tryd.ntmps33
  go_wp2
  go_loop [6] (fun i => ∃ k : Nat, k ≤ s.size ∧ i = .int .i64 k ∧ Hid ((s.data.toList.take k).all isD = true)) (fun i => s.size - (intOf i).toNat)
  case atStart => exact ⟨0, Nat.zero_le _, rfl, hidden (by rw [List.take_zero]; rfl)⟩
  case round =>
    obtain ⟨k, hk, rfl, ha⟩ := hrel
    by_cases hlt : k < s.size
    · have hmem : Hid (s[k] ∈ s.data.toList) := hidden (by
        have : s[k] = s.data.toList[k]'(by simpa using hlt) := rfl
        rw [this]; exact List.getElem_mem _)
      by_cases h1 : (s[k].toNat : Int) < 48
      · have hf : Hid (r = false) := hidden (by rw [← HR.out]; exact wr_false hmem.out (notD_of (.inl h1)))
        go_wp2
        go_ret
        exact ⟨by rw [hf.out]; rfl, rfl⟩
      · by_cases h2 : 57 < (s[k].toNat : Int)
        · have hf : Hid (r = false) := hidden (by rw [← HR.out]; exact wr_false hmem.out (notD_of (.inr h2)))
          go_wp2
          go_ret
          exact ⟨by rw [hf.out]; rfl, rfl⟩
        · have hts := take_snocB s k hlt
          have ha2 : Hid ((s.data.toList.take (k + 1)).all isD = true) := hidden (by
            rw [hts, List.all_append, ha.out]
            simp only [List.all_cons, List.all_nil, Bool.and_true, Bool.true_and]
            exact isD_of (by omega) (by omega))
          clear hts
          go_wp2
          go_round
          case rel => exact ⟨k + 1, by omega, by go_num, ha2⟩
          case measure => simp [intOf]; omega
    · have hall : Hid (s.data.toList.all isD = true) := hidden (by
        have := ha.out
        rwa [List.take_of_length_le (by simp; omega)] at this)
      have ed := Lib.toList_data s
      by_cases hA : s.toList = [48]
      · have hf : Hid (r = true) := hidden (by rw [← HR.out, ← ed, hA]; rfl)
        clear ed
        go_wp2
        go_ret
        exact ⟨by rw [hf.out]; rfl, rfl⟩
      · by_cases hB : s.toList = []
        · have hf : Hid (r = false) := hidden (by rw [← HR.out, ← ed, hB]; rfl)
          clear ed
          go_wp2
          go_ret
          exact ⟨by rw [hf.out]; rfl, rfl⟩
        · have h0 : 0 < s.size := by
            rcases Nat.eq_zero_or_pos s.size with h | h
            · exfalso
              apply hB
              rw [ed]
              exact List.eq_nil_of_length_eq_zero (by simpa using h)
            · exact h
          have hw : Hid (r = decide (s[0] ≠ 48)) := hidden (by
            rw [← HR.out]
            unfold wr
            rw [hall.out, Bool.true_and, ← ed, show (s.toList == [48]) = false from beq_eq_false_iff_ne.2 hA, Bool.false_or, decide_eq_true hB, Bool.true_and]
            have e : s.toList.headD 48 = s[0] := by
              rw [ed]
              have h1 : s[0] = s.data.toList[0]'(by simpa using h0) := rfl
              rw [h1]
              exact headD_zero _ _
            rw [e])
          have hAb : (s.toList == [48]) = false := beq_eq_false_iff_ne.2 hA
          have hBb : s.toList.isEmpty = false := by
            cases hs : s.toList with
            | nil => exact absurd hs hB
            | cons _ _ => rfl
          clear ed hA hB
          by_cases h48 : (s[0].toNat : Int) = 48
          · have hf : Hid (r = false) := hidden (by
              rw [hw.out]
              have : s[0] = 48 := UInt8.toNat_inj.1 (by have e : (48 : UInt8).toNat = 48 := rfl; omega)
              rw [this]; rfl)
            clear hw
            go_wp2
            go_ret
            exact ⟨by rw [hf.out]; rfl, rfl⟩
          · have hf : Hid (r = true) := hidden (by
              rw [hw.out]
              have : s[0] ≠ 48 := fun e => h48 (by rw [e]; rfl)
              exact decide_eq_true this)
            have hb48 : ((s[0].toNat : Int) != 48) = true := bne_iff_ne.2 h48
            clear hw h48
            go_wp2
            go_ret
            exact ⟨by rw [hf.out]; rfl, rfl⟩
/-- What read answers. -/
def Read (w w' : World) (e : Ending) (z n : Nat) : Prop := ∃ (v : Value) (l : List Nat), e = .returned v ∧ OwnN w' w.heap.size v l ∧ Dig l ∧ val l = z ∧ 9 * l.length ≤ n + 8 ∧ Below w.heap.size w w'
theorem all_get {l : List UInt8} (h : l.all isD = true) (j : Nat) (hj : j < l.length) : isD l[j] = true := List.all_eq_true.1 h _ (List.getElem_mem hj)
theorem chunk_snoc (s : ByteArray) (st j : Nat) (h0 : st ≤ j) (h : j < s.size) : (s.data.toList.drop st).take (j + 1 - st) = (s.data.toList.drop st).take (j - st) ++ [s[j]] := by
  rw [show j + 1 - st = (j - st) + 1 by omega, List.take_succ_eq_append_getElem (by simp; omega)]
  congr 2
  rw [List.getElem_drop]
  simp only [show st + (j - st) = j by omega]
  rfl
theorem chunk_lt (l : List UInt8) (st m : Nat) (h : l.all isD = true) (hm : m ≤ 9) : nv ((l.drop st).take m) < 1000000000 := by
  have h1 : ((l.drop st).take m).all isD = true := List.all_eq_true.2 fun x hx => List.all_eq_true.1 h x (List.mem_of_mem_drop (List.mem_of_mem_take hx))
  refine Nat.lt_of_lt_of_le (nv_bound h1) ?_
  have : ((l.drop st).take m).length ≤ 9 := by rw [List.length_take]; omega
  exact Nat.pow_le_pow_right (show 0 < 10 by decide) this
theorem read_step {l : List UInt8} {st en k v p : Nat} (h0 : st ≤ en) (hen : en + 9 * k = l.length) (hv : v = nv (l.drop en)) (hp : p = nv ((l.drop st).take (en - st))) : v + pw k * p = nv (l.drop st) := by
  have e : l.drop st = (l.drop st).take (en - st) ++ l.drop en := by
    conv => lhs; rw [← List.take_append_drop (en - st) (l.drop st)]
    rw [List.drop_drop, show st + (en - st) = en by omega]
  rw [e, nv_append, ← hp, ← hv, List.length_drop, pw_ten, show l.length - en = 9 * k by omega, Nat.mul_comm]
  omega
set_option maxHeartbeats 3200000 in
theorem read_any (s : ByteArray) (w : World) (hs : s.size < 1073741824) (ha : s.data.toList.all isD = true) :
    Calls Tryd.prog 35 #[.string s] w fun e w' => Read w w' e (nv s.data.toList) s.size := by
  have HA := hidden ha
  have hsl : Hid (s.data.toList.length = s.size) := hidden (by simp)
  clear ha
  go_enter Tryd.func35, Tryd.ntmps35
  go_wp2
  go_loopw [3, 4] (fun v e wr => ∃ (k : Nat) (l : List Nat), e = .int .i64 ((s.size : Int) - 9 * (k : Int)) ∧ 9 * k ≤ s.size + 8 ∧ l.length = k ∧ Hid (OwnN wr w.heap.size v l) ∧ Hid (Dig l) ∧ Hid (val l = nv (s.data.toList.drop (s.size - 9 * k))) ∧ Hid (Below w.heap.size w wr)) (fun _ e _ => (intOf e).toNat)
  case atStart => exact ⟨0, [], by go_num, by omega, rfl, hidden (ownN_nil _ _), hidden dig_nil, hidden (by rw [Nat.mul_zero, Nat.sub_zero, List.drop_of_length_le (by rw [hsl.out]; exact Nat.le_refl _)]; rfl), hidden (Below.refl _ _)⟩
  case round =>
    obtain ⟨k, l, rfl, hk, hlk, hO, hD, hv, hbe⟩ := hrel
    by_cases hlt : 9 * k < s.size
    · obtain ⟨en, hen⟩ : ∃ en, s.size - 9 * k = en := ⟨_, rfl⟩
      have hen2 : en + 9 * k = s.size := by omega
      rw [show (s.size : Int) - 9 * (k : Int) = (en : Int) by omega]
      rw [hen] at hv
      have hen0 : 0 < en := by omega
      have HEN := hidden hen2
      have HLK := hidden hlk
      have hle : en ≤ s.size := by omega
      have hll : l.length < 200000000 := by omega
      clear hen hen2 hlk hlt
      obtain ⟨ao, cap, rfl, _, _⟩ := hO.out.src
      obtain ⟨m, hm⟩ : ∃ m, l.length = m := ⟨_, rfl⟩
      rw [hm] at hO ⊢
      have HM := hidden hm
      by_cases h9 : 9 < en
      · go_wp2
        go_loop [5, 6] (fun p i => ∃ (j q : Nat), en - 9 ≤ j ∧ j ≤ en ∧ i = .int .i64 (j : Int) ∧ p = .int .u32 (q : Int) ∧ q < 1000000000 ∧ Hid (q = nv ((s.data.toList.drop (en - 9)).take (j - (en - 9))))) (fun _ i => en - (intOf i).toNat)
        case atStart => exact ⟨en - 9, 0, Nat.le_refl _, by omega, by go_num, rfl, by omega, hidden (by rw [Nat.sub_self, List.take_zero]; rfl)⟩
        case round =>
          obtain ⟨j, q, hj0, hj1, rfl, rfl, hq, hqe⟩ := hrel
          by_cases hlj : j < en
          · have hjs : j < s.size := by omega
            have hdj : isD s[j] = true := all_get HA.out j (by rw [hsl.out]; exact hjs)
            have hdj2 := of_decide_eq_true hdj
            have hsn := chunk_snoc s (en - 9) j hj0 hjs
            have hbn := chunk_lt s.data.toList (en - 9) (j + 1 - (en - 9)) HA.out (by omega)
            rw [hsn, nv_snoc, ← hqe.out] at hbn
            have hnx : Hid (10 * q + (s[j].toNat - 48) = nv ((s.data.toList.drop (en - 9)).take (j + 1 - (en - 9)))) := hidden (by rw [hsn, nv_snoc, ← hqe.out])
            obtain ⟨c, hc⟩ : ∃ c, s[j].toNat = c := ⟨_, rfl⟩
            rw [hc] at hdj2 hbn hnx
            have hci : (s[j].toNat : Int) = (c : Int) := by rw [hc]
            have c0 : 48 ≤ c := hdj2.1
            have c1 : c ≤ 57 := hdj2.2
            clear hdj hsn hc hdj2
            go_wp2
            go_round
            case rel => exact ⟨j + 1, 10 * q + (c - 48), by omega, by omega, by go_num, by go_num, hbn, hnx⟩
            case measure => simp [intOf]; omega
          · obtain rfl : en = j := by omega
            have HL := hidden (one_lit wr q)
            have HO1 := hidden (show OwnN (wr.alloc (.cells #[.int .u32 (q : Int)] 75)) w.heap.size (.slice ao m cap) l from hO.out.of_eq fun k _ hk => Below.heap_alloc wr _ k hk)
            have hsz := hbe.out.size
            have hsp := read_step (l := s.data.toList) (st := en - 9) (en := en) (k := k) (by omega) (by rw [hsl.out]; exact HEN.out) hv.out hqe.out
            have HSP := hidden hsp
            clear hsp
            go_wp2_with (at_builtin; refine append_parts (wr.alloc (.cells #[.int .u32 (q : Int)] 75)) rfl (.tmp 29) (.tmp 31) rfl w.heap.size _ l [q] rfl HO1.out wr.heap.size 0 1 1 rfl rfl HL.out (by simp; omega) (by simp; omega) ?_; intro v' w' h1 h2)
            go_roundw
            case rel =>
              refine ⟨k + 1, l ++ [q], by have := HEN.out; go_num, by have := HEN.out; omega, by simp [HLK.out], hidden h1, hidden (dig_append hD.out (fun x hx => by rw [List.mem_singleton.1 hx]; exact hq)), hidden ?_, hidden ((hbe.out.alloc hsz _).trans h2)⟩
              rw [val_append, HLK.out, show s.size - 9 * (k + 1) = en - 9 by have := HEN.out; omega, ← HSP.out]
              simp [val]
            case measure => simp [intOf]; omega
      · have h9n : (en : Int) - 9 ≤ 0 := by omega
        go_wp2
        go_loop [5, 6] (fun p i => ∃ (j q : Nat), 0 ≤ j ∧ j ≤ en ∧ i = .int .i64 (j : Int) ∧ p = .int .u32 (q : Int) ∧ q < 1000000000 ∧ Hid (q = nv ((s.data.toList.drop (0)).take (j - (0))))) (fun _ i => en - (intOf i).toNat)
        case atStart => exact ⟨0, 0, Nat.le_refl _, by omega, by go_num, rfl, by omega, hidden (by rw [Nat.sub_self, List.take_zero]; rfl)⟩
        case round =>
          obtain ⟨j, q, hj0, hj1, rfl, rfl, hq, hqe⟩ := hrel
          by_cases hlj : j < en
          · have hjs : j < s.size := by omega
            have hdj : isD s[j] = true := all_get HA.out j (by rw [hsl.out]; exact hjs)
            have hdj2 := of_decide_eq_true hdj
            have hsn := chunk_snoc s (0) j hj0 hjs
            have hbn := chunk_lt s.data.toList (0) (j + 1 - (0)) HA.out (by omega)
            rw [hsn, nv_snoc, ← hqe.out] at hbn
            have hnx : Hid (10 * q + (s[j].toNat - 48) = nv ((s.data.toList.drop (0)).take (j + 1 - (0)))) := hidden (by rw [hsn, nv_snoc, ← hqe.out])
            obtain ⟨c, hc⟩ : ∃ c, s[j].toNat = c := ⟨_, rfl⟩
            rw [hc] at hdj2 hbn hnx
            have hci : (s[j].toNat : Int) = (c : Int) := by rw [hc]
            have c0 : 48 ≤ c := hdj2.1
            have c1 : c ≤ 57 := hdj2.2
            clear hdj hsn hc hdj2
            go_wp2
            go_round
            case rel => exact ⟨j + 1, 10 * q + (c - 48), by omega, by omega, by go_num, by go_num, hbn, hnx⟩
            case measure => simp [intOf]; omega
          · obtain rfl : en = j := by omega
            have HL := hidden (one_lit wr q)
            have HO1 := hidden (show OwnN (wr.alloc (.cells #[.int .u32 (q : Int)] 75)) w.heap.size (.slice ao m cap) l from hO.out.of_eq fun k _ hk => Below.heap_alloc wr _ k hk)
            have hsz := hbe.out.size
            have hsp := read_step (l := s.data.toList) (st := 0) (en := en) (k := k) (by omega) (by rw [hsl.out]; exact HEN.out) hv.out hqe.out
            have HSP := hidden hsp
            clear hsp
            go_wp2_with (at_builtin; refine append_parts (wr.alloc (.cells #[.int .u32 (q : Int)] 75)) rfl (.tmp 29) (.tmp 31) rfl w.heap.size _ l [q] rfl HO1.out wr.heap.size 0 1 1 rfl rfl HL.out (by simp; omega) (by simp; omega) ?_; intro v' w' h1 h2)
            go_roundw
            case rel =>
              refine ⟨k + 1, l ++ [q], by have := HEN.out; go_num, by have := HEN.out; omega, by simp [HLK.out], hidden h1, hidden (dig_append hD.out (fun x hx => by rw [List.mem_singleton.1 hx]; exact hq)), hidden ?_, hidden ((hbe.out.alloc hsz _).trans h2)⟩
              rw [val_append, HLK.out, show s.size - 9 * (k + 1) = 0 by have := HEN.out; omega, ← HSP.out]
              simp [val]
            case measure => simp [intOf]; omega
    · have hk0 : s.size - 9 * k = 0 := by omega
      have hvf : Hid (val l = nv s.data.toList) := hidden (by have := hv.out; rwa [hk0, List.drop_zero] at this)
      have hlf : Hid (9 * l.length ≤ s.size + 8) := hidden (by omega)
      have hng : (s.size : Int) - 9 * (k : Int) ≤ 0 := by omega
      clear hk0 hlk
      go_wp2
      go_ret
      exact ⟨_, l, rfl, hO.out, hD.out, hvf.out, hlf.out, hbe.out⟩
end Nm
end Go.Proofs.YtapdkibiegeijaaDoor
