/- The document's Parse. Conditions: texts of at most 2400 bytes. -/
import Derived.Test.YtapdkibiegeijaaDoorRvC
import Derived.Test.YtapdkibiegeijaaDoorNumPa
import Derived.Lib.Strings
import Derived.Deep.Cut
namespace Go.Proofs.YtapdkibiegeijaaDoor
open Go.RowKit
namespace Rv
open Go.Proofs.YtapdkibiegeijaaDoor.Nm (says wr nv isD nv_snoc nv_append nv_bound take_snocB isD_of notD_of wr_false all_get chunk_snoc headD_zero)

theorem chunk_lt (l : List UInt8) (st m : Nat) (h : l.all isD = true) (hm : m ≤ 4) : nv ((l.drop st).take m) < 10000 := by
  have h1 : ((l.drop st).take m).all isD = true := List.all_eq_true.2 fun x hx => List.all_eq_true.1 h x (List.mem_of_mem_drop (List.mem_of_mem_take hx))
  exact nv_four h1 (by rw [List.length_take]; omega)
theorem read_step {l : List UInt8} {st en k v p : Nat} (h0 : st ≤ en) (hen : en + 4 * k = l.length) (hv : v = nv (l.drop en)) (hp : p = nv ((l.drop st).take (en - st))) : v + pw k * p = nv (l.drop st) := by
  have e : l.drop st = (l.drop st).take (en - st) ++ l.drop en := by
    conv => lhs; rw [← List.take_append_drop (en - st) (l.drop st)]
    rw [List.drop_drop, show st + (en - st) = en by omega]
  rw [e, nv_append, ← hp, ← hv, List.length_drop, pw_ten, show l.length - en = 4 * k by omega, Nat.mul_comm]
  omega
theorem not_empty2 {E : ByteArray} (h : 0 < E.size) : E.toList.isEmpty = false := by
  rw [Go.Lib.toList_data]
  cases e : E.data.toList with
  | nil =>
    have : E.size = 0 := by
      have := congrArg List.length e
      simpa using this
    omega
  | cons => rfl
theorem tail_list (s : ByteArray) (h0 : 0 < s.size) : s.data.toList = s[0] :: (s.extract 1 s.size).data.toList := by
  have h4 : s.data.toList.length = s.size := by simp
  have h2 : s[0] = s.data.toList[0]'(by simpa using h0) := rfl
  rw [ByteArray.data_extract, Array.toList_extract, h2, List.extract_eq_take_drop, List.take_of_length_le (by rw [List.length_drop, h4]; exact Nat.le_refl _)]
  exact (List.getElem_cons_drop (by rw [h4]; exact h0)).symm
theorem wr_nil : wr [] = false := rfl
theorem wr_led {l : List UInt8} (h0 : l.headD 48 = 48) (h1 : 1 < l.length) : wr l = false := by
  unfold wr
  rw [h0]
  have : (l == [48]) = false := beq_eq_false_iff_ne.2 fun e => by rw [e] at h1; simp at h1
  rw [this]
  simp
theorem wr_ok {l : List UInt8} (ha : l.all isD = true) (h0 : l.headD 48 ≠ 48) : wr l = true := by
  unfold wr
  rw [ha, decide_eq_true h0]
  cases l with
  | nil => simp at h0
  | cons x l => simp
/-- What Parse answers. -/
def Parsed (w w' : World) (e : Ending) (o : Option Int) (k : Nat) : Prop := ∃ v : Value, e = .returned (.tuple #[v, .bool o.isSome]) ∧ Below w.heap.size w w' ∧ (o = none → v = .agg #[.bool false, .slice none 0 0]) ∧ (∀ z, o = some z → NumAt w' v z k)
theorem parsed_none {w w' : World} {o : Option Int} {k : Nat} (ho : o = none) (hb : Below w.heap.size w w') : Parsed w w' (.returned (.tuple #[.agg #[.bool false, .slice none 0 0], .bool false])) o k := by
  subst ho
  exact ⟨_, rfl, hb, fun _ => rfl, fun z hz => (by cases hz)⟩
theorem parsed_some {w w' : World} {o : Option Int} {k : Nat} {v : Value} {z : Int} (ho : o = some z) (hb : Below w.heap.size w w') (hv : NumAt w' v z k) : Parsed w w' (.returned (.tuple #[v, .bool true])) o k := by
  subst ho
  exact ⟨_, rfl, hb, fun h => (by cases h), fun z2 hz => (by cases hz; exact hv)⟩
set_option maxRecDepth 100000 in
set_option maxHeartbeats 6400000 in
theorem parse_any (s : ByteArray) (w : World) (hs : s.size ≤ 2400) :
    Calls Tryd.prog 10 #[.string s] w fun e w' => Parsed w w' e (says s.data.toList) 601 := by
  obtain ⟨r, hr⟩ : ∃ r, says s.data.toList = r := ⟨_, rfl⟩
  rw [hr]
  have HR := hidden hr
  clear hr
  have HB := hidden (blk_new w (.bool false) (.slice none 0 0))
  have hal := (Below.refl w.heap.size w).alloc (Nat.le_refl _) (.cells #[.bool false, .slice none 0 0] 28)
  have HAL := hidden hal
  clear hal
  by_cases h0 : 0 < s.size
  · by_cases h45 : (s[0].toNat : Int) = 45
    · obtain ⟨d, hd⟩ : ∃ d, s.extract 1 s.size = d := ⟨_, rfl⟩
      have hds : d.size ≤ 2400 := by rw [← hd, ByteArray.size_extract]; omega
      have HSay : Hid (r = if wr d.data.toList = true ∧ (true = true → d.data.toList ≠ [48]) then some (sgnv true (nv d.data.toList)) else none) := hidden (by
        have e1 : s.data.toList = 45 :: d.data.toList := by
          have h3 : s[0] = 45 := UInt8.toNat_inj.1 (by have e : (45 : UInt8).toNat = 45 := rfl; omega)
          rw [tail_list s h0, h3, hd]
        rw [← HR.out, says, e1, List.headD_cons, if_pos (show (45 : UInt8) = 45 from rfl), List.tail_cons]
        by_cases hc : wr d.data.toList = true ∧ d.data.toList ≠ [48]
        · rw [if_pos hc, if_pos ⟨hc.1, fun _ => hc.2⟩]; rfl
        · rw [if_neg hc, if_neg (fun h => hc ⟨h.1, h.2 rfl⟩)])
      have h45b : s[0].toNat = 45 := by omega
      go_enter Tryd.func10, Tryd.ntmps10
      go_upto_region 5 with fail
      clear h45 h45b
      skip
      clear hd h0 hs HR
      go_wp2
      have hsl : Hid (d.data.toList.length = d.size) := hidden (by simp)
      go_loop [6] (fun i => ∃ k : Nat, k ≤ d.size ∧ i = .int .i64 k ∧ Hid ((d.data.toList.take k).all isD = true)) (fun i => d.size - (RowKit.intOf i).toNat)
      case atStart => exact ⟨0, Nat.zero_le _, rfl, hidden (by rw [List.take_zero]; rfl)⟩
      case round =>
        obtain ⟨k, hk, rfl, ha⟩ := hrel
        by_cases hlt : k < d.size
        · have hmem : Hid (d[k] ∈ d.data.toList) := hidden (by
            have : d[k] = d.data.toList[k]'(by simpa using hlt) := rfl
            rw [this]; exact List.getElem_mem _)
          by_cases h1 : (d[k].toNat : Int) < 48
          · have hno : Hid (r = none) := hidden (by rw [HSay.out, if_neg (by rw [wr_false hmem.out (notD_of (.inl h1))]; simp)])
            go_wp2
            refine bodyPost_ret (v := .tuple #[.agg #[.bool false, .slice none 0 0], .bool false]) (by simp [results, Tryd.results10, go_sem]) rfl (parsed_none hno.out HAL.out)
          · by_cases h2 : 57 < (d[k].toNat : Int)
            · have hno : Hid (r = none) := hidden (by rw [HSay.out, if_neg (by rw [wr_false hmem.out (notD_of (.inr h2))]; simp)])
              go_wp2
              refine bodyPost_ret (v := .tuple #[.agg #[.bool false, .slice none 0 0], .bool false]) (by simp [results, Tryd.results10, go_sem]) rfl (parsed_none hno.out HAL.out)
            · have hts := take_snocB d k hlt
              have ha2 : Hid ((d.data.toList.take (k + 1)).all isD = true) := hidden (by
                rw [hts, List.all_append, ha.out]
                simp only [List.all_cons, List.all_nil, Bool.and_true, Bool.true_and]
                exact isD_of (by omega) (by omega))
              clear hts hmem
              go_wp2
              go_round
              case rel => exact ⟨k + 1, by omega, by go_num, ha2⟩
              case measure => first | (simp [RowKit.intOf]; done) | (simp [RowKit.intOf]; omega)
        · obtain rfl : k = d.size := by omega
          have HA : Hid (d.data.toList.all isD = true) := hidden (by
            have := ha.out
            rwa [List.take_of_length_le (by simp)] at this)
          clear ha hk hlt
          by_cases he : d.size = 0
          · have hde : d = ⟨#[]⟩ := by
              apply ByteArray.ext
              apply Array.ext'
              exact List.eq_nil_of_length_eq_zero (by simpa using he)
            have hdn : d.data.toList = [] := by rw [hde]
            have hno : Hid (r = none) := hidden (by rw [HSay.out, hdn, if_neg (by rw [wr_nil]; simp)])
            clear hdn HSay HA hsl
            subst hde
            go_wp2
            refine bodyPost_ret (v := .tuple #[.agg #[.bool false, .slice none 0 0], .bool false]) (by simp [results, Tryd.results10, go_sem]) rfl (parsed_none hno.out HAL.out)
          · have hp : 0 < d.size := by omega
            have hEb := not_empty2 hp
            have hh : Hid (d.data.toList.headD 48 = d[0]) := hidden (by
              have h1 : d[0] = d.data.toList[0]'(by simpa using hp) := rfl
              rw [h1]
              exact headD_zero _ _)
            clear he
            by_cases h48 : (d[0].toNat : Int) = 48
            · have h48c : d[0] = 48 := UInt8.toNat_inj.1 (by have e : (48 : UInt8).toNat = 48 := rfl; omega)
              have hhd : Hid (d.data.toList.headD 48 = 48) := hidden (by rw [hh.out]; exact h48c)
              clear h48c hh
              by_cases hl1 : 1 < d.size
              · have hno : Hid (r = none) := hidden (by rw [HSay.out, if_neg (by rw [wr_led hhd.out (by rw [hsl.out]; exact hl1)]; simp)])
                go_wp2
                refine bodyPost_ret (v := .tuple #[.agg #[.bool false, .slice none 0 0], .bool false]) (by simp [results, Tryd.results10, go_sem]) rfl (parsed_none hno.out HAL.out)
              · have hd1 : d.size = 1 := by omega
                have hD48 : Hid (d.data.toList = [48]) := hidden (by
                  have h1 := hsl.out
                  rw [hd1] at h1
                  have h2 := hhd.out
                  generalize d.data.toList = L at h1 h2
                  match L, h1 with
                  | [x], _ => simp at h2; rw [h2])
                have hno : Hid (r = none) := hidden (by rw [HSay.out, hD48.out, if_neg (by simp)])
                go_wp2
                refine bodyPost_ret (v := .tuple #[.agg #[.bool false, .slice none 0 0], .bool false]) (by simp [results, Tryd.results10, go_sem]) rfl (parsed_none hno.out HAL.out)
            · have h48c : d[0] ≠ 48 := fun e => h48 (by rw [e]; rfl)
              have hwr : wr d.data.toList = true := wr_ok HA.out (by rw [hh.out]; exact h48c)
              have HVAL : Hid (r = some (sgnv true (nv d.data.toList))) := hidden (by rw [HSay.out, if_pos (by refine ⟨hwr, fun _ e => ?_⟩; have := hh.out; rw [e] at this; exact h48c this.symm)])
              have hb48 : ((d[0].toNat : Int) == 48) = false := beq_eq_false_iff_ne.2 h48
              clear HSay hh h48c hwr h48
              have HW1 := hidden (show w.heap.size + 1 ≤ (w.alloc (.cells #[.bool false, .slice none 0 0] 28)).heap.size by simp)
              go_wp2
              generalize w.alloc (.cells #[.bool false, .slice none 0 0] 28) = W1 at HB HAL HW1 ⊢
              go_loopw [7, 8, 9, 10] (fun v e _ _ wr => ∃ (k : Nat) (l : List Nat), e = .int .i64 ((d.size : Int) - 4 * (k : Int)) ∧ 4 * k ≤ d.size + 3 ∧ l.length = k ∧ Hid (OwnN wr (w.heap.size + 1) v l) ∧ Hid (Dig l) ∧ Hid (val l = nv (d.data.toList.drop (d.size - 4 * k))) ∧ Hid (Below (w.heap.size + 1) W1 wr)) (fun _ e _ _ _ => (RowKit.intOf e).toNat)
              case atStart => exact ⟨0, [], by go_num, by omega, rfl, hidden (ownN_nil _ _), hidden dig_nil, hidden (by rw [Nat.mul_zero, Nat.sub_zero, List.drop_of_length_le (by rw [hsl.out]; exact Nat.le_refl _)]; rfl), hidden (Below.refl _ _)⟩
              case round =>
                obtain ⟨k, l, rfl, hk, hlk, hO, hD, hv, hbe⟩ := hrel
                have hw1 := HW1.out
                have hwr := hbe.out.size
                by_cases hlt : 4 * k < d.size
                · obtain ⟨en, hen⟩ : ∃ en, d.size - 4 * k = en := ⟨_, rfl⟩
                  have hen2 : en + 4 * k = d.size := by omega
                  rw [show (d.size : Int) - 4 * (k : Int) = (en : Int) by omega]
                  rw [hen] at hv
                  have hen0 : 0 < en := by omega
                  have HEN := hidden hen2
                  have HLK := hidden hlk
                  have hle : en ≤ d.size := by omega
                  have hll : l.length < 1000000 := by omega
                  clear hen hen2 hlk hlt
                  obtain ⟨ao, cap, rfl, _, _⟩ := hO.out.src
                  obtain ⟨m, hm⟩ : ∃ m, l.length = m := ⟨_, rfl⟩
                  rw [hm] at hO ⊢
                  have HM := hidden hm
                  by_cases h9 : 4 < en
                  · go_wp2
                    go_loop [9, 10] (fun p i => ∃ (j q : Nat), en - 4 ≤ j ∧ j ≤ en ∧ i = .int .i64 (j : Int) ∧ p = .int .i64 (q : Int) ∧ q < 10000 ∧ Hid (q = nv ((d.data.toList.drop (en - 4)).take (j - (en - 4))))) (fun _ i => en - (RowKit.intOf i).toNat)
                    case atStart => exact ⟨en - 4, 0, Nat.le_refl _, by omega, by go_num, rfl, by omega, hidden (by rw [Nat.sub_self, List.take_zero]; rfl)⟩
                    case round =>
                      obtain ⟨j, q, hj0, hj1, rfl, rfl, hq, hqe⟩ := hrel
                      by_cases hlj : j < en
                      · have hjs : j < d.size := by omega
                        have hdj : isD d[j] = true := all_get HA.out j (by rw [hsl.out]; exact hjs)
                        have hdj2 := of_decide_eq_true hdj
                        have hsn := chunk_snoc d (en - 4) j hj0 hjs
                        have hbn := chunk_lt d.data.toList (en - 4) (j + 1 - (en - 4)) HA.out (by omega)
                        rw [hsn, nv_snoc, ← hqe.out] at hbn
                        have hnx : Hid (10 * q + (d[j].toNat - 48) = nv ((d.data.toList.drop (en - 4)).take (j + 1 - (en - 4)))) := hidden (by rw [hsn, nv_snoc, ← hqe.out])
                        obtain ⟨c, hc⟩ : ∃ c, d[j].toNat = c := ⟨_, rfl⟩
                        rw [hc] at hdj2 hbn hnx
                        have hci : (d[j].toNat : Int) = (c : Int) := by rw [hc]
                        have c0 : 48 ≤ c := hdj2.1
                        have c1 : c ≤ 57 := hdj2.2
                        clear hdj hsn hc hdj2
                        go_wp2
                        go_round
                        case rel => exact ⟨j + 1, 10 * q + (c - 48), by omega, by omega, by go_num, by go_num, hbn, hnx⟩
                        case measure => first | (simp [RowKit.intOf]; done) | (simp [RowKit.intOf]; omega)
                      · obtain rfl : en = j := by omega
                        have HL := hidden (one_lit wr q)
                        have HO1 := hidden (show OwnN (wr.alloc (.cells #[.int .i64 (q : Int)] 3)) (w.heap.size + 1) (.slice ao m cap) l from hO.out.of_eq fun k _ hk => Below.heap_alloc wr _ k hk)
                        have hsz := hbe.out.size
                        have hsp := read_step (l := d.data.toList) (st := en - 4) (en := en) (k := k) (by omega) (by rw [hsl.out]; exact HEN.out) hv.out hqe.out
                        have HSP := hidden hsp
                        clear hsp
                        go_wp2_with (at_builtin; refine append_parts (wr.alloc (.cells #[.int .i64 (q : Int)] 3)) rfl (.tmp 78) (.tmp 80) rfl (w.heap.size + 1) _ l [q] rfl HO1.out wr.heap.size 0 1 1 rfl rfl HL.out (by simp; omega) (by simp; omega) ?_; intro v2 w2 h1 h2)
                        go_roundw
                        case rel =>
                          refine ⟨k + 1, l ++ [q], by have := HEN.out; go_num, by have := HEN.out; omega, by simp [HLK.out], hidden h1, hidden (dig_append hD.out (fun x hx => by rw [List.mem_singleton.1 hx]; exact hq)), hidden ?_, hidden ((hbe.out.alloc (by omega) _).trans h2)⟩
                          rw [val_append, HLK.out, show d.size - 4 * (k + 1) = en - 4 by have := HEN.out; omega, ← HSP.out]
                          simp [val]
                        case measure => first | (simp [RowKit.intOf]; done) | (simp [RowKit.intOf]; omega)
                  · have h9n : (en : Int) - 4 ≤ 0 := by omega
                    go_wp2
                    go_loop [9, 10] (fun p i => ∃ (j q : Nat), 0 ≤ j ∧ j ≤ en ∧ i = .int .i64 (j : Int) ∧ p = .int .i64 (q : Int) ∧ q < 10000 ∧ Hid (q = nv ((d.data.toList.drop (0)).take (j - (0))))) (fun _ i => en - (RowKit.intOf i).toNat)
                    case atStart => exact ⟨0, 0, Nat.le_refl _, by omega, by go_num, rfl, by omega, hidden (by rw [Nat.sub_self, List.take_zero]; rfl)⟩
                    case round =>
                      obtain ⟨j, q, hj0, hj1, rfl, rfl, hq, hqe⟩ := hrel
                      by_cases hlj : j < en
                      · have hjs : j < d.size := by omega
                        have hdj : isD d[j] = true := all_get HA.out j (by rw [hsl.out]; exact hjs)
                        have hdj2 := of_decide_eq_true hdj
                        have hsn := chunk_snoc d (0) j hj0 hjs
                        have hbn := chunk_lt d.data.toList (0) (j + 1 - (0)) HA.out (by omega)
                        rw [hsn, nv_snoc, ← hqe.out] at hbn
                        have hnx : Hid (10 * q + (d[j].toNat - 48) = nv ((d.data.toList.drop (0)).take (j + 1 - (0)))) := hidden (by rw [hsn, nv_snoc, ← hqe.out])
                        obtain ⟨c, hc⟩ : ∃ c, d[j].toNat = c := ⟨_, rfl⟩
                        rw [hc] at hdj2 hbn hnx
                        have hci : (d[j].toNat : Int) = (c : Int) := by rw [hc]
                        have c0 : 48 ≤ c := hdj2.1
                        have c1 : c ≤ 57 := hdj2.2
                        clear hdj hsn hc hdj2
                        go_wp2
                        go_round
                        case rel => exact ⟨j + 1, 10 * q + (c - 48), by omega, by omega, by go_num, by go_num, hbn, hnx⟩
                        case measure => first | (simp [RowKit.intOf]; done) | (simp [RowKit.intOf]; omega)
                      · obtain rfl : en = j := by omega
                        have HL := hidden (one_lit wr q)
                        have HO1 := hidden (show OwnN (wr.alloc (.cells #[.int .i64 (q : Int)] 3)) (w.heap.size + 1) (.slice ao m cap) l from hO.out.of_eq fun k _ hk => Below.heap_alloc wr _ k hk)
                        have hsz := hbe.out.size
                        have hsp := read_step (l := d.data.toList) (st := 0) (en := en) (k := k) (by omega) (by rw [hsl.out]; exact HEN.out) hv.out hqe.out
                        have HSP := hidden hsp
                        clear hsp
                        go_wp2_with (at_builtin; refine append_parts (wr.alloc (.cells #[.int .i64 (q : Int)] 3)) rfl (.tmp 78) (.tmp 80) rfl (w.heap.size + 1) _ l [q] rfl HO1.out wr.heap.size 0 1 1 rfl rfl HL.out (by simp; omega) (by simp; omega) ?_; intro v2 w2 h1 h2)
                        go_roundw
                        case rel =>
                          refine ⟨k + 1, l ++ [q], by have := HEN.out; go_num, by have := HEN.out; omega, by simp [HLK.out], hidden h1, hidden (dig_append hD.out (fun x hx => by rw [List.mem_singleton.1 hx]; exact hq)), hidden ?_, hidden ((hbe.out.alloc (by omega) _).trans h2)⟩
                          rw [val_append, HLK.out, show d.size - 4 * (k + 1) = 0 by have := HEN.out; omega, ← HSP.out]
                          simp [val]
                        case measure => first | (simp [RowKit.intOf]; done) | (simp [RowKit.intOf]; omega)
                · have hk0 : d.size - 4 * k = 0 := by omega
                  have hvf : val l = nv d.data.toList := by have := hv.out; rwa [hk0, List.drop_zero] at this
                  have hng : (d.size : Int) - 4 * (k : Int) ≤ 0 := by omega
                  have hkl : k ≤ 601 := by omega
                  obtain ⟨so, cap, rfl, hcap, hsrc⟩ := hO.out.src
                  rw [hlk] at hcap ⊢
                  have HT := hidden (trim_any true so k cap l wr hlk (by omega) hcap hsrc hD.out)
                  have HVF := hidden hvf
                  have hr1 := hidden (HB.out.below hbe.out (by omega))
                  clear hk0 hvf hsrc hO hlk hv
                  go_wp2_with fail
                  refine HT.out.mono ?_
                  rintro e w2 ⟨v, rfl, hN, hb2⟩
                  have HN := hidden hN
                  obtain ⟨n3, a3, c3, l3, rfl, _⟩ := hN
                  have hr2 := hr1.out.below hb2 (show w.heap.size < wr.heap.size by omega)
                  obtain ⟨f0, f1, f2, f3⟩ := hr2.facts
                  have hst := (Blk.set hr2 (.bool n3) (.slice a3 l3.length c3)).facts
                  obtain ⟨g1, g2⟩ := numAt_stored (w := w) (HAL.out.trans ((hbe.out.mono (by omega)).trans (hb2.mono (by omega)))) (Nat.le_refl _) hr2 HN.out
                  have HG1 := hidden g1
                  have HG2 := hidden g2
                  have HST := hidden hst
                  clear hst g1 g2 hr2 hb2
                  go_wp2
                  refine bodyPost_ret (v := .tuple #[.agg #[.bool n3, .slice a3 l3.length c3], .bool true]) (by simp [results, Tryd.results10, go_sem, HST.out.1, HST.out.2.1]) rfl (parsed_some HVAL.out HG2.out ?_)
                  have e := HG1.out
                  rw [HVF.out] at e
                  exact e.mono (by omega)
    · have HSay : Hid (r = if wr s.data.toList = true ∧ (false = true → s.data.toList ≠ [48]) then some (sgnv false (nv s.data.toList)) else none) := hidden (by
        have e1 : s.data.toList.headD 0 ≠ 45 := by
          have h3 : s[0] ≠ 45 := fun e => h45 (by rw [e]; rfl)
          rw [tail_list s h0]
          exact h3
        rw [← HR.out, says, if_neg e1]
        by_cases hc : wr s.data.toList = true
        · rw [if_pos hc, if_pos ⟨hc, fun h => by cases h⟩]; rfl
        · rw [if_neg hc, if_neg (fun h => hc h.1)])
      have h45b : ((s[0].toNat : Int) == 45) = false := beq_eq_false_iff_ne.2 h45
      go_enter Tryd.func10, Tryd.ntmps10
      go_upto_region 5 with fail
      clear h45b HR
      go_wp2
      have hsl : Hid (s.data.toList.length = s.size) := hidden (by simp)
      go_loop [6] (fun i => ∃ k : Nat, k ≤ s.size ∧ i = .int .i64 k ∧ Hid ((s.data.toList.take k).all isD = true)) (fun i => s.size - (RowKit.intOf i).toNat)
      case atStart => exact ⟨0, Nat.zero_le _, rfl, hidden (by rw [List.take_zero]; rfl)⟩
      case round =>
        obtain ⟨k, hk, rfl, ha⟩ := hrel
        by_cases hlt : k < s.size
        · have hmem : Hid (s[k] ∈ s.data.toList) := hidden (by
            have : s[k] = s.data.toList[k]'(by simpa using hlt) := rfl
            rw [this]; exact List.getElem_mem _)
          by_cases h1 : (s[k].toNat : Int) < 48
          · have hno : Hid (r = none) := hidden (by rw [HSay.out, if_neg (by rw [wr_false hmem.out (notD_of (.inl h1))]; simp)])
            go_wp2
            refine bodyPost_ret (v := .tuple #[.agg #[.bool false, .slice none 0 0], .bool false]) (by simp [results, Tryd.results10, go_sem]) rfl (parsed_none hno.out HAL.out)
          · by_cases h2 : 57 < (s[k].toNat : Int)
            · have hno : Hid (r = none) := hidden (by rw [HSay.out, if_neg (by rw [wr_false hmem.out (notD_of (.inr h2))]; simp)])
              go_wp2
              refine bodyPost_ret (v := .tuple #[.agg #[.bool false, .slice none 0 0], .bool false]) (by simp [results, Tryd.results10, go_sem]) rfl (parsed_none hno.out HAL.out)
            · have hts := take_snocB s k hlt
              have ha2 : Hid ((s.data.toList.take (k + 1)).all isD = true) := hidden (by
                rw [hts, List.all_append, ha.out]
                simp only [List.all_cons, List.all_nil, Bool.and_true, Bool.true_and]
                exact isD_of (by omega) (by omega))
              clear hts hmem
              go_wp2
              go_round
              case rel => exact ⟨k + 1, by omega, by go_num, ha2⟩
              case measure => first | (simp [RowKit.intOf]; done) | (simp [RowKit.intOf]; omega)
        · obtain rfl : k = s.size := by omega
          have HA : Hid (s.data.toList.all isD = true) := hidden (by
            have := ha.out
            rwa [List.take_of_length_le (by simp)] at this)
          clear ha hk hlt
          by_cases he : s.size = 0
          · exact absurd he (by omega)
          · have hp : 0 < s.size := by omega
            have hEb := not_empty2 hp
            have hh : Hid (s.data.toList.headD 48 = s[0]) := hidden (by
              have h1 : s[0] = s.data.toList[0]'(by simpa using hp) := rfl
              rw [h1]
              exact headD_zero _ _)
            clear he
            by_cases h48 : (s[0].toNat : Int) = 48
            · have h48c : s[0] = 48 := UInt8.toNat_inj.1 (by have e : (48 : UInt8).toNat = 48 := rfl; omega)
              have hhd : Hid (s.data.toList.headD 48 = 48) := hidden (by rw [hh.out]; exact h48c)
              clear h48c hh
              by_cases hl1 : 1 < s.size
              · have hno : Hid (r = none) := hidden (by rw [HSay.out, if_neg (by rw [wr_led hhd.out (by rw [hsl.out]; exact hl1)]; simp)])
                go_wp2
                refine bodyPost_ret (v := .tuple #[.agg #[.bool false, .slice none 0 0], .bool false]) (by simp [results, Tryd.results10, go_sem]) rfl (parsed_none hno.out HAL.out)
              · have hd1 : s.size = 1 := by omega
                have hD48 : Hid (s.data.toList = [48]) := hidden (by
                  have h1 := hsl.out
                  rw [hd1] at h1
                  have h2 := hhd.out
                  generalize s.data.toList = L at h1 h2
                  match L, h1 with
                  | [x], _ => simp at h2; rw [h2])
                have HVAL : Hid (r = some (sgnv false (nv s.data.toList))) := hidden (by rw [HSay.out, if_pos (by rw [hD48.out]; decide)])
                clear HSay hD48 hhd
                have HW1 := hidden (show w.heap.size + 1 ≤ (w.alloc (.cells #[.bool false, .slice none 0 0] 28)).heap.size by simp)
                go_wp2
                generalize w.alloc (.cells #[.bool false, .slice none 0 0] 28) = W1 at HB HAL HW1 ⊢
                go_loopw [7, 8, 9, 10] (fun v e _ _ wr => ∃ (k : Nat) (l : List Nat), e = .int .i64 ((s.size : Int) - 4 * (k : Int)) ∧ 4 * k ≤ s.size + 3 ∧ l.length = k ∧ Hid (OwnN wr (w.heap.size + 1) v l) ∧ Hid (Dig l) ∧ Hid (val l = nv (s.data.toList.drop (s.size - 4 * k))) ∧ Hid (Below (w.heap.size + 1) W1 wr)) (fun _ e _ _ _ => (RowKit.intOf e).toNat)
                case atStart => exact ⟨0, [], by go_num, by omega, rfl, hidden (ownN_nil _ _), hidden dig_nil, hidden (by rw [Nat.mul_zero, Nat.sub_zero, List.drop_of_length_le (by rw [hsl.out]; exact Nat.le_refl _)]; rfl), hidden (Below.refl _ _)⟩
                case round =>
                  obtain ⟨k, l, rfl, hk, hlk, hO, hD, hv, hbe⟩ := hrel
                  have hw1 := HW1.out
                  have hwr := hbe.out.size
                  by_cases hlt : 4 * k < s.size
                  · obtain ⟨en, hen⟩ : ∃ en, s.size - 4 * k = en := ⟨_, rfl⟩
                    have hen2 : en + 4 * k = s.size := by omega
                    rw [show (s.size : Int) - 4 * (k : Int) = (en : Int) by omega]
                    rw [hen] at hv
                    have hen0 : 0 < en := by omega
                    have HEN := hidden hen2
                    have HLK := hidden hlk
                    have hle : en ≤ s.size := by omega
                    have hll : l.length < 1000000 := by omega
                    clear hen hen2 hlk hlt
                    obtain ⟨ao, cap, rfl, _, _⟩ := hO.out.src
                    obtain ⟨m, hm⟩ : ∃ m, l.length = m := ⟨_, rfl⟩
                    rw [hm] at hO ⊢
                    have HM := hidden hm
                    by_cases h9 : 4 < en
                    · exfalso
                      have := HEN.out
                      omega
                    · have h9n : (en : Int) - 4 ≤ 0 := by omega
                      go_wp2
                      go_loop [9, 10] (fun p i => ∃ (j q : Nat), 0 ≤ j ∧ j ≤ en ∧ i = .int .i64 (j : Int) ∧ p = .int .i64 (q : Int) ∧ q < 10000 ∧ Hid (q = nv ((s.data.toList.drop (0)).take (j - (0))))) (fun _ i => en - (RowKit.intOf i).toNat)
                      case atStart => exact ⟨0, 0, Nat.le_refl _, by omega, by go_num, rfl, by omega, hidden (by rw [Nat.sub_self, List.take_zero]; rfl)⟩
                      case round =>
                        obtain ⟨j, q, hj0, hj1, rfl, rfl, hq, hqe⟩ := hrel
                        by_cases hlj : j < en
                        · have hjs : j < s.size := by omega
                          have hdj : isD s[j] = true := all_get HA.out j (by rw [hsl.out]; exact hjs)
                          have hdj2 := of_decide_eq_true hdj
                          have hsn := chunk_snoc s (0) j hj0 hjs
                          have hbn := chunk_lt s.data.toList (0) (j + 1 - (0)) HA.out (by omega)
                          rw [hsn, nv_snoc, ← hqe.out] at hbn
                          have hnx : Hid (10 * q + (s[j].toNat - 48) = nv ((s.data.toList.drop (0)).take (j + 1 - (0)))) := hidden (by rw [hsn, nv_snoc, ← hqe.out])
                          obtain ⟨c, hc⟩ : ∃ c, s[j].toNat = c := ⟨_, rfl⟩
                          rw [hc] at hdj2 hbn hnx
                          have hci : (s[j].toNat : Int) = (c : Int) := by rw [hc]
                          have c0 : 48 ≤ c := hdj2.1
                          have c1 : c ≤ 57 := hdj2.2
                          clear hdj hsn hc hdj2
                          go_wp2
                          go_round
                          case rel => exact ⟨j + 1, 10 * q + (c - 48), by omega, by omega, by go_num, by go_num, hbn, hnx⟩
                          case measure => first | (simp [RowKit.intOf]; done) | (simp [RowKit.intOf]; omega)
                        · obtain rfl : en = j := by omega
                          have HL := hidden (one_lit wr q)
                          have HO1 := hidden (show OwnN (wr.alloc (.cells #[.int .i64 (q : Int)] 3)) (w.heap.size + 1) (.slice ao m cap) l from hO.out.of_eq fun k _ hk => Below.heap_alloc wr _ k hk)
                          have hsz := hbe.out.size
                          have hsp := read_step (l := s.data.toList) (st := 0) (en := en) (k := k) (by omega) (by rw [hsl.out]; exact HEN.out) hv.out hqe.out
                          have HSP := hidden hsp
                          clear hsp
                          go_wp2_with (at_builtin; refine append_parts (wr.alloc (.cells #[.int .i64 (q : Int)] 3)) rfl (.tmp 78) (.tmp 80) rfl (w.heap.size + 1) _ l [q] rfl HO1.out wr.heap.size 0 1 1 rfl rfl HL.out (by simp; omega) (by simp; omega) ?_; intro v2 w2 h1 h2)
                          go_roundw
                          case rel =>
                            refine ⟨k + 1, l ++ [q], by have := HEN.out; go_num, by have := HEN.out; omega, by simp [HLK.out], hidden h1, hidden (dig_append hD.out (fun x hx => by rw [List.mem_singleton.1 hx]; exact hq)), hidden ?_, hidden ((hbe.out.alloc (by omega) _).trans h2)⟩
                            rw [val_append, HLK.out, show s.size - 4 * (k + 1) = 0 by have := HEN.out; omega, ← HSP.out]
                            simp [val]
                          case measure => first | (simp [RowKit.intOf]; done) | (simp [RowKit.intOf]; omega)
                  · have hk0 : s.size - 4 * k = 0 := by omega
                    have hvf : val l = nv s.data.toList := by have := hv.out; rwa [hk0, List.drop_zero] at this
                    have hng : (s.size : Int) - 4 * (k : Int) ≤ 0 := by omega
                    have hkl : k ≤ 601 := by omega
                    obtain ⟨so, cap, rfl, hcap, hsrc⟩ := hO.out.src
                    rw [hlk] at hcap ⊢
                    have HT := hidden (trim_any false so k cap l wr hlk (by omega) hcap hsrc hD.out)
                    have HVF := hidden hvf
                    have hr1 := hidden (HB.out.below hbe.out (by omega))
                    clear hk0 hvf hsrc hO hlk hv
                    go_wp2_with fail
                    refine HT.out.mono ?_
                    rintro e w2 ⟨v, rfl, hN, hb2⟩
                    have HN := hidden hN
                    obtain ⟨n3, a3, c3, l3, rfl, _⟩ := hN
                    have hr2 := hr1.out.below hb2 (show w.heap.size < wr.heap.size by omega)
                    obtain ⟨f0, f1, f2, f3⟩ := hr2.facts
                    have hst := (Blk.set hr2 (.bool n3) (.slice a3 l3.length c3)).facts
                    obtain ⟨g1, g2⟩ := numAt_stored (w := w) (HAL.out.trans ((hbe.out.mono (by omega)).trans (hb2.mono (by omega)))) (Nat.le_refl _) hr2 HN.out
                    have HG1 := hidden g1
                    have HG2 := hidden g2
                    have HST := hidden hst
                    clear hst g1 g2 hr2 hb2
                    go_wp2
                    refine bodyPost_ret (v := .tuple #[.agg #[.bool n3, .slice a3 l3.length c3], .bool true]) (by simp [results, Tryd.results10, go_sem, HST.out.1, HST.out.2.1]) rfl (parsed_some HVAL.out HG2.out ?_)
                    have e := HG1.out
                    rw [HVF.out] at e
                    exact e.mono (by omega)
            · have h48c : s[0] ≠ 48 := fun e => h48 (by rw [e]; rfl)
              have hwr : wr s.data.toList = true := wr_ok HA.out (by rw [hh.out]; exact h48c)
              have HVAL : Hid (r = some (sgnv false (nv s.data.toList))) := hidden (by rw [HSay.out, if_pos (by exact ⟨hwr, fun h => by cases h⟩)])
              have hb48 : ((s[0].toNat : Int) == 48) = false := beq_eq_false_iff_ne.2 h48
              clear HSay hh h48c hwr h48
              have HW1 := hidden (show w.heap.size + 1 ≤ (w.alloc (.cells #[.bool false, .slice none 0 0] 28)).heap.size by simp)
              go_wp2
              generalize w.alloc (.cells #[.bool false, .slice none 0 0] 28) = W1 at HB HAL HW1 ⊢
              go_loopw [7, 8, 9, 10] (fun v e _ _ wr => ∃ (k : Nat) (l : List Nat), e = .int .i64 ((s.size : Int) - 4 * (k : Int)) ∧ 4 * k ≤ s.size + 3 ∧ l.length = k ∧ Hid (OwnN wr (w.heap.size + 1) v l) ∧ Hid (Dig l) ∧ Hid (val l = nv (s.data.toList.drop (s.size - 4 * k))) ∧ Hid (Below (w.heap.size + 1) W1 wr)) (fun _ e _ _ _ => (RowKit.intOf e).toNat)
              case atStart => exact ⟨0, [], by go_num, by omega, rfl, hidden (ownN_nil _ _), hidden dig_nil, hidden (by rw [Nat.mul_zero, Nat.sub_zero, List.drop_of_length_le (by rw [hsl.out]; exact Nat.le_refl _)]; rfl), hidden (Below.refl _ _)⟩
              case round =>
                obtain ⟨k, l, rfl, hk, hlk, hO, hD, hv, hbe⟩ := hrel
                have hw1 := HW1.out
                have hwr := hbe.out.size
                by_cases hlt : 4 * k < s.size
                · obtain ⟨en, hen⟩ : ∃ en, s.size - 4 * k = en := ⟨_, rfl⟩
                  have hen2 : en + 4 * k = s.size := by omega
                  rw [show (s.size : Int) - 4 * (k : Int) = (en : Int) by omega]
                  rw [hen] at hv
                  have hen0 : 0 < en := by omega
                  have HEN := hidden hen2
                  have HLK := hidden hlk
                  have hle : en ≤ s.size := by omega
                  have hll : l.length < 1000000 := by omega
                  clear hen hen2 hlk hlt
                  obtain ⟨ao, cap, rfl, _, _⟩ := hO.out.src
                  obtain ⟨m, hm⟩ : ∃ m, l.length = m := ⟨_, rfl⟩
                  rw [hm] at hO ⊢
                  have HM := hidden hm
                  by_cases h9 : 4 < en
                  · go_wp2
                    go_loop [9, 10] (fun p i => ∃ (j q : Nat), en - 4 ≤ j ∧ j ≤ en ∧ i = .int .i64 (j : Int) ∧ p = .int .i64 (q : Int) ∧ q < 10000 ∧ Hid (q = nv ((s.data.toList.drop (en - 4)).take (j - (en - 4))))) (fun _ i => en - (RowKit.intOf i).toNat)
                    case atStart => exact ⟨en - 4, 0, Nat.le_refl _, by omega, by go_num, rfl, by omega, hidden (by rw [Nat.sub_self, List.take_zero]; rfl)⟩
                    case round =>
                      obtain ⟨j, q, hj0, hj1, rfl, rfl, hq, hqe⟩ := hrel
                      by_cases hlj : j < en
                      · have hjs : j < s.size := by omega
                        have hdj : isD s[j] = true := all_get HA.out j (by rw [hsl.out]; exact hjs)
                        have hdj2 := of_decide_eq_true hdj
                        have hsn := chunk_snoc s (en - 4) j hj0 hjs
                        have hbn := chunk_lt s.data.toList (en - 4) (j + 1 - (en - 4)) HA.out (by omega)
                        rw [hsn, nv_snoc, ← hqe.out] at hbn
                        have hnx : Hid (10 * q + (s[j].toNat - 48) = nv ((s.data.toList.drop (en - 4)).take (j + 1 - (en - 4)))) := hidden (by rw [hsn, nv_snoc, ← hqe.out])
                        obtain ⟨c, hc⟩ : ∃ c, s[j].toNat = c := ⟨_, rfl⟩
                        rw [hc] at hdj2 hbn hnx
                        have hci : (s[j].toNat : Int) = (c : Int) := by rw [hc]
                        have c0 : 48 ≤ c := hdj2.1
                        have c1 : c ≤ 57 := hdj2.2
                        clear hdj hsn hc hdj2
                        go_wp2
                        go_round
                        case rel => exact ⟨j + 1, 10 * q + (c - 48), by omega, by omega, by go_num, by go_num, hbn, hnx⟩
                        case measure => first | (simp [RowKit.intOf]; done) | (simp [RowKit.intOf]; omega)
                      · obtain rfl : en = j := by omega
                        have HL := hidden (one_lit wr q)
                        have HO1 := hidden (show OwnN (wr.alloc (.cells #[.int .i64 (q : Int)] 3)) (w.heap.size + 1) (.slice ao m cap) l from hO.out.of_eq fun k _ hk => Below.heap_alloc wr _ k hk)
                        have hsz := hbe.out.size
                        have hsp := read_step (l := s.data.toList) (st := en - 4) (en := en) (k := k) (by omega) (by rw [hsl.out]; exact HEN.out) hv.out hqe.out
                        have HSP := hidden hsp
                        clear hsp
                        go_wp2_with (at_builtin; refine append_parts (wr.alloc (.cells #[.int .i64 (q : Int)] 3)) rfl (.tmp 78) (.tmp 80) rfl (w.heap.size + 1) _ l [q] rfl HO1.out wr.heap.size 0 1 1 rfl rfl HL.out (by simp; omega) (by simp; omega) ?_; intro v2 w2 h1 h2)
                        go_roundw
                        case rel =>
                          refine ⟨k + 1, l ++ [q], by have := HEN.out; go_num, by have := HEN.out; omega, by simp [HLK.out], hidden h1, hidden (dig_append hD.out (fun x hx => by rw [List.mem_singleton.1 hx]; exact hq)), hidden ?_, hidden ((hbe.out.alloc (by omega) _).trans h2)⟩
                          rw [val_append, HLK.out, show s.size - 4 * (k + 1) = en - 4 by have := HEN.out; omega, ← HSP.out]
                          simp [val]
                        case measure => first | (simp [RowKit.intOf]; done) | (simp [RowKit.intOf]; omega)
                  · have h9n : (en : Int) - 4 ≤ 0 := by omega
                    go_wp2
                    go_loop [9, 10] (fun p i => ∃ (j q : Nat), 0 ≤ j ∧ j ≤ en ∧ i = .int .i64 (j : Int) ∧ p = .int .i64 (q : Int) ∧ q < 10000 ∧ Hid (q = nv ((s.data.toList.drop (0)).take (j - (0))))) (fun _ i => en - (RowKit.intOf i).toNat)
                    case atStart => exact ⟨0, 0, Nat.le_refl _, by omega, by go_num, rfl, by omega, hidden (by rw [Nat.sub_self, List.take_zero]; rfl)⟩
                    case round =>
                      obtain ⟨j, q, hj0, hj1, rfl, rfl, hq, hqe⟩ := hrel
                      by_cases hlj : j < en
                      · have hjs : j < s.size := by omega
                        have hdj : isD s[j] = true := all_get HA.out j (by rw [hsl.out]; exact hjs)
                        have hdj2 := of_decide_eq_true hdj
                        have hsn := chunk_snoc s (0) j hj0 hjs
                        have hbn := chunk_lt s.data.toList (0) (j + 1 - (0)) HA.out (by omega)
                        rw [hsn, nv_snoc, ← hqe.out] at hbn
                        have hnx : Hid (10 * q + (s[j].toNat - 48) = nv ((s.data.toList.drop (0)).take (j + 1 - (0)))) := hidden (by rw [hsn, nv_snoc, ← hqe.out])
                        obtain ⟨c, hc⟩ : ∃ c, s[j].toNat = c := ⟨_, rfl⟩
                        rw [hc] at hdj2 hbn hnx
                        have hci : (s[j].toNat : Int) = (c : Int) := by rw [hc]
                        have c0 : 48 ≤ c := hdj2.1
                        have c1 : c ≤ 57 := hdj2.2
                        clear hdj hsn hc hdj2
                        go_wp2
                        go_round
                        case rel => exact ⟨j + 1, 10 * q + (c - 48), by omega, by omega, by go_num, by go_num, hbn, hnx⟩
                        case measure => first | (simp [RowKit.intOf]; done) | (simp [RowKit.intOf]; omega)
                      · obtain rfl : en = j := by omega
                        have HL := hidden (one_lit wr q)
                        have HO1 := hidden (show OwnN (wr.alloc (.cells #[.int .i64 (q : Int)] 3)) (w.heap.size + 1) (.slice ao m cap) l from hO.out.of_eq fun k _ hk => Below.heap_alloc wr _ k hk)
                        have hsz := hbe.out.size
                        have hsp := read_step (l := s.data.toList) (st := 0) (en := en) (k := k) (by omega) (by rw [hsl.out]; exact HEN.out) hv.out hqe.out
                        have HSP := hidden hsp
                        clear hsp
                        go_wp2_with (at_builtin; refine append_parts (wr.alloc (.cells #[.int .i64 (q : Int)] 3)) rfl (.tmp 78) (.tmp 80) rfl (w.heap.size + 1) _ l [q] rfl HO1.out wr.heap.size 0 1 1 rfl rfl HL.out (by simp; omega) (by simp; omega) ?_; intro v2 w2 h1 h2)
                        go_roundw
                        case rel =>
                          refine ⟨k + 1, l ++ [q], by have := HEN.out; go_num, by have := HEN.out; omega, by simp [HLK.out], hidden h1, hidden (dig_append hD.out (fun x hx => by rw [List.mem_singleton.1 hx]; exact hq)), hidden ?_, hidden ((hbe.out.alloc (by omega) _).trans h2)⟩
                          rw [val_append, HLK.out, show s.size - 4 * (k + 1) = 0 by have := HEN.out; omega, ← HSP.out]
                          simp [val]
                        case measure => first | (simp [RowKit.intOf]; done) | (simp [RowKit.intOf]; omega)
                · have hk0 : s.size - 4 * k = 0 := by omega
                  have hvf : val l = nv s.data.toList := by have := hv.out; rwa [hk0, List.drop_zero] at this
                  have hng : (s.size : Int) - 4 * (k : Int) ≤ 0 := by omega
                  have hkl : k ≤ 601 := by omega
                  obtain ⟨so, cap, rfl, hcap, hsrc⟩ := hO.out.src
                  rw [hlk] at hcap ⊢
                  have HT := hidden (trim_any false so k cap l wr hlk (by omega) hcap hsrc hD.out)
                  have HVF := hidden hvf
                  have hr1 := hidden (HB.out.below hbe.out (by omega))
                  clear hk0 hvf hsrc hO hlk hv
                  go_wp2_with fail
                  refine HT.out.mono ?_
                  rintro e w2 ⟨v, rfl, hN, hb2⟩
                  have HN := hidden hN
                  obtain ⟨n3, a3, c3, l3, rfl, _⟩ := hN
                  have hr2 := hr1.out.below hb2 (show w.heap.size < wr.heap.size by omega)
                  obtain ⟨f0, f1, f2, f3⟩ := hr2.facts
                  have hst := (Blk.set hr2 (.bool n3) (.slice a3 l3.length c3)).facts
                  obtain ⟨g1, g2⟩ := numAt_stored (w := w) (HAL.out.trans ((hbe.out.mono (by omega)).trans (hb2.mono (by omega)))) (Nat.le_refl _) hr2 HN.out
                  have HG1 := hidden g1
                  have HG2 := hidden g2
                  have HST := hidden hst
                  clear hst g1 g2 hr2 hb2
                  go_wp2
                  refine bodyPost_ret (v := .tuple #[.agg #[.bool n3, .slice a3 l3.length c3], .bool true]) (by simp [results, Tryd.results10, go_sem, HST.out.1, HST.out.2.1]) rfl (parsed_some HVAL.out HG2.out ?_)
                  have e := HG1.out
                  rw [HVF.out] at e
                  exact e.mono (by omega)
  · have hde : s = ⟨#[]⟩ := by
      apply ByteArray.ext
      apply Array.ext'
      exact List.eq_nil_of_length_eq_zero (by have h : s.data.toList.length = s.size := (by simp); omega)
    have hno : Hid (r = none) := hidden (by rw [← HR.out, hde]; rfl)
    clear HR hs h0
    subst hde
    go_enter Tryd.func10, Tryd.ntmps10
    go_wp2
    go_loop [6] (fun i => i = .int .i64 0) (fun _ => 0)
    case atStart => rfl
    case round =>
      subst hrel
      go_wp2
      refine bodyPost_ret (v := .tuple #[.agg #[.bool false, .slice none 0 0], .bool false]) (by simp [results, Tryd.results10, go_sem]) rfl (parsed_none hno.out HAL.out)
end Rv
end Go.Proofs.YtapdkibiegeijaaDoor
