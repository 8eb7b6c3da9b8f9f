/- The document's division of sizes. Conditions: short lists, limbs; what is divided by is not 0. -/
import Derived.Test.YtapdkibiegeijaaDoorRvB
import Derived.Laws.AppendOwnNone
namespace Go.Proofs.YtapdkibiegeijaaDoor
open Go.RowKit
namespace Rv

/-- A list as it stands in a variable: no address only where it is none at all. -/
def Adr (w : World) (B : Nat) (v : Value) (l : List Nat) : Prop := (v = .slice none 0 0 ∧ l = []) ∨ ∃ bk off cap, v = .slice (some ⟨bk, off, none⟩) l.length cap ∧ l.length ≤ cap ∧ B ≤ bk ∧ bk < w.heap.size ∧ AtN w bk off l
theorem Adr.below {w w' : World} {B : Nat} {v : Value} {l : List Nat} (h : Adr w B v l) (hb : Below w.heap.size w w') : Adr w' B v l := by
  rcases h with h | ⟨bk, off, cap, e, hc, hB, hl, ha⟩
  · exact .inl h
  · exact .inr ⟨bk, off, cap, e, hc, hB, Nat.lt_of_lt_of_le hl hb.size, ha.below hb hl⟩
theorem Adr.mono {w : World} {B B' : Nat} {v : Value} {l : List Nat} (h : Adr w B v l) (hB : B' ≤ B) : Adr w B' v l := by
  rcases h with h | ⟨bk, off, cap, e, hc, hB1, hl, ha⟩
  · exact .inl h
  · exact .inr ⟨bk, off, cap, e, hc, Nat.le_trans hB hB1, hl, ha⟩
theorem Adr.turn {w w' : World} {B g : Nat} {v : Value} {l : List Nat} (h : Adr w B v l) (ht : Turn g w w') (hg : g < B) : Adr w' B v l := by
  rcases h with h | ⟨bk, off, cap, e, hc, hB1, hl, ha⟩
  · exact .inl h
  · exact .inr ⟨bk, off, cap, e, hc, hB1, Nat.lt_of_lt_of_le hl ht.size, ha.turn ht hl (by omega)⟩
theorem Adr.src {w : World} {B : Nat} {v : Value} {l : List Nat} (h : Adr w B v l) : ∃ ao cap, v = .slice ao l.length cap ∧ l.length ≤ cap ∧ SrcN w ao l := by
  rcases h with ⟨rfl, rfl⟩ | ⟨bk, off, cap, rfl, hc, _, hl, ha⟩
  · exact ⟨none, 0, rfl, Nat.le_refl _, srcN_nil _ _⟩
  · exact ⟨_, cap, rfl, hc, fun _ => ⟨bk, off, rfl, hl, ha⟩⟩
theorem OwnN.adr {W : World} {B : Nat} {v : Value} {l : List Nat} (h : OwnN W B v l) : Adr W B v l := by
  rcases h.2 with ⟨rfl, h0⟩ | ⟨g, cap, cur, rfl, hB, hg, hc, _, hs, ht⟩
  · exact .inl ⟨rfl, List.length_eq_zero_iff.1 (by simpa using h0)⟩
  · refine .inr ⟨g, 0, cap, rfl, hc, hB, (Array.getElem?_eq_some_iff.1 hg).1, fun j x hx => ?_⟩
    rw [cell_of_row W g (0 + j) _ _ _ hg, Nat.zero_add]
    have h1 : (l.map nval)[j]? = some (nval x) := by rw [List.getElem?_map, hx]; rfl
    rw [← ht, List.getElem?_take] at h1
    split at h1
    · simpa using h1
    · cases h1
/-- A list that is cut at its end. -/
theorem Adr.cut {w : World} {B : Nat} {ao : Option Addr} {n cap : Nat} {l : List Nat} (h : Adr w B (.slice ao n cap) l) (c : Nat) (hc : c ≤ n) (hn : n = l.length) : Adr w B (.slice ao c cap) (l.take c) := by
  rcases h with ⟨e, rfl⟩ | ⟨bk, off, cap', e, h1, hB, hl, ha⟩
  · injection e with e1 e2 e3
    subst e1 e2 e3
    rw [show c = 0 by omega]
    exact .inl ⟨rfl, rfl⟩
  · injection e with e1 e2 e3
    subst e1 e3
    refine .inr ⟨bk, off, cap, by rw [List.length_take, Nat.min_eq_left (by omega)], by rw [List.length_take]; omega, hB, hl, ha.take c⟩
/-- A new list of one limb, and what an append to it gives. -/
theorem own_lit (w : World) (x : Nat) : OwnN (w.alloc (.cells #[.int .i64 (x : Int)] 3)) w.heap.size (.slice (some ⟨w.heap.size, 0, none⟩) 1 1) [x] :=
  World.ownsRow_lit (base := w.heap.size) (e := 3) (size := 1) w #[.int .i64 (x : Int)] 1 (Nat.le_refl _) (by unfold maxLen; omega) (by simp)
theorem append_adr {ops : Array Oper} {rest : List Oper} {o : Oper} {a : Act} {Q : Exit → Act → World → Prop} (w : World) (hgd : o.guard = none) (s x : Operand)
    (ho : o.op = .call { callee := .builtin .append, args := #[s, x], argTypes := #[26, 26] }) (base : Nat) (v vx : Value) (xs ys : List Nat) (hs : a.eval s = v) (hown : OwnN w base v xs) (hx : a.eval x = vx) {B : Nat} (hc : Adr w B vx ys)
    (hlen : xs.length + ys.length < 100000000) (hbase : base ≤ w.heap.size)
    (h : ∀ v' w', OwnN w' base v' (xs ++ ys) → Below base w w' → wpList Tryd.prog ops Q rest (a.put o.dst v') w') : wpList Tryd.prog ops Q (o :: rest) a w := by
  rcases hc with ⟨rfl, rfl⟩ | ⟨bk, off, cap, rfl, _, _, _, ha⟩
  · obtain ⟨i, hi, _⟩ := i64_parts
    refine wpList_append_own_none hgd s x 26 ho base 3 i 1 Tryd.underlying26 hi v xs.length (xs.map nval) hs hown hx (h v w (by rw [List.append_nil]; exact hown) (Below.refl _ _))
  · exact append_parts w hgd s x ho base v xs ys hs hown bk off ys.length cap hx rfl ha hlen hbase h
/-- Quotient and rest of sizes. -/
def Two (w w' : World) (e : Ending) (q r kq kr : Nat) : Prop := ∃ (qo : Option Addr) (qc : Nat) (Q : List Nat) (ro : Option Addr) (rc : Nat) (T : List Nat), e = .returned (.tuple #[.slice qo Q.length qc, .slice ro T.length rc]) ∧
  SrcN w' qo Q ∧ SrcN w' ro T ∧ Dig Q ∧ Dig T ∧ val Q = q ∧ val T = r ∧ Q.length ≤ kq ∧ T.length ≤ kr ∧ Q.length ≤ qc ∧ T.length ≤ rc ∧ Below w.heap.size w w'
theorem len_of_le {a b : List Nat} (ta : Trm a) (db : Dig b) (h : val a ≤ val b) : a.length ≤ b.length := by
  by_cases h1 : a.length ≤ b.length
  · exact h1
  · have := cmp_len db ta (by omega); omega
theorem sg_le (a b : Nat) : (sg a b ≤ 0) ↔ a ≤ b := by
  by_cases h : a < b
  · rw [sg_lt h]; omega
  · by_cases h2 : b < a
    · rw [sg_gt h2]; omega
    · rw [sg_eq (by omega)]; omega
/-- The middle. -/
theorem mid_div (lo hi : Nat) : Int.tdiv ((lo : Int) + hi + 1) 2 = (((lo + hi + 1) / 2 : Nat) : Int) := by
  rw [Int.tdiv_eq_ediv_of_nonneg (by omega)]; omega
set_option maxRecDepth 100000 in
set_option maxHeartbeats 12800000 in
theorem divided_any (ao bo : Option Addr) (ac bc : Nat) (a b : List Nat) (w : World) (hla : a.length < 1000000) (hlb : b.length < 1000000) (hb0 : 0 < b.length) (ha : SrcN w ao a) (hb : SrcN w bo b) (da : Dig a) (db : Dig b) (tb : Trm b) :
    Calls Tryd.prog 39 #[.slice ao a.length ac, .slice bo b.length bc] w fun e w' => Two w w' e (val a / val b) (val a % val b) a.length b.length := by
  obtain ⟨n, hn⟩ : ∃ n, a.length = n := ⟨_, rfl⟩
  obtain ⟨m, hm⟩ : ∃ m, b.length = m := ⟨_, rfl⟩
  have hvb : 0 < val b := val_pos tb hb0
  have hti := fun f W (hf : f < 10000) (h : SrcN W bo b) => times_any bo bc b f W (by omega) hf h db
  rw [hn] at hla ⊢
  rw [hm] at hlb hb0 hti ⊢
  have HTI := hidden hti
  have HVB := hidden hvb
  have HNA := hidden hn
  have HNB := hidden hm
  have HA := hidden ha
  have HB := hidden hb
  have HDA := hidden da
  have HDB := hidden db
  have HTB := hidden tb
  clear hn hm ha hb da db tb hvb hti
  have hmk := make_i64 .i64 .i64 n (by omega) (n : Int) (n : Int) rfl rfl
  go_enter Tryd.func39, Tryd.ntmps39
  go_wp2
  have hrow := rowN_alloc w (List.replicate n 0)
  have HROW := hidden hrow
  clear hrow hmk
  go_loopw [7, 8, 9, 10, 11] (fun vr i _ _ _ wr => ∃ (k : Nat) (R T : List Nat), k ≤ n ∧ i = .int .i64 ((k : Int) - 1) ∧ Hid (Adr wr (w.heap.size + 1) vr R) ∧ R.length ≤ m ∧ Hid (Dig R) ∧ Hid (Trm R) ∧ Hid (val R < val b) ∧ Hid (T.length = n) ∧ Hid (RowN wr w.heap.size T) ∧ Hid (Dig T) ∧
    Hid (val (a.drop k) = val (T.drop k) * val b + val R) ∧ Hid (Below w.heap.size w wr) ∧ w.heap.size + 1 ≤ wr.heap.size) (fun _ i _ _ _ _ => (intOf i + 1).toNat)
  case atStart => exact ⟨n, [], _, Nat.le_refl _, rfl, hidden (.inl ⟨rfl, rfl⟩), Nat.zero_le _, hidden (fun x hx => by cases hx), hidden trm_nil, hidden (by simpa [val] using HVB.out), hidden (by rw [List.length_replicate]), HROW, hidden (dig_zeros _), hidden (by rw [List.drop_of_length_le (by rw [HNA.out]; omega), List.drop_of_length_le (by rw [List.length_replicate]; omega)]; simp [val]), hidden ((Below.refl _ _).alloc (Nat.le_refl _) _), by simp⟩
  case round =>
    obtain ⟨wo, rfl⟩ : ∃ x, x = wr := ⟨_, rfl⟩
    obtain ⟨k, R, T, hk, rfl, hR, hRm, hRD, hRT, hRb, hT, hRow, hD, hv, hbe, hws⟩ := hrel
    clear HROW
    by_cases h0 : 0 < k
    · obtain ⟨j, rfl⟩ : ∃ j, k = j + 1 := ⟨k - 1, by omega⟩
      rw [show ((j + 1 : Nat) : Int) - 1 = (j : Int) by omega]
      obtain ⟨ak, af, rfl, hca⟩ := (HA.out.below hbe.out).get j (by rw [HNA.out]; omega)
      have hxl := dig_get HDA.out j
      obtain ⟨x, hx⟩ : ∃ x, a.getD j 0 = x := ⟨_, rfl⟩
      rw [hx] at hca hxl
      have HX := hidden hx
      clear hx
      have HO1 := hidden (own_lit wo x)
      have hal := (Below.refl wo.heap.size wo).alloc (Nat.le_refl _) (.cells #[.int .i64 (x : Int)] 3)
      have HAD := hidden (hR.out.below hal)
      clear hal
      go_wp2_with (at_builtin; refine append_adr (wo.alloc (.cells #[.int .i64 (x : Int)] 3)) rfl (.tmp 26) (.tmp 27) rfl wo.heap.size _ _ [x] R rfl HO1.out rfl HAD.out (by simp; omega) (by simp) ?_; intro v2 w2 h1 h2)
      have HV2 := hidden h1.adr
      obtain ⟨ro, rc, rfl, hrc, hrs⟩ := h1.adr.src
      have HR2 := hidden hrs
      have hb12 := (((Below.refl wo.heap.size wo).alloc (Nat.le_refl _) (.cells #[.int .i64 (x : Int)] 3))).trans h2
      have hlen1 : ([x] ++ R).length = R.length + 1 := by simp
      have hval1 : val ([x] ++ R) = x + 10000 * val R := rfl
      have hdig1 : Dig ([x] ++ R) := fun y hy => by
        rcases List.mem_append.1 hy with h | h
        · rw [List.mem_singleton.1 h]; exact hxl
        · exact hRD.out y h
      obtain ⟨L1, hL1⟩ : ∃ L, [x] ++ R = L := ⟨_, rfl⟩
      obtain ⟨t1, ht1⟩ : ∃ t, R.length + 1 = t := ⟨_, rfl⟩
      rw [hL1] at HV2 HR2 hrc hval1 hdig1 hlen1 ⊢
      rw [ht1] at hlen1
      rw [hlen1] at HV2 hrc ⊢
      have hvlt : val L1 < 10000 * val b := by rw [hval1]; exact div_bound hRb.out hxl
      have HLN := hidden hlen1
      have HLV := hidden hval1
      have HLD := hidden hdig1
      have HLT := hidden hvlt
      have HB12 := hidden hb12
      have ht1m : t1 ≤ m + 1 := by omega
      clear hL1 h1 h2 hrs hb12 hlen1 hval1 hdig1 hvlt HO1 HAD hR
      go_wp2_with fail
      refine (trim_full false ro t1 rc L1 w2 HLN.out (by omega) hrc HR2.out HLD.out).mono ?_
      rintro e w3 ⟨nb, c, rfl, hcut, hnb, hb3⟩
      have hc1 := cutN_le L1 t1
      rw [hcut] at hc1
      have HAR := hidden (((HV2.out.below hb3).cut c hc1 HLN.out.symm).mono (show w.heap.size + 1 ≤ wo.heap.size from hws))
      have HB13 := hidden (HB12.out.trans (hb3.mono HB12.out.size))
      have hfd := field_one nb ro c rc w3
      obtain ⟨R1, hR1⟩ : ∃ r, L1.take c = r := ⟨_, rfl⟩
      have hR1n : R1.length = c := by rw [← hR1, ← hcut]; exact cutN_len L1 t1 (by rw [HLN.out]; omega)
      have hR1t : Trm R1 := by rw [← hR1, ← hcut]; exact cutN_trm L1 t1 (by rw [HLN.out]; omega)
      have hR1v : val R1 = val L1 := by rw [← hR1, ← hcut, cutN_val, List.take_of_length_le (by rw [HLN.out]; omega)]
      have hR1d : Dig R1 := by rw [← hR1]; exact dig_take HLD.out c
      rw [hR1] at HAR
      have HR1n := hidden hR1n
      have HR1t := hidden hR1t
      have HR1d := hidden hR1d
      have HR1v := hidden hR1v
      have HRLT := hidden (show val R1 < 10000 * val b by rw [hR1v]; exact HLT.out)
      have hw3 : w.heap.size + 1 ≤ w3.heap.size := Nat.le_trans hws HB13.out.size
      clear hcut hnb hb3 hR1 hR1n hR1t hR1v hR1d HV2 HR2 HB12 HLT
      go_wp2
      clear hfd
      go_loopw [9, 10, 11] (fun vl vh _ wr => ∃ lo hi : Nat, vl = .int .i64 (lo : Int) ∧ vh = .int .i64 (hi : Int) ∧ lo ≤ hi ∧ hi ≤ 9999 ∧ Hid (lo * val b ≤ val R1) ∧ Hid (val R1 < (hi + 1) * val b) ∧ Hid (Below w3.heap.size w3 wr)) (fun vl vh _ _ => (intOf vh - intOf vl).toNat)
      case atStart => exact ⟨0, 9999, rfl, rfl, by omega, by omega, hidden (by rw [Nat.zero_mul]; exact Nat.zero_le _), hidden HRLT.out, hidden (Below.refl _ _)⟩
      case round =>
        obtain ⟨lo, hi, rfl, rfl, hlh, hh9, hlo, hhi, hbq⟩ := hrel
        by_cases hlt : lo < hi
        · obtain ⟨md, hmd⟩ : ∃ d, (lo + hi + 1) / 2 = d := ⟨_, rfl⟩
          have hmi := mid_div lo hi
          rw [hmd] at hmi
          have hm1 : lo < md := by omega
          have hm2 : md ≤ hi := by omega
          clear hmd
          go_wp2_with fail
          refine (HTI.out md wr (by omega) (HB.out.below (hbe.out.trans ((HB13.out.trans (hbq.out.mono HB13.out.size)).mono (Nat.le_trans (Nat.le_succ _) hws))))).mono ?_
          rintro e w5 ⟨so, sc, l2, rfl, hsc, hss, hsd, hst, hsl, hsv, hb5⟩
          have hsz := size_any so ro sc rc l2 R1 w5 (by rw [HR1n.out]; omega) hss ((by
            obtain ⟨_, _, e, _, h⟩ := (HAR.out.below (hbq.out.trans (hb5.mono hbq.out.size))).src
            injection e with e1 e2 e3
            subst e1
            exact h)) hsd HR1d.out hst HR1t.out
          rw [HR1n.out] at hsz
          obtain ⟨z, hz⟩ : ∃ z, sg (val l2) (val R1) = z := ⟨_, rfl⟩
          rw [hz] at hsz
          have HSZ := hidden hsz
          have HB5 := hidden (hbq.out.trans (hb5.mono hbq.out.size))
          have hzz : z ≤ 0 ↔ md * val b ≤ val R1 := by rw [← hz, sg_le, hsv, Nat.mul_comm]
          have HZZ := hidden hzz
          clear hsz hss hsd hst hsv hz hb5 hzz
          go_wp2_with fail
          refine HSZ.out.mono ?_
          rintro e w6 ⟨rfl, hb6⟩
          have HB6 := hidden (HB5.out.trans (hb6.mono HB5.out.size))
          clear hb6
          by_cases hz0 : z ≤ 0
          · have hle := HZZ.out.1 hz0
            have HLE := hidden hle
            clear hle
            go_wp2
            go_roundw
            case rel => exact ⟨md, hi, rfl, rfl, hm2, hh9, HLE, hhi, HB6⟩
            case measure => simp [intOf]; omega
          · have hgt : Hid (val R1 < (md - 1 + 1) * val b) := hidden (by
              rw [show md - 1 + 1 = md by omega]
              exact Nat.lt_of_not_le fun h => hz0 (HZZ.out.2 h))
            go_wp2
            go_roundw
            case rel => exact ⟨lo, md - 1, rfl, by go_num, by omega, by omega, hlo, hgt, HB6⟩
            case measure => simp [intOf]; omega
        · obtain rfl : lo = hi := by omega
          have hdiv := fit_div hlo.out hhi.out
          have HDIV := hidden hdiv
          clear hdiv
          have HRQ := hidden ((hRow.out.below HB13.out (by omega)).below hbq.out (by omega))
          have hfr := HRQ.out.frozen j
          have hto := HRQ.out.cell j (by rw [hT.out]; omega)
          obtain ⟨old, hold⟩ : ∃ x, T.getD j 0 = x := ⟨_, rfl⟩
          rw [hold] at hto
          clear hold
          have hbw := (hbe.out.trans ((HB13.out.trans (hbq.out.mono HB13.out.size)).mono (Nat.le_trans (Nat.le_succ _) hws))).setCell (p := ⟨w.heap.size, j, none⟩) (Nat.le_refl _) (.int .i64 (lo : Int))
          have HBW := hidden hbw
          have HRS := hidden (HRQ.out.set j lo)
          have HAS := hidden ((HAR.out.below hbq.out).turn ((Turn.refl w.heap.size wr).setCell j (.int .i64 (lo : Int))) (by omega))
          have hwq : w.heap.size + 1 ≤ wr.heap.size := Nat.le_trans hw3 hbq.out.size
          clear hbw
          go_wp2_with fail
          generalize hW : wr.setCell ⟨w.heap.size, j, none⟩ (.int .i64 (lo : Int)) = W at HBW HRS HAS ⊢
          have hWs : w.heap.size + 1 ≤ W.heap.size := by rw [← hW, World.size_setCell]; exact hwq
          clear hW hfr hto
          refine (HTI.out lo W (by omega) (HB.out.below HBW.out)).mono ?_
          rintro e w5 ⟨so, sc, l2, rfl, hsc, hss, hsd, hst, hsl, hsv, hb5⟩
          have hl2v : val l2 ≤ val R1 := by rw [hsv, Nat.mul_comm]; exact hlo.out
          have hls := less_own ro so rc sc R1 l2 w5 (by rw [HR1n.out]; omega) (len_of_le hst HR1d.out hl2v) ((by
            obtain ⟨_, _, e, _, h⟩ := (HAS.out.below hb5).src
            injection e with e1 e2 e3
            subst e1
            exact h)) hss HR1d.out hsd hl2v
          rw [HR1n.out] at hls
          have HLS := hidden hls
          have HSV := hidden hsv
          have HB5 := hidden hb5
          clear hls hss hsd hst hsv hb5 hl2v
          go_wp2_with fail
          refine HLS.out.mono ?_
          rintro e w6 ⟨v3, l3, rfl, ho3, hd3, hl3, hv3, hb6⟩
          have HV3 := hidden ho3.adr
          obtain ⟨uo, uc, rfl, huc, hus⟩ := ho3.adr.src
          obtain ⟨t3, ht3⟩ : ∃ t, l3.length = t := ⟨_, rfl⟩
          rw [ht3] at HV3 huc hl3 ⊢
          have HUS := hidden hus
          have HL3 := hidden ht3
          have HD3 := hidden hd3
          have HW3 := hidden hv3
          have HB6 := hidden (HB5.out.trans (hb6.mono HB5.out.size))
          have hw5 : w.heap.size + 1 ≤ w5.heap.size := Nat.le_trans hWs HB5.out.size
          clear ho3 hus ht3 hd3 hv3 hb6
          go_wp2_with fail
          refine (trim_full false uo t3 uc l3 w6 HL3.out (by omega) huc HUS.out HD3.out).mono ?_
          rintro e w7 ⟨nb7, c7, rfl, hcut7, hnb7, hb7⟩
          have hfd := field_one nb7 uo c7 uc w7
          have hc7 := cutN_le l3 t3
          rw [hcut7] at hc7
          have HA7 := hidden (((HV3.out.below hb7).cut c7 hc7 HL3.out.symm).mono hw5)
          have HB7 := hidden (HB6.out.trans (hb7.mono HB6.out.size))
          have hn7 : (l3.take c7).length = c7 := by rw [← hcut7]; exact cutN_len l3 t3 (by rw [HL3.out]; omega)
          have ht7 : Trm (l3.take c7) := by rw [← hcut7]; exact cutN_trm l3 t3 (by rw [HL3.out]; omega)
          have hv7 : val (l3.take c7) = val R1 % val b := by
            rw [← hcut7, cutN_val, List.take_of_length_le (by rw [HL3.out]; omega), HW3.out, HSV.out, HDIV.out]
            have := Nat.div_add_mod (val R1) (val b)
            omega
          have hd7 : Dig (l3.take c7) := dig_take HD3.out c7
          have hlt7 : val (l3.take c7) < val b := by rw [hv7]; exact Nat.mod_lt _ HVB.out
          have hm7 : (l3.take c7).length ≤ m := by rw [← HNB.out]; exact len_of_le ht7 HDB.out (by omega)
          have H7 := hidden (And.intro hn7 (And.intro ht7 (And.intro hv7 (And.intro hd7 (And.intro hlt7 hm7)))))
          clear hn7 ht7 hv7 hd7 hlt7 hm7 hcut7 hnb7 hb7
          go_wp2
          go_roundw
          case rel =>
            refine ⟨j, l3.take c7, T.set j lo, by omega, by go_num, HA7, H7.out.2.2.2.2.2, hidden H7.out.2.2.2.1, hidden H7.out.2.1, hidden H7.out.2.2.2.2.1, hidden (by rw [List.length_set]; exact hT.out), hidden (HRS.out.below HB7.out (by omega)), hidden (dig_set hD.out _ _ (by omega)), hidden ?_, hidden (HBW.out.trans (HB7.out.mono (by omega))), Nat.le_trans hWs HB7.out.size⟩
            rw [val_drop a, val_drop (T.set j lo), List.drop_set_of_lt (by omega), HX.out, List.getD_eq_getElem?_getD, List.getElem?_set_self (by rw [hT.out]; omega), Option.getD_some]
            refine div_step hv.out ?_
            rw [← HLV.out, ← HR1v.out, H7.out.2.2.1, HDIV.out]
            have := Nat.div_add_mod (val R1) (val b)
            rw [Nat.mul_comm] at this
            exact this.symm
          case measure => simp [intOf]
    · obtain rfl : k = 0 := by omega
      obtain ⟨ro, rc, rfl, hrc, hrs⟩ := hR.out.src
      obtain ⟨t1, ht1⟩ : ∃ t, R.length = t := ⟨_, rfl⟩
      rw [ht1] at hRm hrc ⊢
      have HRS := hidden hrs
      have HT1 := hidden ht1
      clear hrs hR ht1
      go_wp2_with fail
      refine (trim_any false (some ⟨w.heap.size, 0, none⟩) n n T wo hT.out (by omega) (Nat.le_refl _) hRow.out.src hD.out).mono ?_
      rintro e w2 ⟨v, rfl, ⟨ng, co, cc, l2, rfl, c1, c2, c3, c4, c5, c6, c7⟩, hb⟩
      have hfd := field_one ng co l2.length cc w2
      have HC := hidden (And.intro c2 (And.intro c3 c7))
      clear c2 c3 c4 c6 c7
      go_wp2
      go_ret2
      have e := hv.out
      rw [List.drop_zero, List.drop_zero] at e
      have e1 : val T = val a / val b := (Nat.div_eq_of_lt_le (by omega) (by rw [Nat.add_mul, Nat.one_mul]; have := hRb.out; omega)).symm
      have e2 : val R = val a % val b := by
        have h1 := Nat.div_add_mod (val a) (val b)
        rw [← e1, Nat.mul_comm] at h1
        omega
      have e3 : val l2 = val T := by
        have := HC.out.2.2
        cases ng <;> simp [sgnv] at this <;> omega
      exact ⟨co, cc, l2, ro, rc, R, by rw [HT1.out]; rfl, HC.out.1, HRS.out.below hb, HC.out.2.1, hRD.out, by rw [e3, e1], e2, c5, by rw [HT1.out]; exact hRm, c1, by rw [HT1.out]; exact hrc, hbe.out.trans (hb.mono hbe.out.size)⟩
end Rv
end Go.Proofs.YtapdkibiegeijaaDoor
