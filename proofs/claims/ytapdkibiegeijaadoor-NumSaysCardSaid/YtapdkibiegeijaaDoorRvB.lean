/- The document's sizes: times, held against each other. Conditions: short lists, limbs. -/
import Derived.Test.YtapdkibiegeijaaDoorRvA
namespace Go.Proofs.YtapdkibiegeijaaDoor
open Go.RowKit
namespace Rv

theorem field_one (b : Bool) (ao : Option Addr) (n c : Nat) (w : World) : (Instr.field 28 (.agg #[.bool b, .slice ao n c]) 1).run Tryd.prog w = .ok (.slice ao n c) w := by kernel_rfl
set_option maxRecDepth 100000 in
set_option maxHeartbeats 6400000 in
theorem times_any (ao : Option Addr) (ac : Nat) (a : List Nat) (f : Nat) (w : World) (hla : a.length < 10000000) (hf : f < 10000) (ha : SrcN w ao a) (da : Dig a) :
    Calls Tryd.prog 57 #[.slice ao a.length ac, .int .i64 (f : Int)] w fun e w' => ∃ (bo : Option Addr) (cap : Nat) (l : List Nat), e = .returned (.slice bo l.length cap) ∧ l.length ≤ cap ∧ SrcN w' bo l ∧ Dig l ∧ Trm l ∧ l.length ≤ a.length + 1 ∧ val l = val a * f ∧ Below w.heap.size w w' := by
  obtain ⟨n, hn⟩ : ∃ n, a.length = n := ⟨_, rfl⟩
  rw [hn] at hla ⊢
  have HNa := hidden hn
  have HA := hidden ha
  have HDa := hidden da
  clear hn ha da
  go_enter Tryd.func57, Tryd.ntmps57
  go_wp2
  go_loopw [5, 6, 7, 8] (fun v c i _ wr => ∃ (k cr : Nat) (l : List Nat), i = .int .i64 (k : Int) ∧ c = .int .i64 (cr : Int) ∧ cr < 10000 ∧ k ≤ n + 1 ∧ (k = n + 1 → cr = 0) ∧ Hid (OwnN wr w.heap.size v l) ∧ l.length = k ∧ Hid (Dig l) ∧
    Hid (val l + pw k * cr = val (a.take k) * f) ∧ Hid (Below w.heap.size w wr)) (fun _ _ i _ _ => n + 1 - (intOf i).toNat)
  case atStart => exact ⟨0, 0, [], rfl, rfl, by omega, by omega, fun _ => rfl, hidden (ownN_nil _ _), rfl, hidden (fun x hx => by cases hx), hidden (by simp [val]), hidden (Below.refl _ _)⟩
  case round =>
    obtain ⟨k, cr, l, rfl, rfl, hcr, hkN, hk1, hO, hll, hD, hv, hbe⟩ := hrel
    by_cases hla : k < n
    · obtain ⟨ak, af, rfl, hca⟩ := (HA.out.below hbe.out).get k (by rw [HNa.out]; exact hla)
      have hda := dig_get HDa.out k
      obtain ⟨xa, hxa⟩ : ∃ x, a.getD k 0 = x := ⟨_, rfl⟩
      rw [hxa] at hca hda
      have HXa := hidden hxa
      clear hxa
      obtain ⟨p, hp⟩ : ∃ p, xa * f = p := ⟨_, rfl⟩
      have hpl : p ≤ 9999 * 9999 := by rw [← hp]; exact Nat.mul_le_mul (by omega) (by omega)
      have hpi : (xa : Int) * (f : Int) = (p : Int) := by rw [← hp]; exact (Int.natCast_mul xa f).symm
      have HP := hidden hp
      clear hp
      obtain ⟨r, hr⟩ : ∃ r, (cr + p) % 10000 = r := ⟨_, rfl⟩
      obtain ⟨q, hq⟩ : ∃ q, (cr + p) / 10000 = q := ⟨_, rfl⟩
      have hri : Int.tmod ((cr : Int) + (p : Int)) 10000 = (r : Int) := by rw [← hr, ← tm]; try simp
      have hqi : Int.tdiv ((cr : Int) + (p : Int)) 10000 = (q : Int) := by rw [← hq, ← td]; try simp
      have HS := hidden (show cr + p = r + 10000 * q by omega)
      have hrl : r < 10000 := by omega
      have hql : q < 10000 := by omega
      have hkl : k ≤ n := by omega
      clear hr hq
      obtain ⟨ao, cap, rfl, hcap, hsrc⟩ := hO.out.src
      have HL := hidden (one_lit wr r)
      have HO1 := hidden (hO.out.of_eq (W' := wr.alloc (.cells #[.int .i64 (r : Int)] 3)) fun k _ hk => Below.heap_alloc wr _ k hk)
      have hsz := hbe.out.size
      clear hsrc
      go_wp2_with (at_builtin; refine append_parts (wr.alloc (.cells #[.int .i64 (r : Int)] 3)) rfl (.tmp 32) (.tmp 35) rfl w.heap.size _ l [r] rfl HO1.out wr.heap.size 0 1 1 rfl rfl HL.out (by simp; omega) (by simp; omega) ?_; intro v2 w2 h1 h2)
      go_roundw
      case rel =>
        refine ⟨k + 1, q, l ++ [r], by go_num, by first | rfl | (rw [hq0]; rfl), hql, by omega, fun h => by omega, hidden h1, by rw [List.length_append, hll]; rfl, hidden (dig_snoc hD.out hrl), hidden ?_, hidden ((hbe.out.alloc hsz _).trans h2)⟩
        rw [val_snoc, hll, pw_succ, val_take, HXa.out]
        exact times_step hv.out (by rw [HP.out]; exact HS.out)
      case measure => simp [intOf]; omega
    · by_cases hc0 : 0 < cr
      · obtain ⟨r, hr⟩ : ∃ r, (cr) % 10000 = r := ⟨_, rfl⟩
        obtain ⟨q, hq⟩ : ∃ q, (cr) / 10000 = q := ⟨_, rfl⟩
        have hri : Int.tmod ((cr : Int)) 10000 = (r : Int) := by rw [← hr, ← tm]; try simp
        have hqi : Int.tdiv ((cr : Int)) 10000 = (q : Int) := by rw [← hq, ← td]; try simp
        have HS := hidden (show cr = r + 10000 * q by omega)
        have hrl : r < 10000 := by omega
        have hql : q < 10000 := by omega
        have hkl : k ≤ n := by omega
        have hq0 : q = 0 := by omega
        clear hr hq
        obtain ⟨ao, cap, rfl, hcap, hsrc⟩ := hO.out.src
        have HL := hidden (one_lit wr r)
        have HO1 := hidden (hO.out.of_eq (W' := wr.alloc (.cells #[.int .i64 (r : Int)] 3)) fun k _ hk => Below.heap_alloc wr _ k hk)
        have hsz := hbe.out.size
        clear hsrc
        go_wp2_with (at_builtin; refine append_parts (wr.alloc (.cells #[.int .i64 (r : Int)] 3)) rfl (.tmp 32) (.tmp 35) rfl w.heap.size _ l [r] rfl HO1.out wr.heap.size 0 1 1 rfl rfl HL.out (by simp; omega) (by simp; omega) ?_; intro v2 w2 h1 h2)
        go_roundw
        case rel =>
          refine ⟨k + 1, q, l ++ [r], by go_num, by first | rfl | (rw [hq0]; rfl), hql, by omega, fun h => by omega, hidden h1, by rw [List.length_append, hll]; rfl, hidden (dig_snoc hD.out hrl), hidden ?_, hidden ((hbe.out.alloc hsz _).trans h2)⟩
          rw [val_snoc, hll, pw_succ, val_take, getD_none (by rw [HNa.out]; omega)]
          exact times_step hv.out (by have := HS.out; omega)
        case measure => simp [intOf]; omega
      · obtain rfl : cr = 0 := by omega
        obtain ⟨so, cap, rfl, hcap, hsrc⟩ := hO.out.src
        have htr := trim_any false so l.length cap l wr rfl (by omega) hcap hsrc hD.out
        rw [hll] at htr ⊢
        have HTR := hidden htr
        clear htr hsrc hO
        go_wp2_with fail
        refine HTR.out.mono ?_
        rintro e w2 ⟨v, rfl, ⟨ng, co, cc, l2, rfl, c1, c2, c3, c4, c5, c6, c7⟩, hb⟩
        have HC := hidden (And.intro c2 (And.intro c3 (And.intro c4 c7)))
        clear c2 c3 c4 c6 c7
        have hfd := field_one ng co l2.length cc w2
        go_wp2
        go_ret
        refine ⟨co, cc, l2, rfl, c1, HC.out.1, HC.out.2.1, HC.out.2.2.1, by omega, ?_, hbe.out.trans (hb.mono hbe.out.size)⟩
        have e := hv.out
        rw [List.take_of_length_le (by rw [HNa.out]; omega), Nat.mul_zero, Nat.add_zero] at e
        rw [← e]
        have := HC.out.2.2.2
        cases ng <;> simp [sgnv] at this <;> omega
set_option maxHeartbeats 3200000 in
theorem size_any (ao bo : Option Addr) (ac bc : Nat) (a b : List Nat) (w : World) (hlb : b.length < 100000000) (ha : SrcN w ao a) (hb : SrcN w bo b)
    (da : Dig a) (db : Dig b) (ta : Trm a) (tb : Trm b) :
    Calls Tryd.prog 50 #[.slice ao a.length ac, .slice bo b.length bc] w fun e w' => e = .returned (.int .i64 (sg (val a) (val b))) ∧ Below w.heap.size w w' := by
  obtain ⟨r, hr⟩ : ∃ r, sg (val a) (val b) = r := ⟨_, rfl⟩
  rw [hr]
  by_cases hne : a.length = b.length
  · obtain ⟨n, hn⟩ : ∃ n, b.length = n := ⟨_, rfl⟩
    rw [hne, hn]
    rw [hn] at hlb
    have HN := hidden hn
    have HNE := hidden (hne.trans hn)
    have HA := hidden ha
    have HB := hidden hb
    have HR := hidden hr
    clear hn hne ha hb hr
    go_enter Tryd.func50, Tryd.ntmps50
    go_wp2
    go_loopw [5] (fun i wr => ∃ k : Nat, k ≤ n ∧ i = .int .i64 ((k : Int) - 1) ∧ Hid (a.drop k = b.drop k) ∧ Hid (Below w.heap.size w wr)) (fun i _ => (intOf i + 1).toNat)
    case atStart => exact ⟨n, Nat.le_refl _, rfl, hidden (by rw [List.drop_of_length_le (by rw [HNE.out]; omega), List.drop_of_length_le (by rw [HN.out]; omega)]), Below.refl _ _⟩
    case round =>
      obtain ⟨k, hk, rfl, hd, hbl⟩ := hrel
      by_cases h0 : 0 < k
      · obtain ⟨j, rfl⟩ : ∃ j, k = j + 1 := ⟨k - 1, by omega⟩
        rw [show ((j + 1 : Nat) : Int) - 1 = (j : Int) by omega]
        obtain ⟨ak, af, rfl, hca⟩ := (HA.out.below hbl.out).get j (by rw [HNE.out]; omega)
        obtain ⟨bk, bf, rfl, hcb⟩ := (HB.out.below hbl.out).get j (by rw [HN.out]; omega)
        obtain ⟨x, hx⟩ : ∃ x, a.getD j 0 = x := ⟨_, rfl⟩
        obtain ⟨y, hy⟩ : ∃ y, b.getD j 0 = y := ⟨_, rfl⟩
        rw [hx] at hca
        rw [hy] at hcb
        have HX := hidden hx
        have HY := hidden hy
        clear hx hy
        by_cases hlt : x < y
        · have hfin : Hid (r = -1) := hidden (by rw [← HR.out, sg_lt (cmp_at da j (by rw [HNE.out]; omega) (by rw [HNE.out, HN.out]) hd.out (by rw [HX.out, HY.out]; exact hlt))])
          go_wp2
          go_quiet (fail)
          go_wp2
          go_ret
          exact ⟨by rw [hfin.out]; rfl, below_drewN hbl.out _⟩
        · by_cases hgt : y < x
          · have hfin : Hid (r = 1) := hidden (by rw [← HR.out, sg_gt (cmp_at db j (by rw [HN.out]; omega) (by rw [HNE.out, HN.out]) hd.out.symm (by rw [HX.out, HY.out]; exact hgt))])
            go_wp2
            go_quiet (fail)
            go_wp2
            go_quiet (fail)
            go_wp2
            go_ret
            exact ⟨by rw [hfin.out]; rfl, below_drewN (below_drewN hbl.out _) _⟩
          · go_wp2
            go_quiet (fail)
            go_wp2
            go_quiet (fail)
            go_wp2
            go_roundw
            case rel => exact ⟨j, by omega, by go_num, hidden (drop_eq j (by rw [HNE.out]; omega) (by rw [HNE.out, HN.out]) hd.out (by rw [HX.out, HY.out]; omega)), hidden (below_drewN hbl.out _)⟩
            case measure => simp [intOf]
      · obtain rfl : k = 0 := by omega
        have hfin : Hid (r = 0) := hidden (by
          have := hd.out
          simp only [List.drop_zero] at this
          rw [← HR.out, this, sg_eq rfl])
        go_wp2
        go_ret
        exact ⟨by rw [hfin.out]; rfl, hbl.out⟩
  · obtain ⟨n, hn⟩ : ∃ n, a.length = n := ⟨_, rfl⟩
    obtain ⟨m, hm⟩ : ∃ m, b.length = m := ⟨_, rfl⟩
    have HR := hidden hr
    by_cases hlt : n < m
    · have hfin : Hid (r = -1) := hidden (by rw [← HR.out, sg_lt (cmp_len da tb (by omega))])
      rw [hn] at hne ⊢
      rw [hm] at hne hlb ⊢
      have hxb : ((n : Int) == (m : Int)) = false := by rw [beq_eq_false_iff_ne]; omega
      clear hn hm hr
      go_enter Tryd.func50, Tryd.ntmps50
      go_wp2
      go_ret
      exact ⟨by rw [hfin.out]; rfl, Below.refl _ _⟩
    · have hfin : Hid (r = 1) := hidden (by rw [← HR.out, sg_gt (cmp_len db ta (by omega))])
      rw [hn] at hne ⊢
      rw [hm] at hne hlb ⊢
      have hxb : ((n : Int) == (m : Int)) = false := by rw [beq_eq_false_iff_ne]; omega
      clear hn hm hr
      go_enter Tryd.func50, Tryd.ntmps50
      go_wp2
      go_ret
      exact ⟨by rw [hfin.out]; rfl, Below.refl _ _⟩
end Rv
end Go.Proofs.YtapdkibiegeijaaDoor
