/- The document's sizes: sum, less, times, held against each other. Conditions: short lists, limbs. -/
import Derived.Test.YtapdkibiegeijaaDoorRvN
namespace Go.Proofs.YtapdkibiegeijaaDoor
open Go.RowKit
namespace Rv

theorem tm (n : Nat) : Int.tmod (n : Int) 10000 = ((n % 10000 : Nat) : Int) := by rw [Int.tmod_eq_emod_of_nonneg (by omega)]; omega
theorem td (n : Nat) : Int.tdiv (n : Int) 10000 = ((n / 10000 : Nat) : Int) := by rw [Int.tdiv_eq_ediv_of_nonneg (by omega)]; omega
theorem getD_none {l : List Nat} {i : Nat} (h : l.length ≤ i) : l.getD i 0 = 0 := by rw [List.getD_eq_getElem?_getD, List.getElem?_eq_none h]; rfl
theorem OwnN.lst {w W : World} {v : Value} {l : List Nat} {z k : Nat} (h : OwnN W w.heap.size v l) (hd : Dig l) (hl : l.length ≤ k) (hv : val l = z) (hb : Below w.heap.size w W) : Lst w W (.returned v) z k := by
  obtain ⟨ao, cap, rfl, hc, hs⟩ := h.src
  exact ⟨ao, cap, l, rfl, hc, hs, hd, hl, hv, hb⟩
/-- Limbs of the call's own come back. -/
def LstO (w w' : World) (e : Ending) (z k : Nat) : Prop := ∃ (v : Value) (l : List Nat), e = .returned v ∧ OwnN w' w.heap.size v l ∧ Dig l ∧ l.length ≤ k ∧ val l = z ∧ Below w.heap.size w w'
theorem lst_keep {w W : World} {v : Value} {l : List Nat} (h : OwnN W w.heap.size v l) : OwnN W w.heap.size v l := h
/-- One limb more. -/
theorem sum_step2 {S A Y c x y P d c' : Nat} (h : S + P * c = A + Y) (hd : x + c + y = d + 10000 * c') : (S + P * d) + (10000 * P) * c' = (A + P * x) + (Y + P * y) := sum_step h hd
theorem times_step {S A c x f P d c' : Nat} (h : S + P * c = A * f) (hd : c + x * f = d + 10000 * c') : (S + P * d) + (10000 * P) * c' = (A + P * x) * f := by
  rw [Nat.add_mul, ← h]
  grind
theorem val_snoc (l : List Nat) (x : Nat) : val (l ++ [x]) = val l + pw l.length * x := by rw [val_append]; simp [val]
theorem dig_snoc {l : List Nat} (h : Dig l) {x : Nat} (hx : x < 10000) : Dig (l ++ [x]) := dig_append h fun y hy => by rw [List.mem_singleton.1 hy]; exact hx

set_option maxHeartbeats 6400000 in
theorem sum_any (ao bo : Option Addr) (ac bc : Nat) (a b : List Nat) (w : World) (hla : a.length < 10000000) (hlb : b.length < 10000000) (ha : SrcN w ao a) (hb : SrcN w bo b) (da : Dig a) (db : Dig b) :
    Calls Tryd.prog 49 #[.slice ao a.length ac, .slice bo b.length bc] w fun e w' => Lst w w' e (val a + val b) (max a.length b.length + 1) := by
  obtain ⟨n, hn⟩ : ∃ n, a.length = n := ⟨_, rfl⟩
  obtain ⟨m, hm⟩ : ∃ m, b.length = m := ⟨_, rfl⟩
  rw [hn] at hla ⊢
  rw [hm] at hlb ⊢
  obtain ⟨N, hN⟩ : ∃ N, max n m = N := ⟨_, rfl⟩
  rw [hN]
  have hnN : n ≤ N := by omega
  have hmN : m ≤ N := by omega
  have hNl : N < 10000000 := by omega
  have HNM := hidden hN
  have HNa := hidden hn
  have HNb := hidden hm
  have HA := hidden ha
  have HB := hidden hb
  have HDa := hidden da
  have HDb := hidden db
  clear hn hm ha hb da db hN
  go_enter Tryd.func49, Tryd.ntmps49
  go_wp2
  go_loopw [5, 6, 7, 8] (fun v c i _ wr => ∃ (k cr : Nat) (l : List Nat), i = .int .i64 (k : Int) ∧ c = .int .i64 (cr : Int) ∧ cr ≤ 1 ∧ k ≤ N + 1 ∧ (k = N + 1 → cr = 0) ∧ Hid (OwnN wr w.heap.size v l) ∧ l.length = k ∧ Hid (Dig l) ∧
    Hid (val l + pw k * cr = val (a.take k) + val (b.take k)) ∧ Hid (Below w.heap.size w wr)) (fun _ _ i _ _ => N + 1 - (intOf i).toNat)
  case atStart => exact ⟨0, 0, [], rfl, rfl, by omega, by omega, fun _ => rfl, hidden (ownN_nil _ _), rfl, hidden (fun x hx => by cases hx), hidden (by simp [val]), hidden (Below.refl _ _)⟩
  case round =>
    obtain ⟨k, cr, l, rfl, rfl, hcr, hkN, hk1, hO, hll, hD, hv, hbe⟩ := hrel
    by_cases hla : k < n
    · by_cases hlb : k < m
      · obtain ⟨ak, af, rfl, hca⟩ := (HA.out.below hbe.out).get k (by rw [HNa.out]; exact hla)
        have hda := dig_get HDa.out k
        obtain ⟨xa, hxa⟩ : ∃ x, a.getD k 0 = x := ⟨_, rfl⟩
        rw [hxa] at hca hda
        have HXa := hidden hxa
        clear hxa
        obtain ⟨bk, bf, rfl, hcb⟩ := (HB.out.below hbe.out).get k (by rw [HNb.out]; exact hlb)
        have hdb := dig_get HDb.out k
        obtain ⟨xb, hxb⟩ : ∃ x, b.getD k 0 = x := ⟨_, rfl⟩
        rw [hxb] at hcb hdb
        have HXb := hidden hxb
        clear hxb
        obtain ⟨r, hr⟩ : ∃ r, (cr + xa + xb) % 10000 = r := ⟨_, rfl⟩
        obtain ⟨q, hq⟩ : ∃ q, (cr + xa + xb) / 10000 = q := ⟨_, rfl⟩
        have hri : Int.tmod ((cr : Int) + (xa : Int) + (xb : Int)) 10000 = (r : Int) := by rw [← hr, ← tm]; try simp
        have hqi : Int.tdiv ((cr : Int) + (xa : Int) + (xb : Int)) 10000 = (q : Int) := by rw [← hq, ← td]; try simp
        have HS := hidden (show cr + xa + xb = r + 10000 * q by omega)
        have hrl : r < 10000 := by omega
        have hql : q ≤ 1 := by omega
        have hkl : k ≤ N := by omega
        have hkl2 : k < N := by omega
        clear hr hq
        obtain ⟨ao, cap, rfl, hcap, hsrc⟩ := hO.out.src
        have HL := hidden (one_lit wr r)
        have HO1 := hidden (hO.out.of_eq (W' := wr.alloc (.cells #[.int .i64 (r : Int)] 3)) fun k _ hk => Below.heap_alloc wr _ k hk)
        have hsz := hbe.out.size
        clear hsrc
        go_wp2_with (at_builtin; refine append_parts (wr.alloc (.cells #[.int .i64 (r : Int)] 3)) rfl (.tmp 46) (.tmp 49) rfl w.heap.size _ l [r] rfl HO1.out wr.heap.size 0 1 1 rfl rfl HL.out (by simp; omega) (by simp; omega) ?_; intro v2 w2 h1 h2)
        go_roundw
        case rel =>
          refine ⟨k + 1, q, l ++ [r], by go_num, rfl, hql, by omega, fun h => by omega, hidden h1, by rw [List.length_append, hll]; rfl, hidden (dig_snoc hD.out hrl), hidden ?_, hidden ((hbe.out.alloc hsz _).trans h2)⟩
          rw [val_snoc, hll, pw_succ, val_take, val_take, HXa.out, HXb.out]
          have e := hv.out
          exact sum_step2 e (by have := HS.out; omega)
        case measure => simp [intOf]; omega
      · obtain ⟨ak, af, rfl, hca⟩ := (HA.out.below hbe.out).get k (by rw [HNa.out]; exact hla)
        have hda := dig_get HDa.out k
        obtain ⟨xa, hxa⟩ : ∃ x, a.getD k 0 = x := ⟨_, rfl⟩
        rw [hxa] at hca hda
        have HXa := hidden hxa
        clear hxa
        obtain ⟨r, hr⟩ : ∃ r, (cr + xa) % 10000 = r := ⟨_, rfl⟩
        obtain ⟨q, hq⟩ : ∃ q, (cr + xa) / 10000 = q := ⟨_, rfl⟩
        have hri : Int.tmod ((cr : Int) + (xa : Int)) 10000 = (r : Int) := by rw [← hr, ← tm]; try simp
        have hqi : Int.tdiv ((cr : Int) + (xa : Int)) 10000 = (q : Int) := by rw [← hq, ← td]; try simp
        have HS := hidden (show cr + xa = r + 10000 * q by omega)
        have hrl : r < 10000 := by omega
        have hql : q ≤ 1 := by omega
        have hkl : k ≤ N := by omega
        have hkl2 : k < N := by omega
        clear hr hq
        obtain ⟨ao, cap, rfl, hcap, hsrc⟩ := hO.out.src
        have HL := hidden (one_lit wr r)
        have HO1 := hidden (hO.out.of_eq (W' := wr.alloc (.cells #[.int .i64 (r : Int)] 3)) fun k _ hk => Below.heap_alloc wr _ k hk)
        have hsz := hbe.out.size
        clear hsrc
        go_wp2_with (at_builtin; refine append_parts (wr.alloc (.cells #[.int .i64 (r : Int)] 3)) rfl (.tmp 46) (.tmp 49) rfl w.heap.size _ l [r] rfl HO1.out wr.heap.size 0 1 1 rfl rfl HL.out (by simp; omega) (by simp; omega) ?_; intro v2 w2 h1 h2)
        go_roundw
        case rel =>
          refine ⟨k + 1, q, l ++ [r], by go_num, rfl, hql, by omega, fun h => by omega, hidden h1, by rw [List.length_append, hll]; rfl, hidden (dig_snoc hD.out hrl), hidden ?_, hidden ((hbe.out.alloc hsz _).trans h2)⟩
          rw [val_snoc, hll, pw_succ, val_take, val_take, HXa.out, getD_none (by rw [HNb.out]; omega)]
          have e := hv.out
          exact sum_step2 e (by have := HS.out; omega)
        case measure => simp [intOf]; omega
    · by_cases hlb : k < m
      · obtain ⟨bk, bf, rfl, hcb⟩ := (HB.out.below hbe.out).get k (by rw [HNb.out]; exact hlb)
        have hdb := dig_get HDb.out k
        obtain ⟨xb, hxb⟩ : ∃ x, b.getD k 0 = x := ⟨_, rfl⟩
        rw [hxb] at hcb hdb
        have HXb := hidden hxb
        clear hxb
        obtain ⟨r, hr⟩ : ∃ r, (cr + xb) % 10000 = r := ⟨_, rfl⟩
        obtain ⟨q, hq⟩ : ∃ q, (cr + xb) / 10000 = q := ⟨_, rfl⟩
        have hri : Int.tmod ((cr : Int) + (xb : Int)) 10000 = (r : Int) := by rw [← hr, ← tm]; try simp
        have hqi : Int.tdiv ((cr : Int) + (xb : Int)) 10000 = (q : Int) := by rw [← hq, ← td]; try simp
        have HS := hidden (show cr + xb = r + 10000 * q by omega)
        have hrl : r < 10000 := by omega
        have hql : q ≤ 1 := by omega
        have hkl : k ≤ N := by omega
        have hkl2 : k < N := by omega
        clear hr hq
        obtain ⟨ao, cap, rfl, hcap, hsrc⟩ := hO.out.src
        have HL := hidden (one_lit wr r)
        have HO1 := hidden (hO.out.of_eq (W' := wr.alloc (.cells #[.int .i64 (r : Int)] 3)) fun k _ hk => Below.heap_alloc wr _ k hk)
        have hsz := hbe.out.size
        clear hsrc
        go_wp2_with (at_builtin; refine append_parts (wr.alloc (.cells #[.int .i64 (r : Int)] 3)) rfl (.tmp 46) (.tmp 49) rfl w.heap.size _ l [r] rfl HO1.out wr.heap.size 0 1 1 rfl rfl HL.out (by simp; omega) (by simp; omega) ?_; intro v2 w2 h1 h2)
        go_roundw
        case rel =>
          refine ⟨k + 1, q, l ++ [r], by go_num, rfl, hql, by omega, fun h => by omega, hidden h1, by rw [List.length_append, hll]; rfl, hidden (dig_snoc hD.out hrl), hidden ?_, hidden ((hbe.out.alloc hsz _).trans h2)⟩
          rw [val_snoc, hll, pw_succ, val_take, val_take, getD_none (by rw [HNa.out]; omega), HXb.out]
          have e := hv.out
          exact sum_step2 e (by have := HS.out; omega)
        case measure => simp [intOf]; omega
      · by_cases hc0 : 0 < cr
        · obtain ⟨r, hr⟩ : ∃ r, (cr) % 10000 = r := ⟨_, rfl⟩
          obtain ⟨q, hq⟩ : ∃ q, (cr) / 10000 = q := ⟨_, rfl⟩
          have hri : Int.tmod ((cr : Int)) 10000 = (r : Int) := by rw [← hr, ← tm]; try simp
          have hqi : Int.tdiv ((cr : Int)) 10000 = (q : Int) := by rw [← hq, ← td]; try simp
          have HS := hidden (show cr = r + 10000 * q by omega)
          have hrl : r < 10000 := by omega
          have hql : q ≤ 1 := by omega
          have hkl : k ≤ N := by omega
          have hq0 : k = N → q = 0 := fun h => by omega
          clear hr hq
          obtain ⟨ao, cap, rfl, hcap, hsrc⟩ := hO.out.src
          have HL := hidden (one_lit wr r)
          have HO1 := hidden (hO.out.of_eq (W' := wr.alloc (.cells #[.int .i64 (r : Int)] 3)) fun k _ hk => Below.heap_alloc wr _ k hk)
          have hsz := hbe.out.size
          clear hsrc
          go_wp2_with (at_builtin; refine append_parts (wr.alloc (.cells #[.int .i64 (r : Int)] 3)) rfl (.tmp 46) (.tmp 49) rfl w.heap.size _ l [r] rfl HO1.out wr.heap.size 0 1 1 rfl rfl HL.out (by simp; omega) (by simp; omega) ?_; intro v2 w2 h1 h2)
          go_roundw
          case rel =>
            refine ⟨k + 1, q, l ++ [r], by go_num, rfl, hql, by omega, fun h => by omega, hidden h1, by rw [List.length_append, hll]; rfl, hidden (dig_snoc hD.out hrl), hidden ?_, hidden ((hbe.out.alloc hsz _).trans h2)⟩
            rw [val_snoc, hll, pw_succ, val_take, val_take, getD_none (by rw [HNa.out]; omega), getD_none (by rw [HNb.out]; omega)]
            have e := hv.out
            exact sum_step2 e (by have := HS.out; omega)
          case measure => simp [intOf]; omega
        · obtain rfl : cr = 0 := by omega
          go_wp2
          go_ret
          refine hO.out.lst hD.out (by omega) ?_ hbe.out
          have e := hv.out
          rwa [List.take_of_length_le (by rw [HNa.out]; omega), List.take_of_length_le (by rw [HNb.out]; omega), Nat.mul_zero, Nat.add_zero] at e
set_option maxHeartbeats 6400000 in
theorem less_own (ao bo : Option Addr) (ac bc : Nat) (a b : List Nat) (w : World) (hla : a.length < 10000000) (hle : b.length ≤ a.length) (ha : SrcN w ao a) (hb : SrcN w bo b) (da : Dig a) (db : Dig b) (hvv : val b ≤ val a) :
    Calls Tryd.prog 51 #[.slice ao a.length ac, .slice bo b.length bc] w fun e w' => LstO w w' e (val a - val b) a.length := by
  obtain ⟨n, hn⟩ : ∃ n, a.length = n := ⟨_, rfl⟩
  obtain ⟨m, hm⟩ : ∃ m, b.length = m := ⟨_, rfl⟩
  rw [hn] at hla hle ⊢
  rw [hm] at hle ⊢
  have HVV := hidden hvv
  have HNa := hidden hn
  have HNb := hidden hm
  have HA := hidden ha
  have HB := hidden hb
  have HDa := hidden da
  have HDb := hidden db
  clear hn hm ha hb da db hvv
  go_enter Tryd.func51, Tryd.ntmps51
  go_wp2
  go_loopw [5, 6, 7, 8] (fun v c i _ wr => ∃ (k cr : Nat) (l : List Nat), i = .int .i64 (k : Int) ∧ c = .int .i64 (cr : Int) ∧ cr ≤ 1 ∧ k ≤ n ∧ Hid (OwnN wr w.heap.size v l) ∧ l.length = k ∧ Hid (Dig l) ∧
    Hid (val l + val (b.take k) = val (a.take k) + pw k * cr) ∧ Hid (Below w.heap.size w wr)) (fun _ _ i _ _ => n - (intOf i).toNat)
  case atStart => exact ⟨0, 0, [], rfl, rfl, by omega, by omega, hidden (ownN_nil _ _), rfl, hidden (fun x hx => by cases hx), hidden (by simp [val]), hidden (Below.refl _ _)⟩
  case round =>
    obtain ⟨k, cr, l, rfl, rfl, hcr, hkN, hO, hll, hD, hv, hbe⟩ := hrel
    by_cases hla2 : k < n
    · have hla := hla2
      obtain ⟨ak, af, rfl, hca⟩ := (HA.out.below hbe.out).get k (by rw [HNa.out]; exact hla)
      have hda := dig_get HDa.out k
      obtain ⟨xa, hxa⟩ : ∃ x, a.getD k 0 = x := ⟨_, rfl⟩
      rw [hxa] at hca hda
      have HXa := hidden hxa
      clear hxa
      clear hla
      by_cases hlb : k < m
      · obtain ⟨bk, bf, rfl, hcb⟩ := (HB.out.below hbe.out).get k (by rw [HNb.out]; exact hlb)
        have hdb := dig_get HDb.out k
        obtain ⟨xb, hxb⟩ : ∃ x, b.getD k 0 = x := ⟨_, rfl⟩
        rw [hxb] at hcb hdb
        have HXb := hidden hxb
        clear hxb
        by_cases hneg : xa < cr + xb
        · obtain ⟨r, hr⟩ : ∃ r : Nat, xa + 10000 - cr - xb = r := ⟨_, rfl⟩
          have hri : (xa : Int) - cr - xb + 10000 = (r : Int) := by omega
          have hlt : (xa : Int) - cr - xb < 0 := by omega
          have HS := hidden (show r + (cr + xb) = xa + 10000 * 1 by omega)
          have hrl : r < 10000 := by omega
          clear hr
          obtain ⟨ao, cap, rfl, hcap, hsrc⟩ := hO.out.src
          have HL := hidden (one_lit wr r)
          have HO1 := hidden (hO.out.of_eq (W' := wr.alloc (.cells #[.int .i64 (r : Int)] 3)) fun k _ hk => Below.heap_alloc wr _ k hk)
          have hsz := hbe.out.size
          clear hsrc
          go_wp2_with (at_builtin; refine append_parts (wr.alloc (.cells #[.int .i64 (r : Int)] 3)) rfl (.tmp 35) (.tmp 37) rfl w.heap.size _ l [r] rfl HO1.out wr.heap.size 0 1 1 rfl rfl HL.out (by simp; omega) (by simp; omega) ?_; intro v2 w2 h1 h2)
          go_roundw
          case rel =>
            refine ⟨k + 1, 1, l ++ [r], by go_num, rfl, by omega, by omega, hidden h1, by rw [List.length_append, hll]; rfl, hidden (dig_snoc hD.out hrl), hidden ?_, hidden ((hbe.out.alloc hsz _).trans h2)⟩
            rw [val_snoc, hll, pw_succ, val_take, val_take, HXa.out, HXb.out]
            exact diff_step hv.out HS.out
          case measure => simp [intOf]; omega
        · obtain ⟨r, hr⟩ : ∃ r : Nat, xa - cr - xb = r := ⟨_, rfl⟩
          have hri : (xa : Int) - cr - xb = (r : Int) := by omega
          have hlt : ¬ (xa : Int) - cr - xb < 0 := by omega
          have HS := hidden (show r + (cr + xb) = xa + 10000 * 0 by omega)
          have hrl : r < 10000 := by omega
          clear hr
          obtain ⟨ao, cap, rfl, hcap, hsrc⟩ := hO.out.src
          have HL := hidden (one_lit wr r)
          have HO1 := hidden (hO.out.of_eq (W' := wr.alloc (.cells #[.int .i64 (r : Int)] 3)) fun k _ hk => Below.heap_alloc wr _ k hk)
          have hsz := hbe.out.size
          clear hsrc
          go_wp2_with (at_builtin; refine append_parts (wr.alloc (.cells #[.int .i64 (r : Int)] 3)) rfl (.tmp 35) (.tmp 37) rfl w.heap.size _ l [r] rfl HO1.out wr.heap.size 0 1 1 rfl rfl HL.out (by simp; omega) (by simp; omega) ?_; intro v2 w2 h1 h2)
          go_roundw
          case rel =>
            refine ⟨k + 1, 0, l ++ [r], by go_num, rfl, by omega, by omega, hidden h1, by rw [List.length_append, hll]; rfl, hidden (dig_snoc hD.out hrl), hidden ?_, hidden ((hbe.out.alloc hsz _).trans h2)⟩
            rw [val_snoc, hll, pw_succ, val_take, val_take, HXa.out, HXb.out]
            exact diff_step hv.out HS.out
          case measure => simp [intOf]; omega
      · by_cases hneg : xa < cr
        · obtain ⟨r, hr⟩ : ∃ r : Nat, xa + 10000 - cr = r := ⟨_, rfl⟩
          have hri : (xa : Int) - cr + 10000 = (r : Int) := by omega
          have hlt : (xa : Int) - cr < 0 := by omega
          have HS := hidden (show r + (cr + 0) = xa + 10000 * 1 by omega)
          have hrl : r < 10000 := by omega
          clear hr
          obtain ⟨ao, cap, rfl, hcap, hsrc⟩ := hO.out.src
          have HL := hidden (one_lit wr r)
          have HO1 := hidden (hO.out.of_eq (W' := wr.alloc (.cells #[.int .i64 (r : Int)] 3)) fun k _ hk => Below.heap_alloc wr _ k hk)
          have hsz := hbe.out.size
          clear hsrc
          go_wp2_with (at_builtin; refine append_parts (wr.alloc (.cells #[.int .i64 (r : Int)] 3)) rfl (.tmp 35) (.tmp 37) rfl w.heap.size _ l [r] rfl HO1.out wr.heap.size 0 1 1 rfl rfl HL.out (by simp; omega) (by simp; omega) ?_; intro v2 w2 h1 h2)
          go_roundw
          case rel =>
            refine ⟨k + 1, 1, l ++ [r], by go_num, rfl, by omega, by omega, hidden h1, by rw [List.length_append, hll]; rfl, hidden (dig_snoc hD.out hrl), hidden ?_, hidden ((hbe.out.alloc hsz _).trans h2)⟩
            rw [val_snoc, hll, pw_succ, val_take, val_take, HXa.out, getD_none (by rw [HNb.out]; omega)]
            exact diff_step hv.out HS.out
          case measure => simp [intOf]; omega
        · obtain ⟨r, hr⟩ : ∃ r : Nat, xa - cr = r := ⟨_, rfl⟩
          have hri : (xa : Int) - cr = (r : Int) := by omega
          have hlt : ¬ (xa : Int) - cr < 0 := by omega
          have HS := hidden (show r + (cr + 0) = xa + 10000 * 0 by omega)
          have hrl : r < 10000 := by omega
          clear hr
          obtain ⟨ao, cap, rfl, hcap, hsrc⟩ := hO.out.src
          have HL := hidden (one_lit wr r)
          have HO1 := hidden (hO.out.of_eq (W' := wr.alloc (.cells #[.int .i64 (r : Int)] 3)) fun k _ hk => Below.heap_alloc wr _ k hk)
          have hsz := hbe.out.size
          clear hsrc
          go_wp2_with (at_builtin; refine append_parts (wr.alloc (.cells #[.int .i64 (r : Int)] 3)) rfl (.tmp 35) (.tmp 37) rfl w.heap.size _ l [r] rfl HO1.out wr.heap.size 0 1 1 rfl rfl HL.out (by simp; omega) (by simp; omega) ?_; intro v2 w2 h1 h2)
          go_roundw
          case rel =>
            refine ⟨k + 1, 0, l ++ [r], by go_num, rfl, by omega, by omega, hidden h1, by rw [List.length_append, hll]; rfl, hidden (dig_snoc hD.out hrl), hidden ?_, hidden ((hbe.out.alloc hsz _).trans h2)⟩
            rw [val_snoc, hll, pw_succ, val_take, val_take, HXa.out, getD_none (by rw [HNb.out]; omega)]
            exact diff_step hv.out HS.out
          case measure => simp [intOf]; omega
    · obtain rfl : k = n := by omega
      go_wp2
      go_ret
      have e := hv.out
      rw [List.take_of_length_le (by rw [HNb.out]; omega), List.take_of_length_le (by rw [HNa.out]; omega)] at e
      have e2 := val_lt hD.out
      rw [hll] at e2
      have e5 := HVV.out
      have e3 : cr = 0 := by
        cases cr with
        | zero => rfl
        | succ c => rw [Nat.mul_succ] at e; omega
      subst e3
      exact ⟨_, l, rfl, hO.out, hD.out, by omega, by omega, hbe.out⟩
theorem less_any (ao bo : Option Addr) (ac bc : Nat) (a b : List Nat) (w : World) (hla : a.length < 10000000) (hle : b.length ≤ a.length) (ha : SrcN w ao a) (hb : SrcN w bo b) (da : Dig a) (db : Dig b) (hvv : val b ≤ val a) :
    Calls Tryd.prog 51 #[.slice ao a.length ac, .slice bo b.length bc] w fun e w' => Lst w w' e (val a - val b) a.length :=
  (less_own ao bo ac bc a b w hla hle ha hb da db hvv).mono fun _ _ ⟨_, _, he, ho, hd, hl, hv, hb⟩ => he ▸ ho.lst hd hl hv hb
end Rv
end Go.Proofs.YtapdkibiegeijaaDoor
