/- The document's Of and Mul. Conditions: as each states. -/
import Derived.Test.YtapdkibiegeijaaDoorRvC
namespace Go.Proofs.YtapdkibiegeijaaDoor
open Go.RowKit
namespace Rv

theorem of_step {V P u : Nat} {q r t : Nat} (h : V + P * t = u) (hd : t = r + 10000 * q) : V + P * r + (10000 * P) * q = u := by subst hd; rw [← h]; grind
theorem tm_neg (t : Nat) : Int.tmod (-(t : Int)) 10000 = -((t % 10000 : Nat) : Int) := by rw [Int.neg_tmod, tm]
theorem td_neg (t : Nat) : Int.tdiv (-(t : Int)) 10000 = -((t / 10000 : Nat) : Int) := by rw [Int.neg_tdiv, td]
set_option maxHeartbeats 3200000 in
theorem of_any (n : Int) (w : World) (h0 : -9223372036854775808 ≤ n) (h1 : n ≤ 9223372036854775807) :
    Calls Tryd.prog 40 #[.int .i64 n] w fun e w' => IsNum w w' e n 5 := by
  obtain ⟨u, hu⟩ : ∃ u, n.natAbs = u := ⟨_, rfl⟩
  have hul : u < 18446744073709551616 := by omega
  have hp3 : pw 5 = 100000000000000000000 := by decide
  have HP3 := hidden hp3
  have hbr := hidden (blk_new w (.bool false) (.slice none 0 0))
  have hbw := hidden ((Below.refl w.heap.size w).alloc (Nat.le_refl _) (.cells #[.bool false, .slice none 0 0] 28))
  clear hp3
  by_cases hn : n < 0
  · skip
    go_enter Tryd.func40, Tryd.ntmps40
    go_wp2
    go_loopw [3, 4, 5] (fun v c _ wr => ∃ (t : Nat) (l : List Nat), c = .int .i64 (-(t : Int)) ∧ t ≤ u ∧ Hid (OwnN wr (w.heap.size + 1) v l) ∧ Hid (Dig l) ∧ l.length ≤ 5 ∧ Hid (val l + pw l.length * t = u) ∧ Hid (Below (w.heap.size + 1) (w.alloc (.cells #[.bool false, .slice none 0 0] 28)) wr)) (fun _ c _ _ => (intOf c).natAbs)
    case atStart => exact ⟨u, [], by rw [show n = -(u : Int) by omega], Nat.le_refl _, hidden (ownN_nil _ _), hidden dig_nil, Nat.zero_le _, hidden (by simp [val, pw]), hidden (Below.refl _ _)⟩
    case round =>
      obtain ⟨t, l, rfl, htu, hO, hD, hl3, hv, hbe⟩ := hrel
      by_cases h0 : 0 < t
      · have hl2 : l.length < 5 := by
          by_cases h : l.length < 5
          · exact h
          · have e := hv.out
            rw [show l.length = 5 by omega, HP3.out] at e
            omega
        obtain ⟨q, hq⟩ : ∃ q, t / 10000 = q := ⟨_, rfl⟩
        obtain ⟨r, hr⟩ : ∃ r, t % 10000 = r := ⟨_, rfl⟩
        have hqi : Int.tdiv (-(t : Int)) 10000 = -(q : Int) := by rw [td_neg, hq]
        have hri : Int.tmod (-(t : Int)) 10000 = -(r : Int) := by rw [tm_neg, hr]
        have hnn : -(-(r : Int)) = (r : Int) := by omega
        have hne : (-(t : Int) == 0) = false := by rw [beq_eq_false_iff_ne]; omega
        have hqt : q < t := by omega
        have hrl : r < 10000 := by omega
        have HT := hidden (show t = r + 10000 * q by omega)
        obtain ⟨ao, cap, rfl, hcap, hsrc⟩ := hO.out.src
        have HL := hidden (one_lit wr r)
        have HO1 := hidden (hO.out.of_eq (W' := wr.alloc (.cells #[.int .i64 (r : Int)] 3)) fun k _ hk => Below.heap_alloc wr _ k hk)
        have hsz := hbe.out.size
        rw [World.size_alloc] at hsz
        clear hq hr hsrc
        by_cases hr0 : r = 0
        · subst hr0
          go_wp2_with (at_builtin; refine append_parts (wr.alloc (.cells #[.int .i64 0] 3)) rfl (.tmp 15) (.tmp 17) rfl (w.heap.size + 1) _ l [0] rfl HO1.out wr.heap.size 0 1 1 rfl rfl HL.out (by simp; omega) (by simp; omega) ?_; intro v2 w2 h1 h2)
          go_roundw
          case rel =>
            refine ⟨q, l ++ [0], by go_num, by omega, hidden h1, hidden (dig_append hD.out (fun x hx => by rw [List.mem_singleton.1 hx]; exact hrl)), by simp; omega, hidden ?_, hidden ((hbe.out.alloc hsz _).trans h2)⟩
            rw [val_append, List.length_append, List.length_singleton, pw_succ]
            simp only [val, Nat.mul_zero, Nat.add_zero]
            exact of_step hv.out HT.out
          case measure => simp [intOf]; omega
        · have hrp : -(r : Int) < 0 := by omega
          go_wp2_with (at_builtin; refine append_parts (wr.alloc (.cells #[.int .i64 (r : Int)] 3)) rfl (.tmp 15) (.tmp 17) rfl (w.heap.size + 1) _ l [r] rfl HO1.out wr.heap.size 0 1 1 rfl rfl HL.out (by simp; omega) (by simp; omega) ?_; intro v2 w2 h1 h2)
          go_roundw
          case rel =>
            refine ⟨q, l ++ [r], by go_num, by omega, hidden h1, hidden (dig_append hD.out (fun x hx => by rw [List.mem_singleton.1 hx]; exact hrl)), by simp; omega, hidden ?_, hidden ((hbe.out.alloc hsz _).trans h2)⟩
            rw [val_append, List.length_append, List.length_singleton, pw_succ]
            simp only [val, Nat.mul_zero, Nat.add_zero]
            exact of_step hv.out HT.out
          case measure => simp [intOf]; omega
      · obtain rfl : t = 0 := by omega
        have hvu : val l = u := by have := hv.out; omega
        obtain ⟨ao, cap, rfl, hcap, hsrc⟩ := hO.out.src
        obtain ⟨m, hm⟩ : ∃ m, l.length = m := ⟨_, rfl⟩
        have HM := hidden (trim_any true ao m cap l wr hm (by omega) (by omega) hsrc hD.out)
        rw [hm]
        have hr1 := hidden (hbr.out.below hbe.out (by omega))
        have HVU := hidden hvu
        rw [hm] at hl3
        have hsz := hbe.out.size
        rw [World.size_alloc] at hsz
        clear hm hcap hsrc hO hvu hv
        go_wp2_with fail
        refine HM.out.mono ?_
        rintro e w2 ⟨v, rfl, hN, hb2⟩
        have HN := hidden hN
        obtain ⟨n3, a3, c3, l3, rfl, _⟩ := hN
        have hr2 := hr1.out.below hb2 (show w.heap.size < wr.heap.size by omega)
        obtain ⟨f0, f1, f2, f3⟩ := hr2.facts
        have hst := (Blk.set hr2 (.bool n3) (.slice a3 l3.length c3)).facts
        obtain ⟨g1, g2⟩ := numAt_stored (w := w) (hbw.out.trans ((hbe.out.mono (by omega)).trans (hb2.mono (by omega)))) (Nat.le_refl _) hr2 HN.out
        have HG1 := hidden g1
        have HG2 := hidden g2
        have HST := hidden hst
        clear hst g1 g2 hr2 hb2
        go_wp2
        refine bodyPost_ret (v := .agg #[.bool n3, .slice a3 l3.length c3]) (by simp [results, Tryd.results40, go_sem, HST.out.1, HST.out.2.1]) rfl ⟨_, rfl, ?_, HG2.out⟩
        have e := HG1.out
        rw [HVU.out, show sgnv true u = n by simp [sgnv]; omega] at e
        exact e.mono (by omega)
  · have hnu : n = (u : Int) := by omega
    subst hnu
    go_enter Tryd.func40, Tryd.ntmps40
    go_wp2
    go_loopw [3, 4, 5] (fun v c _ wr => ∃ (t : Nat) (l : List Nat), c = .int .i64 ((t : Int)) ∧ t ≤ u ∧ Hid (OwnN wr (w.heap.size + 1) v l) ∧ Hid (Dig l) ∧ l.length ≤ 5 ∧ Hid (val l + pw l.length * t = u) ∧ Hid (Below (w.heap.size + 1) (w.alloc (.cells #[.bool false, .slice none 0 0] 28)) wr)) (fun _ c _ _ => (intOf c).natAbs)
    case atStart => exact ⟨u, [], rfl, Nat.le_refl _, hidden (ownN_nil _ _), hidden dig_nil, Nat.zero_le _, hidden (by simp [val, pw]), hidden (Below.refl _ _)⟩
    case round =>
      obtain ⟨t, l, rfl, htu, hO, hD, hl3, hv, hbe⟩ := hrel
      by_cases h0 : 0 < t
      · have hl2 : l.length < 5 := by
          by_cases h : l.length < 5
          · exact h
          · have e := hv.out
            rw [show l.length = 5 by omega, HP3.out] at e
            omega
        obtain ⟨q, hq⟩ : ∃ q, t / 10000 = q := ⟨_, rfl⟩
        obtain ⟨r, hr⟩ : ∃ r, t % 10000 = r := ⟨_, rfl⟩
        have hqi : Int.tdiv (t : Int) 10000 = (q : Int) := by rw [td, hq]
        have hri : Int.tmod (t : Int) 10000 = (r : Int) := by rw [tm, hr]
        have hne : ((t : Int) == 0) = false := by rw [beq_eq_false_iff_ne]; omega
        have hqt : q < t := by omega
        have hrl : r < 10000 := by omega
        have HT := hidden (show t = r + 10000 * q by omega)
        obtain ⟨ao, cap, rfl, hcap, hsrc⟩ := hO.out.src
        have HL := hidden (one_lit wr r)
        have HO1 := hidden (hO.out.of_eq (W' := wr.alloc (.cells #[.int .i64 (r : Int)] 3)) fun k _ hk => Below.heap_alloc wr _ k hk)
        have hsz := hbe.out.size
        rw [World.size_alloc] at hsz
        clear hq hr hsrc
        go_wp2_with (at_builtin; refine append_parts (wr.alloc (.cells #[.int .i64 (r : Int)] 3)) rfl (.tmp 15) (.tmp 17) rfl (w.heap.size + 1) _ l [r] rfl HO1.out wr.heap.size 0 1 1 rfl rfl HL.out (by simp; omega) (by simp; omega) ?_; intro v2 w2 h1 h2)
        go_roundw
        case rel =>
          refine ⟨q, l ++ [r], by go_num, by omega, hidden h1, hidden (dig_append hD.out (fun x hx => by rw [List.mem_singleton.1 hx]; exact hrl)), by simp; omega, hidden ?_, hidden ((hbe.out.alloc hsz _).trans h2)⟩
          rw [val_append, List.length_append, List.length_singleton, pw_succ]
          simp only [val, Nat.mul_zero, Nat.add_zero]
          exact of_step hv.out HT.out
        case measure => simp [intOf]; omega
      · obtain rfl : t = 0 := by omega
        have hvu : val l = u := by have := hv.out; omega
        obtain ⟨ao, cap, rfl, hcap, hsrc⟩ := hO.out.src
        obtain ⟨m, hm⟩ : ∃ m, l.length = m := ⟨_, rfl⟩
        have HM := hidden (trim_any false ao m cap l wr hm (by omega) (by omega) hsrc hD.out)
        rw [hm]
        have hr1 := hidden (hbr.out.below hbe.out (by omega))
        have HVU := hidden hvu
        rw [hm] at hl3
        have hsz := hbe.out.size
        rw [World.size_alloc] at hsz
        clear hm hcap hsrc hO hvu hv
        go_wp2_with fail
        refine HM.out.mono ?_
        rintro e w2 ⟨v, rfl, hN, hb2⟩
        have HN := hidden hN
        obtain ⟨n3, a3, c3, l3, rfl, _⟩ := hN
        have hr2 := hr1.out.below hb2 (show w.heap.size < wr.heap.size by omega)
        obtain ⟨f0, f1, f2, f3⟩ := hr2.facts
        have hst := (Blk.set hr2 (.bool n3) (.slice a3 l3.length c3)).facts
        obtain ⟨g1, g2⟩ := numAt_stored (w := w) (hbw.out.trans ((hbe.out.mono (by omega)).trans (hb2.mono (by omega)))) (Nat.le_refl _) hr2 HN.out
        have HG1 := hidden g1
        have HG2 := hidden g2
        have HST := hidden hst
        clear hst g1 g2 hr2 hb2
        go_wp2
        refine bodyPost_ret (v := .agg #[.bool n3, .slice a3 l3.length c3]) (by simp [results, Tryd.results40, go_sem, HST.out.1, HST.out.2.1]) rfl ⟨_, rfl, ?_, HG2.out⟩
        have e := HG1.out
        rw [HVU.out, show sgnv false u = (u : Int) from rfl] at e
        exact e.mono (by omega)
end Rv
end Go.Proofs.YtapdkibiegeijaaDoor
