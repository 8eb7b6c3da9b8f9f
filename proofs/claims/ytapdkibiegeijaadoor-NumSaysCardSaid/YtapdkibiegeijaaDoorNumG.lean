/- Parts in a row of the call's own: appends; num.Of. Conditions: as each states. -/
import Derived.Test.YtapdkibiegeijaaDoorNumP
namespace Go.Proofs.YtapdkibiegeijaaDoor
open Go.RowKit
namespace Nm

theorem nval_one (xs : List Nat) : ∀ v ∈ xs.map nval, v.oneCell' = true := by
  intro v hv
  obtain ⟨x, _, rfl⟩ := List.mem_map.1 hv
  rfl
/-- Parts in a row of the call's own, from block B on. -/
def OwnN (W : World) (B : Nat) (v : Value) (bs : List Nat) : Prop := W.ownsRow B 75 1 v bs.length (bs.map nval)
theorem OwnN.of_eq {W W' : World} {B : Nat} {v : Value} {bs : List Nat} (h : OwnN W B v bs) (hb : ∀ k, B ≤ k → k < W.heap.size → W'.heap[k]? = W.heap[k]?) : OwnN W' B v bs := by
  refine ⟨h.1, ?_⟩
  rcases h.2 with h0 | ⟨g, cap, cur, e, hB, hg, h3⟩
  · exact .inl h0
  · exact .inr ⟨g, cap, cur, e, hB, (hb g hB (Array.getElem?_eq_some_iff.1 hg).1).trans hg, h3⟩
theorem OwnN.below {W W' : World} {B : Nat} {v : Value} {bs : List Nat} (h : OwnN W B v bs) (hb : Below W.heap.size W W') : OwnN W' B v bs := h.of_eq fun k _ hk => hb.block k hk
theorem OwnN.mono {W : World} {B B' : Nat} {v : Value} {bs : List Nat} (h : OwnN W B v bs) (hb : B' ≤ B) : OwnN W B' v bs := by
  refine ⟨h.1, ?_⟩
  rcases h.2 with h0 | ⟨g, cap, cur, e, hB, h3⟩
  · exact .inl h0
  · exact .inr ⟨g, cap, cur, e, by omega, h3⟩
theorem ownN_nil (W : World) (B : Nat) : OwnN W B (.slice none 0 0) [] := ⟨rfl, .inl ⟨rfl, rfl⟩⟩
/-- Where the parts of a list of the call's own stand. -/
theorem OwnN.at {W : World} {B : Nat} {v : Value} {bs : List Nat} (h : OwnN W B v bs) : ∃ ao cap, v = .slice ao bs.length cap ∧ bs.length ≤ cap ∧ (0 < bs.length → ∃ g, ao = some ⟨g, 0, none⟩ ∧ B ≤ g ∧ g < W.heap.size ∧ AtN W g 0 bs) := by
  rcases h.2 with ⟨rfl, h0⟩ | ⟨g, cap, cur, rfl, hB, hg, hc, _, hs, ht⟩
  · exact ⟨none, 0, by rw [h0], by omega, fun hp => by omega⟩
  · refine ⟨_, cap, rfl, hc, fun _ => ⟨g, rfl, hB, (Array.getElem?_eq_some_iff.1 hg).1, fun j x hx => ?_⟩⟩
    rw [cell_of_row W g (0 + j) _ _ _ hg, Nat.zero_add]
    have h1 : (bs.map nval)[j]? = some (nval x) := by rw [List.getElem?_map, hx]; rfl
    rw [← ht, List.getElem?_take] at h1
    split at h1
    · simpa using h1
    · cases h1

theorem app_run (w : World) (base : Nat) (ty : TypeId) (v : Value) (xs ys : List Nat) (hown : OwnN w base v xs) (bk off m c : Nat) (hm : ys.length = m) (hc : AtN w bk off ys) (hlen : xs.length + ys.length < 536870912) (hbase : base ≤ w.heap.size) :
    ∃ v' w', (Builtin.append_ #[23, 23] ty #[v, .slice (some ⟨bk, off, none⟩) m c]).run Tryd.prog w = .ok v' w' ∧ OwnN w' base v' (xs ++ ys) ∧ Below base w w' := by
  subst hm
  obtain ⟨i, hi, hz, hz1, hz2⟩ := u32_parts
  obtain ⟨v', w', hr, h1, h2, _⟩ := run_append_own (P := Tryd.prog) w base 23 ty 75 i (.int .u32 0) 1 4 Tryd.underlying23 hi hz hz1 hz2 rfl (by decide) v xs.length (xs.map nval) hown ⟨bk, off, none⟩ ys.length c (ys.map nval) (by simp)
    (fun j u hu => by
      rw [List.getElem?_map] at hu
      obtain ⟨x, hx, rfl⟩ := Option.map_eq_some_iff.1 hu
      rw [Addr.add_mid]
      exact hc j x hx) (nval_one _) (by unfold maxLen; omega) (by omega) hbase
  refine ⟨v', w', hr, ?_, ⟨h2.os, h2.tape, h2.output, h2.size, fun k hk => h2.block k (by omega) (fun e => ?_)⟩⟩
  · unfold OwnN; rw [List.length_append, List.map_append]; exact h1
  · have := (hown.lt k e.symm).1
    omega

theorem wp_append_parts {o : Oper} {a : Act} {K : Act → World → Prop} {Q : Exit → Act → World → Prop} (w : World) (s x : Operand)
    (ho : o.op = .call { callee := .builtin .append, args := #[s, x], argTypes := #[23, 23] }) (base : Nat) (v : Value) (xs ys : List Nat) (hs : a.eval s = v) (hown : OwnN w base v xs) (bk off m c : Nat) (hx : a.eval x = .slice (some ⟨bk, off, none⟩) m c) (hm : ys.length = m)
    (hc : AtN w bk off ys) (hlen : xs.length + ys.length < 536870912) (hbase : base ≤ w.heap.size)
    (h : ∀ v' w', OwnN w' base v' (xs ++ ys) → Below base w w' → K (a.put o.dst v') w') : o.wp Tryd.prog a w K Q := by
  obtain ⟨v', w', hr, h1, h2⟩ := app_run w base o.type v xs ys hown bk off m c hm hc hlen hbase
  unfold Oper.wp execOp
  simp only [ho, resolve, invoke, builtin, Sem.run_bind, Sem.run_pure, Result.andThen_ok, List.map_toArray, List.map_cons, List.map_nil, hs, hx, hr]
  exact h v' w' h1 h2
theorem append_parts {ops : Array Oper} {rest : List Oper} {o : Oper} {a : Act} {Q : Exit → Act → World → Prop} (w : World) (hgd : o.guard = none) (s x : Operand)
    (ho : o.op = .call { callee := .builtin .append, args := #[s, x], argTypes := #[23, 23] }) (base : Nat) (v : Value) (xs ys : List Nat) (hs : a.eval s = v) (hown : OwnN w base v xs) (bk off m c : Nat) (hx : a.eval x = .slice (some ⟨bk, off, none⟩) m c) (hm : ys.length = m)
    (hc : AtN w bk off ys) (hlen : xs.length + ys.length < 536870912) (hbase : base ≤ w.heap.size)
    (h : ∀ v' w', OwnN w' base v' (xs ++ ys) → Below base w w' → wpList Tryd.prog ops Q rest (a.put o.dst v') w') : wpList Tryd.prog ops Q (o :: rest) a w :=
  wpList_plain hgd fun _ hK => wp_append_parts w s x ho base v xs ys hs hown bk off m c hx hm hc hlen hbase fun v' w' h1 h2 => hK _ _ (h v' w' h1 h2)

theorem OwnN.src {W : World} {B : Nat} {v : Value} {l : List Nat} (h : OwnN W B v l) : ∃ ao cap, v = .slice ao l.length cap ∧ l.length ≤ cap ∧ SrcN W ao l := by
  obtain ⟨ao, cap, e, hc, h2⟩ := h.at
  exact ⟨ao, cap, e, hc, fun hp => by
    obtain ⟨g, e2, _, h3, h4⟩ := h2 hp
    exact ⟨g, 0, e2, h3, h4⟩⟩
theorem one_lit (w : World) (x : Nat) : AtN (w.alloc (.cells #[.int .u32 (x : Int)] 75)) w.heap.size 0 [x] := (show RowN (w.alloc (.cells #[.int .u32 (x : Int)] 75)) w.heap.size [x] from rowN_alloc w [x]).at
/-- One step of Of. -/
theorem of_step {V P u : Nat} {q r t : Nat} (h : V + P * t = u) (hd : t = r + 1000000000 * q) : V + P * r + (1000000000 * P) * q = u := by subst hd; rw [← h]; grind
set_option maxHeartbeats 3200000 in
theorem of_any (n : Int) (w : World) (h0 : -9223372036854775808 ≤ n) (h1 : n ≤ 9223372036854775807) :
    Calls Tryd.prog 31 #[.int .i64 n] w fun e w' => IsNum w w' e n 3 := by
  obtain ⟨u, hu⟩ : ∃ u, n.natAbs = u := ⟨_, rfl⟩
  have hul : u < 18446744073709551616 := by omega
  have hp3 : pw 3 = 1000000000000000000000000000 := by decide
  have HP3 := hidden hp3
  have hbr := hidden (blk_new w (.bool false) (.slice none 0 0))
  have hbw := hidden ((Below.refl w.heap.size w).alloc (Nat.le_refl _) (.cells #[.bool false, .slice none 0 0] 25))
  clear hp3
  by_cases hn : n < 0
  · have hcv : IntKind.u64.wrap (-(IntKind.u64.wrap n)) = (u : Int) := by rw [IntKind.wrap_u64, IntKind.wrap_u64]; omega
    have HU := hidden hu
    go_enter Tryd.func31, Tryd.ntmps31
    go_wp2
    go_loopw [3, 4] (fun c v wr => ∃ (t : Nat) (l : List Nat), c = .int .u64 t ∧ t ≤ u ∧ Hid (OwnN wr (w.heap.size + 1) v l) ∧ Hid (Dig l) ∧ l.length ≤ 3 ∧ Hid (val l + pw l.length * t = u) ∧ Hid (Below (w.heap.size + 1) (w.alloc (.cells #[.bool false, .slice none 0 0] 25)) wr)) (fun c _ _ => (intOf c).toNat)
    case atStart => exact ⟨u, [], by go_num, Nat.le_refl _, hidden (ownN_nil _ _), hidden dig_nil, Nat.zero_le _, hidden (by simp [val, pw]), hidden (Below.refl _ _)⟩
    case round =>
      obtain ⟨t, l, rfl, htu, hO, hD, hl3, hv, hbe⟩ := hrel
      by_cases h0 : 0 < t
      · have hl2 : l.length < 3 := by
          by_cases h : l.length < 3
          · exact h
          · have e := hv.out
            rw [show l.length = 3 by omega, HP3.out] at e
            omega
        obtain ⟨q, hq⟩ : ∃ q, t / 1000000000 = q := ⟨_, rfl⟩
        obtain ⟨r, hr⟩ : ∃ r, t % 1000000000 = r := ⟨_, rfl⟩
        have hqi : (t : Int) / 1000000000 = (q : Int) := by omega
        have hri : (t : Int) % 1000000000 = (r : Int) := by omega
        have hqt : q < t := by omega
        have hrl : r < 1000000000 := by omega
        have HT := hidden (show t = r + 1000000000 * q by omega)
        obtain ⟨ao, cap, rfl, hcap, hsrc⟩ := hO.out.src
        have HL := hidden (one_lit wr r)
        have HO1 := hidden (hO.out.of_eq (W' := wr.alloc (.cells #[.int .u32 (r : Int)] 75)) fun k _ hk => Below.heap_alloc wr _ k hk)
        have hsz := hbe.out.size
        rw [World.size_alloc] at hsz
        clear hq hr hsrc
        go_wp2_with (at_builtin; refine append_parts (wr.alloc (.cells #[.int .u32 (r : Int)] 75)) rfl (.tmp 15) (.tmp 19) rfl (w.heap.size + 1) _ l [r] rfl HO1.out wr.heap.size 0 1 1 rfl rfl HL.out (by simp; omega) (by simp; omega) ?_; intro v' w' h1 h2)
        go_roundw
        case rel =>
          refine ⟨q, l ++ [r], rfl, by omega, hidden h1, hidden (dig_append hD.out (fun x hx => by rw [List.mem_singleton.1 hx]; exact hrl)), by simp; omega, hidden ?_, hidden ((hbe.out.alloc hsz _).trans h2)⟩
          rw [val_append, List.length_append, List.length_singleton, pw_succ]
          simp only [val, Nat.mul_zero, Nat.add_zero]
          exact of_step hv.out HT.out
        case measure => simp [intOf]; omega
      · obtain rfl : t = 0 := by omega
        have hvu : val l = u := by have := hv.out; omega
        obtain ⟨ao, cap, rfl, hcap, hsrc⟩ := hO.out.src
        obtain ⟨m, hm⟩ : ∃ m, l.length = m := ⟨_, rfl⟩
        have HM := hidden (made_any true ao m cap l wr hm (by omega) (by omega) hsrc hD.out)
        rw [hm]
        have hr1 := hidden (hbr.out.below hbe.out (by omega))
        have HVU := hidden hvu
        rw [hm] at hl3
        have hsz := hbe.out.size
        rw [World.size_alloc] at hsz
        clear hm hcap hsrc hO hvu hv
        go_wp2_with fail
        refine HM.out.mono ?_
        rintro e w2 ⟨v, rfl, hN, hb2⟩
        have HN := hidden hN
        obtain ⟨n3, a3, c3, l3, rfl, _⟩ := hN
        have hr2 := hr1.out.below hb2 (show w.heap.size < wr.heap.size by omega)
        obtain ⟨f0, f1, f2, f3⟩ := hr2.facts
        have hst := (Blk.set hr2 (.bool n3) (.slice a3 l3.length c3)).facts
        obtain ⟨g1, g2⟩ := numAt_stored (w := w) (hbw.out.trans ((hbe.out.mono (by omega)).trans (hb2.mono (by omega)))) (Nat.le_refl _) hr2 HN.out
        have HG1 := hidden g1
        have HG2 := hidden g2
        have HST := hidden hst
        clear hst g1 g2 hr2 hb2
        go_wp2
        refine bodyPost_ret (v := .agg #[.bool n3, .slice a3 l3.length c3]) (by simp [results, Tryd.results31, go_sem, HST.out.1, HST.out.2.1]) rfl ⟨_, rfl, ?_, HG2.out⟩
        have e := HG1.out
        rw [HVU.out, show sgnv true u = n by simp [sgnv]; omega] at e
        exact e.mono (by omega)
  · obtain rfl : n = (u : Int) := by omega
    go_enter Tryd.func31, Tryd.ntmps31
    go_wp2
    go_loopw [3, 4] (fun c v wr => ∃ (t : Nat) (l : List Nat), c = .int .u64 t ∧ t ≤ u ∧ Hid (OwnN wr (w.heap.size + 1) v l) ∧ Hid (Dig l) ∧ l.length ≤ 3 ∧ Hid (val l + pw l.length * t = u) ∧ Hid (Below (w.heap.size + 1) (w.alloc (.cells #[.bool false, .slice none 0 0] 25)) wr)) (fun c _ _ => (intOf c).toNat)
    case atStart => exact ⟨u, [], by go_num, Nat.le_refl _, hidden (ownN_nil _ _), hidden dig_nil, Nat.zero_le _, hidden (by simp [val, pw]), hidden (Below.refl _ _)⟩
    case round =>
      obtain ⟨t, l, rfl, htu, hO, hD, hl3, hv, hbe⟩ := hrel
      by_cases h0 : 0 < t
      · have hl2 : l.length < 3 := by
          by_cases h : l.length < 3
          · exact h
          · have e := hv.out
            rw [show l.length = 3 by omega, HP3.out] at e
            omega
        obtain ⟨q, hq⟩ : ∃ q, t / 1000000000 = q := ⟨_, rfl⟩
        obtain ⟨r, hr⟩ : ∃ r, t % 1000000000 = r := ⟨_, rfl⟩
        have hqi : (t : Int) / 1000000000 = (q : Int) := by omega
        have hri : (t : Int) % 1000000000 = (r : Int) := by omega
        have hqt : q < t := by omega
        have hrl : r < 1000000000 := by omega
        have HT := hidden (show t = r + 1000000000 * q by omega)
        obtain ⟨ao, cap, rfl, hcap, hsrc⟩ := hO.out.src
        have HL := hidden (one_lit wr r)
        have HO1 := hidden (hO.out.of_eq (W' := wr.alloc (.cells #[.int .u32 (r : Int)] 75)) fun k _ hk => Below.heap_alloc wr _ k hk)
        have hsz := hbe.out.size
        rw [World.size_alloc] at hsz
        clear hq hr hsrc
        go_wp2_with (at_builtin; refine append_parts (wr.alloc (.cells #[.int .u32 (r : Int)] 75)) rfl (.tmp 15) (.tmp 19) rfl (w.heap.size + 1) _ l [r] rfl HO1.out wr.heap.size 0 1 1 rfl rfl HL.out (by simp; omega) (by simp; omega) ?_; intro v' w' h1 h2)
        go_roundw
        case rel =>
          refine ⟨q, l ++ [r], rfl, by omega, hidden h1, hidden (dig_append hD.out (fun x hx => by rw [List.mem_singleton.1 hx]; exact hrl)), by simp; omega, hidden ?_, hidden ((hbe.out.alloc hsz _).trans h2)⟩
          rw [val_append, List.length_append, List.length_singleton, pw_succ]
          simp only [val, Nat.mul_zero, Nat.add_zero]
          exact of_step hv.out HT.out
        case measure => simp [intOf]; omega
      · obtain rfl : t = 0 := by omega
        have hvu : val l = u := by have := hv.out; omega
        obtain ⟨ao, cap, rfl, hcap, hsrc⟩ := hO.out.src
        obtain ⟨m, hm⟩ : ∃ m, l.length = m := ⟨_, rfl⟩
        have HM := hidden (made_any false ao m cap l wr hm (by omega) (by omega) hsrc hD.out)
        rw [hm]
        have hr1 := hidden (hbr.out.below hbe.out (by omega))
        have HVU := hidden hvu
        rw [hm] at hl3
        have hsz := hbe.out.size
        rw [World.size_alloc] at hsz
        clear hm hcap hsrc hO hvu hv
        go_wp2_with fail
        refine HM.out.mono ?_
        rintro e w2 ⟨v, rfl, hN, hb2⟩
        have HN := hidden hN
        obtain ⟨n3, a3, c3, l3, rfl, _⟩ := hN
        have hr2 := hr1.out.below hb2 (show w.heap.size < wr.heap.size by omega)
        obtain ⟨f0, f1, f2, f3⟩ := hr2.facts
        have hst := (Blk.set hr2 (.bool n3) (.slice a3 l3.length c3)).facts
        obtain ⟨g1, g2⟩ := numAt_stored (w := w) (hbw.out.trans ((hbe.out.mono (by omega)).trans (hb2.mono (by omega)))) (Nat.le_refl _) hr2 HN.out
        have HG1 := hidden g1
        have HG2 := hidden g2
        have HST := hidden hst
        clear hst g1 g2 hr2 hb2
        go_wp2
        refine bodyPost_ret (v := .agg #[.bool n3, .slice a3 l3.length c3]) (by simp [results, Tryd.results31, go_sem, HST.out.1, HST.out.2.1]) rfl ⟨_, rfl, ?_, HG2.out⟩
        have e := HG1.out
        rw [HVU.out, show sgnv false u = (u : Int) from rfl] at e
        exact e.mono (by omega)
end Nm
end Go.Proofs.YtapdkibiegeijaaDoor
