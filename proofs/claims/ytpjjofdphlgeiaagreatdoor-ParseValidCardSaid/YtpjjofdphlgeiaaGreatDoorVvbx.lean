/- Parts of the proof, together. smithylaw6.ParseValid: what is parsed is a tree that may be; parsed again it is the same, in new memory. Conditions: the words and the errors of api lie in their variables; what is parsed is valid (told by the caller). -/
import Derived.Test.YtpjjofdphlgeiaaGreatDoorVvbw
import Derived.Test.YtpjjofdphlgeiaaGreatDoorVvbf
import Derived.Test.YtpjjofdphlgeiaaGreatDoorVvbv
import Derived.Test.YtpjjofdphlgeiaaGreatDoorVvbc
namespace Go.Proofs.YtpjjofdphlgeiaaGreatDoor
open Go.RowKit
open Lx Ax Px Ay

/-- The nodes' own block: where each node's kids lie. -/
def NodeRow (wr : World) (g : Nat) (vs : List Value) : Prop := ∃ cs, RowV wr g 32 cs ∧ ∀ (i : Nat) v, vs[i]? = some v → cs[i * 5 + 4]? = some v
/-- Kids' own block. -/
def KidRow (wr : World) (B H : Nat) (v : Value) : Prop := ∃ ao n c, v = .slice ao n c ∧ n ≤ 1048576 ∧ (n = 0 ∨ ∃ g cs, ao = some ⟨g, 0, none⟩ ∧ B ≤ g ∧ g < H ∧ RowV wr g 3 cs ∧ n ≤ cs.length)
structure Mut (wr : World) (B H g : Nat) (vs : List Value) : Prop where
  nodes : NodeRow wr g vs
  kids : ∀ v ∈ vs, KidRow wr B H v
theorem own_row {W : World} {base : Nat} {e : TypeId} {size n g cap : Nat} {xs : List Value} (h : W.ownsRow base e size (.slice (some ⟨g, 0, none⟩) n cap) n xs) : ∃ cs, RowV W g e cs ∧ cs.take (n * size) = xs := by
  rcases h.2 with ⟨h0, _⟩ | ⟨g', cap', cur, e1, _, hg, _, _, _, ht⟩
  · simp at h0
  · simp only [Value.slice.injEq, Option.some.injEq, Addr.mk.injEq] at e1
    obtain ⟨⟨rfl, _⟩, _⟩ := e1
    exact ⟨cur.toList, by unfold RowV; simpa using hg, ht⟩
theorem mut_of {W : World} {B g cap : Nat} {l : List Nd} {vs : List Value} (h : Tr W B (.slice (some ⟨g, 0, none⟩) l.length cap) l vs) : Mut W B W.heap.size g vs := by
  refine ⟨?_, fun v hv => ?_⟩
  · obtain ⟨cs, h1, h2⟩ := own_row h.own
    refine ⟨cs, h1, fun i v hv => ?_⟩
    have hi : i < l.length := by rw [← h.len]; exact (List.getElem?_eq_some_iff.1 hv).1
    have h3 := nodesC_at l vs i l[i] v (List.getElem?_eq_getElem hi) hv 4 v rfl
    rw [← h2, List.getElem?_take] at h3
    split at h3
    · exact h3
    · cases h3
  · obtain ⟨i, hi, e⟩ := List.getElem_of_mem hv
    have hl : i < l.length := by rw [← h.len]; exact hi
    have hk := h.kid i l[i] v (List.getElem?_eq_getElem hl) (by rw [List.getElem?_eq_getElem hi, e])
    by_cases h0 : l[i].kids = []
    · obtain ⟨ao, c, e2, _⟩ := own_form hk
      exact ⟨ao, _, c, e2, h.few _ (List.getElem_mem hl), .inl (by rw [h0]; rfl)⟩
    · obtain ⟨g2, c2, e2, _, hB, hlt, _⟩ := own_some hk (List.length_pos_iff.2 h0)
      subst e2
      obtain ⟨cs, h1, h2⟩ := own_row hk
      refine ⟨_, _, _, rfl, h.few _ (List.getElem_mem hl), .inr ⟨g2, cs, rfl, hB, hlt, h1, ?_⟩⟩
      have h3 := congrArg List.length h2
      rw [List.length_take, Nat.mul_one] at h3
      simp only [nums, List.length_map] at h3
      omega
theorem Mut.setOp {wr : World} {B H g : Nat} {vs : List Value} (h : Mut wr B H g vs) (i : Nat) (v : Value) : Mut (wr.setCell ⟨g, i * 5, none⟩ v) B H g vs := by
  obtain ⟨cs, h1, h2⟩ := h.nodes
  refine ⟨⟨_, h1.set (i * 5) v, fun j u hu => ?_⟩, fun u hu => ?_⟩
  · rw [List.getElem?_set_ne (by omega)]
    exact h2 j u hu
  · obtain ⟨ao, n, c, e, hn, h3⟩ := h.kids u hu
    refine ⟨ao, n, c, e, hn, h3.imp id fun ⟨g2, cs2, a1, a2, a3, a4, a5⟩ => ⟨g2, cs2, a1, a2, a3, a4.far (heap_setCell_other _ _ _ _ (RowV.apart a4 h1 (by decide))), a5⟩⟩
theorem Mut.setKid {wr : World} {B H g gk : Nat} {vs cs0 : List Value} (h : Mut wr B H g vs) (hr : RowV wr gk 3 cs0) (k : Nat) (v : Value) : Mut (wr.setCell ⟨gk, k, none⟩ v) B H g vs := by
  obtain ⟨cs, h1, h2⟩ := h.nodes
  refine ⟨⟨cs, h1.far (heap_setCell_other _ _ _ _ (fun e => RowV.apart hr h1 (by decide) e.symm)), h2⟩, fun u hu => ?_⟩
  obtain ⟨ao, n, c, e, hn, h3⟩ := h.kids u hu
  refine ⟨ao, n, c, e, hn, h3.imp id fun ⟨g2, cs2, a1, a2, a3, a4, a5⟩ => ?_⟩
  by_cases hg : g2 = gk
  · subst hg
    exact ⟨g2, _, a1, a2, a3, a4.set k v, by rw [List.length_set]; exact a5⟩
  · exact ⟨g2, cs2, a1, a2, a3, a4.far (heap_setCell_other _ _ _ _ hg), a5⟩
/-- What is said of what is parsed. -/
structure Parsed (l1 : List Nd) : Prop where
  valid : validH l1 = none
  pos : 0 < l1.length
  few : l1.length ≤ 100000
  ops : ∀ x ∈ l1, OpK x.op
  text : ∀ x ∈ l1, x.s.size ≤ 1000000
  kids : ∀ x ∈ l1, x.kids.length ≤ 900000
set_option maxRecDepth 20000 in
set_option maxHeartbeats 12800000 in
theorem parseValid_any (A : Nat → Addr) (l : List UInt8) (W : World) (h : PCy A W) (hSh : W.cell? ⟨1, 0, none⟩ = some (E A 12)) (hv : l.length ≤ 2000 → ∀ l1, Px.treeF fuelT .file l = some (.ok l1) → Parsed l1) : Calls Tryz.prog 3 #[.string (txt l)] W fun e w' => e = .returned (.bool true) ∧ Below W.heap.size W w' := by
  have hnot : ∀ (x : Bool) (w : World), (Op.unary .not (.bool x)).run Tryz.prog w = .ok (.bool (!x)) w := fun _ _ => rfl
  have hn1 := neq_at
  have hn2 := neq_none
  have hn3 : ∀ w : World, (binOp .eql 25 .nilIface .nilIface).run Tryz.prog w = .ok (.bool true) w := fun _ => by kernel_rfl
  have HF := hid' (pfirstY_any A W h)
  have HCX := hid' h
  have HSH := hid' hSh
  clear h hSh
  by_cases hsz : ¬ (txt l).size ≤ 2000
  · have hgt : decide (((txt l).size : Int) > 2000) = true := decide_eq_true (by omega)
    go_enter Tryz.func3, Tryz.ntmps3
    go_wp2_with fail
    refine Calls.mono HF.out ?_
    rintro e w1 ⟨rfl, b1⟩
    go_wp2
    go_returns
    exact ⟨rfl, b1⟩
  rw [Decidable.not_not] at hsz
  have hgt : decide (((txt l).size : Int) > 2000) = false := decide_eq_false (by omega)
  have hll : l.length ≤ 2000 := hsz
  obtain ⟨pr, hpr⟩ := tree_some l (by omega) fuelT (Nat.le_refl _)
  have s1 : (txt l).size ≤ 65536 := by omega
  have HX1 := hid' (fun W' (hb : Below W.heap.size W W') => parse_any A _ s1 W' (HCX.out.below hb).vars (HCX.out.below hb).ev fuelT pr (by rw [data_txt]; exact hpr))
  go_enter Tryz.func3, Tryz.ntmps3
  go_wp2_with fail
  refine Calls.mono HF.out ?_
  rintro e w1 ⟨rfl, b1⟩
  have HB1 := hid' b1
  clear b1 HF
  go_wp2_with fail
  refine Calls.mono (HX1.out _ HB1.out) ?_
  rintro e w2 ⟨b2, hp⟩
  have HB2 := hid' (Below.thenB HB1.out b2)
  cases pr with
  | lex pos =>
    obtain ⟨g, rfl, _⟩ := hp
    clear HX1 b2
    go_wp2
    go_returns
    exact ⟨rfl, HB2.out⟩
  | bad lim pos =>
    obtain ⟨g, rfl, _⟩ := hp
    clear HX1 b2
    go_wp2
    go_returns
    exact ⟨rfl, HB2.out⟩
  | ok l1 =>
    obtain ⟨B1, vl1, vs1, rfl, hB1, hT1⟩ := hp
    have HP := hid' (hv hll l1 hpr)
    have hpos := HP.out.pos
    have hfew := HP.out.few
    obtain ⟨g1, cap1, rfl, _, hg1B, hg1, _⟩ := own_some hT1.own hpos
    obtain ⟨ao1, cap1', e1, _, hN1⟩ := hT1.nodes
    simp only [Value.slice.injEq] at e1
    obtain ⟨rfl, _, rfl⟩ := e1
    have HT1 := hid' hT1
    have hBW : W.heap.size ≤ B1 := by have := HB1.out.size; omega
    have HVA := hid' (valid_all A w2.heap.size (some ⟨g1, 0, none⟩) cap1 l1 w2 hfew hpos hN1 (Nat.le_refl _) (HCX.out.below HB2.out).vars.words (World.block_lt_of_cell? w2 ⟨17, 0 + 0, none⟩ ((HCX.out.below HB2.out).vars.words 0 _ rfl)) ((HB2.out.cell (World.block_lt_of_cell? W _ HSH.out)).trans HSH.out) HP.out.ops HP.out.kids HP.out.text)
    rw [HP.out.valid] at HVA
    have HN1 := hid' hN1
    clear hT1 hN1 b2 hpr hv
    go_wp2_with fail
    refine Calls.mono HVA.out ?_
    rintro e w3 ⟨b3, rfl⟩
    have HQ3 := hid' b3
    have HB3 := hid' (Below.thenB HB2.out b3)
    have HCP := hid' (cp_nodes (some ⟨g1, 0, none⟩) cap1 l1 w3 (HN1.out.keep b3 b3.size) (by omega) HP.out.kids)
    have hT3 := HT1.out.keep (W' := w3) fun k _ hk => b3.block k hk
    clear b3 HVA HN1 HT1
    go_wp2_with fail
    refine Calls.mono HCP.out ?_
    rintro e w4 ⟨g2, c2, vs2, rfl, hT2, b4⟩
    have HB4 := hid' (Below.thenB HB3.out b4)
    have hM3 := mut_of hT3
    have hM4 : Mut w4 B1 w3.heap.size g1 vs1 := by
      obtain ⟨⟨cs, m1, m2⟩, m3⟩ := hM3
      refine ⟨⟨cs, m1.far (b4.block _ m1.lt), m2⟩, fun v hv => ?_⟩
      obtain ⟨ao, n, c, e, hn, h3⟩ := m3 v hv
      exact ⟨ao, n, c, e, hn, h3.imp id fun ⟨g2, cs2, a1, a2, a3, a4, a5⟩ => ⟨g2, cs2, a1, a2, a3, a4.far (b4.block _ a4.lt), a5⟩⟩
    have HM4 := hid' hM4
    have HT2 := hid' hT2
    have hg13 : g1 < w3.heap.size := Nat.lt_of_lt_of_le hg1 HQ3.out.size
    have hlen1 : vs1.length = l1.length := hT3.len
    have hsz34 : w3.heap.size ≤ w4.heap.size := b4.size
    clear hT2 hM3 hM4 hT3 b4 HCP HQ3
    go_wp2
    go_loopw [7] (fun i wr => ∃ k : Nat, k ≤ l1.length ∧ i = .int .i64 k ∧ Hid (Mut wr B1 w3.heap.size g1 vs1) ∧ Hid (∀ k, w3.heap.size ≤ k → wr.heap[k]? = w4.heap[k]?) ∧ Hid (wr.heap.size = w4.heap.size) ∧ Hid (Below W.heap.size W wr)) (fun i _ => l1.length - (intOf i).toNat)
    case atStart => exact ⟨0, Nat.zero_le _, rfl, HM4, hid' (fun _ _ => rfl), hid' rfl, HB4⟩
    case round =>
      obtain ⟨k, hk, rfl, hm, hfar, hs, hb⟩ := hrel
      by_cases hlt : k < l1.length
      · have hlt' : (0 : Int) ≤ (k : Int) ∧ (k : Int) < (l1.length : Int) := by omega
        obtain ⟨cs, r1, r2⟩ := hm.out.nodes
        obtain ⟨v, hv⟩ : ∃ v, vs1[k]? = some v := ⟨_, List.getElem?_eq_getElem (by omega)⟩
        have hc4 := r2 k v hv
        obtain ⟨u0, hu0⟩ : ∃ u, cs[k * 5]? = some u := ⟨_, List.getElem?_eq_getElem (by have := (List.getElem?_eq_some_iff.1 hc4).1; omega)⟩
        have ca := r1.cell hu0
        have cb := r1.open_ (k * 5)
        have cl := r1.lt
        have HM1 := hid' (hm.out.setOp k (.int .i64 (-1)))
        have HF1 : Hid (∀ j, w3.heap.size ≤ j → (wr.setCell ⟨g1, k * 5, none⟩ (.int .i64 (-1))).heap[j]? = w4.heap[j]?) := hid' (fun j hj => (heap_setCell_other _ _ j _ (by show j ≠ g1; omega)).trans (hfar.out j hj))
        have HS1 : Hid ((wr.setCell ⟨g1, k * 5, none⟩ (.int .i64 (-1))).heap.size = w4.heap.size) := hid' (by rw [← hs.out]; simp [World.setCell])
        have HB5 := hid' (hb.out.setCell (p := ⟨g1, k * 5, none⟩) (by show W.heap.size ≤ g1; omega) (.int .i64 (-1)))
        have HVK := hid' (List.mem_of_getElem? hv)
        have HV := hid' hv
        obtain ⟨ao, nk, ck, rfl, hnk, _⟩ := hm.out.kids v HVK.out
        clear hc4 r1 r2 hm hfar hs hb hu0 hv
        go_wp2
        clear ca cb
        go_loopw [8] (fun i wq => ∃ m : Nat, m ≤ nk ∧ i = .int .i64 m ∧ Hid (Mut wq B1 w3.heap.size g1 vs1) ∧ Hid (∀ k, w3.heap.size ≤ k → wq.heap[k]? = w4.heap[k]?) ∧ Hid (wq.heap.size = w4.heap.size) ∧ Hid (Below W.heap.size W wq)) (fun i _ => nk - (intOf i).toNat)
        case atStart => exact ⟨0, Nat.zero_le _, rfl, HM1, HF1, HS1, HB5⟩
        case round =>
          obtain ⟨m, hm', rfl, hm, hfar, hs, hb⟩ := hrel
          obtain ⟨cs2, r1, r2⟩ := hm.out.nodes
          have ca := r1.cell (r2 k _ HV.out)
          have cl2 := r1.lt
          by_cases hlm : m < nk
          · have hlm' : (m : Int) < (nk : Int) := by omega
            obtain ⟨ao', n', c', e, _, hkr⟩ := hm.out.kids _ HVK.out
            simp only [Value.slice.injEq] at e
            obtain ⟨e1, e2, e3⟩ := e
            rcases hkr with h0 | ⟨gk, ck2, hao, a2, a3, a4, a5⟩
            · omega
            rw [hao] at e1
            rw [e1] at ca
            clear e1 hao e3
            obtain ⟨u1, hu1⟩ : ∃ u, ck2[m]? = some u := ⟨_, List.getElem?_eq_getElem (by omega)⟩
            have cc := a4.cell hu1
            have cd := a4.open_ m
            have ce := a4.lt
            have HM2 := hid' (hm.out.setKid a4 m (.int .i64 (-1)))
            have HF2 : Hid (∀ j, w3.heap.size ≤ j → (wr.setCell ⟨gk, m, none⟩ (.int .i64 (-1))).heap[j]? = w4.heap[j]?) := hid' (fun j hj => (heap_setCell_other _ _ j _ (by show j ≠ gk; omega)).trans (hfar.out j hj))
            have HS2 : Hid ((wr.setCell ⟨gk, m, none⟩ (.int .i64 (-1))).heap.size = w4.heap.size) := hid' (by rw [← hs.out]; simp [World.setCell])
            have HB6 := hid' (hb.out.setCell (p := ⟨gk, m, none⟩) (by show W.heap.size ≤ gk; omega) (.int .i64 (-1)))
            have hmb : (0 : Int) ≤ (m : Int) ∧ (m : Int) < (nk : Int) := by omega
            clear hu1 a4 r1 r2 hm hfar hs hb
            go_wp2
            go_roundw
            case rel => exact ⟨m + 1, by omega, by go_num, HM2, HF2, HS2, HB6⟩
            case measure => simp [intOf]; omega
          · obtain rfl : m = nk := by omega
            clear r1 r2
            go_wp2
            go_roundw
            case rel => exact ⟨k + 1, by omega, by go_num, hm, hfar, hs, hb⟩
            case measure => simp [intOf]; omega
      · obtain rfl : k = l1.length := by omega
        have hX := hid' (HX1.out _ hb.out)
        have HT5 := hid' (HT2.out.keep (W' := wr) fun j hj _ => hfar.out j hj)
        clear hm hfar HX1 HT2 HM4
        go_wp2_with fail
        refine Calls.mono hX.out ?_
        rintro e w6 ⟨b6, B2, vl6, vs6, rfl, hB2, hT6⟩
        obtain ⟨g6, cap6, rfl, _, hg6B, hg6, _⟩ := own_some hT6.own hpos
        obtain ⟨ao6, cap6', e6, _, hN6⟩ := hT6.nodes
        simp only [Value.slice.injEq] at e6
        obtain ⟨rfl, _, rfl⟩ := e6
        have hT7 := HT5.out.keep (W' := w6) fun j _ hj => b6.block j hj
        obtain ⟨ao7, cap7, e7, _, hN7⟩ := hT7.nodes
        simp only [Value.slice.injEq] at e7
        obtain ⟨rfl, _, rfl⟩ := e7
        have HSN := hid' (sameNodes_eq (some ⟨g6, 0, none⟩) (some ⟨g2, 0, none⟩) cap6 c2 l1.length l1 rfl w6 (by omega) hN6 hN7)
        have HB7 := hid' (Below.thenB hb.out b6)
        clear hT6 hT7 hN6 hN7 b6 hX HT5 hb
        go_wp2_with fail
        refine Calls.mono HSN.out ?_
        rintro e w8 ⟨rfl, b8⟩
        have HB8 := hid' (Below.thenB HB7.out b8)
        clear b8
        go_wp2
        go_returns
        exact ⟨rfl, HB8.out⟩
end Go.Proofs.YtpjjofdphlgeiaaGreatDoor
