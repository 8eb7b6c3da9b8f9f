/- Parts of the proof, together. What the functions say of the law's deep texts; the texts, put together. No conditions. ParseDeep, of one kind of text. Conditions: the words and the errors of api lie in their variables. ParseDeep, of one kind of text. Conditions: the words and the errors of api lie in their variables. ParseDeep, of one kind of text. Conditions: the words and the errors of api lie in their variables. ParseDeep, of one kind of text. Conditions: the words and the errors of api lie in their variables. ParseDeep: brackets, minuses, nots within one another may stand so deep, and no deeper. Conditions: the words and the errors of api lie in their variables. -/
import Derived.Test.YtaafhldcdkbnkaaGreatDoorQdbt
import Derived.Test.YtaafhldcdkbnkaaGreatDoorQdbu
import Derived.Test.YtaafhldcdkbnkaaGreatDoorQdbv
namespace Go.Proofs.YtaafhldcdkbnkaaGreatDoor
open Go.RowKit
open Lx Ax Px

namespace Px
theorem dp_3 (n : Nat) (h1 : 1 ≤ n) (h2 : n ≤ 80) : dpOK 3 n = true := by
  by_cases c1 : n ≤ 20
  · exact dp_3a n h1 c1
  by_cases c2 : n ≤ 40
  · exact dp_3b n (by omega) c2
  by_cases c3 : n ≤ 60
  · exact dp_3c n (by omega) c3
  exact dp_3d n (by omega) h2
theorem dp_ok {k n : Nat} (h : dpOK k n = true) (hd : deepD k n ≤ 60) (hk : ¬ (k = 2 ∧ 60 < n)) : ∃ l, treeF 1200 .file (textD k n) = some (.ok l) ∧ goodD l = true := by
  unfold dpOK at h
  split at h
  · cases h
  · exact absurd (by simpa using h) hk
  · simp at h; omega
  · rename_i l hl
    exact ⟨l, hl, (Bool.and_eq_true_iff.1 h).2⟩
theorem dp_bad {k n : Nat} (h : dpOK k n = true) (hd : 60 < deepD k n) (hk : ¬ (k = 2 ∧ 60 < n)) : treeF 1200 .file (textD k n) = some (.bad true (atD k)) := by
  unfold dpOK at h
  split at h
  · cases h
  · exact absurd (by simpa using h) hk
  · rename_i lim p hl
    simp at h
    rw [hl, h.1.1.1, h.1.1.2]
  · simp at h; omega
theorem dp_lex {k n : Nat} (h : dpOK k n = true) (hk : k = 2 ∧ 60 < n) : ∃ p, treeF 1200 .file (textD k n) = some (.lex p) := by
  unfold dpOK at h
  split at h
  · cases h
  · rename_i p hl
    exact ⟨p, hl⟩
  · simp at h; omega
  · have h2 := (Bool.and_eq_true_iff.1 h).1
    unfold deepD at h2
    rw [if_pos hk.1] at h2
    simp at h2; omega
theorem good_parts {l : List Nd} (h : goodD l = true) : validF l = none ∧ (∀ x ∈ l, OpOK x.op) ∧ (∀ x ∈ l, x.s.size ≤ 1000000) ∧ 0 < l.length ∧ l.length ≤ 100000 := by
  unfold goodD at h
  rw [Bool.and_eq_true, Bool.and_eq_true, Bool.and_eq_true] at h
  obtain ⟨⟨⟨h1, h2⟩, h3⟩, h4⟩ := h
  refine ⟨?_, fun x hx => ?_, fun x hx => ?_, by simpa using h3, by simpa using h4⟩
  · split at h1
    · assumption
    · cases h1
  · have := List.all_eq_true.1 h2 x hx
    rw [Bool.and_eq_true] at this
    exact of_decide_eq_true this.1
  · have := List.all_eq_true.1 h2 x hx
    rw [Bool.and_eq_true] at this
    have := of_decide_eq_true this.2
    omega
end Px
theorem fault_code (c p : Int) (a b : Bool) (x : ByteArray) (w : World) : (Instr.field 39 (.agg #[.int .i64 c, .bool a, .int .i64 p, .bool b, .string x]) 0).run Tryz.prog w = .ok (.int .i64 c) w := by kernel_rfl
theorem eql_none (w : World) : (binOp .eql 25 .nilIface .nilIface).run Tryz.prog w = .ok (.bool true) w := by kernel_rfl
end Go.Proofs.YtaafhldcdkbnkaaGreatDoor

namespace Go.Proofs.YtaafhldcdkbnkaaGreatDoor
open Go.RowKit
open Lx Ax Px

set_option maxRecDepth 20000 in
set_option maxHeartbeats 6400000 in
theorem deep0_any (A : Nat → Addr) (x y : Int) (W : World) (h : PCx A W) (nf : Nat) (hnf : nf < 80) (mx my : Int) (hmx : x.tmod 80 = mx) (m1 : -80 < mx ∧ mx < 80) (e1 : (mx + 80).tmod 80 = (nf : Int)) (hmy : y.tmod 4 = my) (m2 : -4 < my ∧ my < 4) (e2 : (my + 4).tmod 4 = 0) : Calls Tryz.prog 6 #[.int .i64 x, .int .i64 y] W fun e w' => e = .returned (.bool true) ∧ Below W.heap.size W w' := by
  have hnot : ∀ (x : Bool) (w : World), (Op.unary .not (.bool x)).run Tryz.prog w = .ok (.bool (!x)) w := fun _ _ => rfl
  have hen := eql_none
  have hfc := fault_code
  have HF := hid' (pfirst_any A W h)
  have HCX := hid' h
  have HDP := hid' (dp_0 (nf + 1) (by omega) (by omega))
  obtain ⟨SV, hSV⟩ : ∃ f : Nat → ByteArray, f = fun j => txt ([120, 32, 61, 32] ++ manyD [45] j) := ⟨_, rfl⟩
  have HS0 : Hid (SV 0 = ⟨#[120, 32, 61, 32]⟩) := hid' (by rw [hSV]; rfl)
  have HSS : Hid (∀ j, SV j ++ ⟨#[45]⟩ = SV (j + 1)) := hid' (fun j => by
    rw [hSV]
    show txt _ ++ txt [45] = txt _
    rw [txt_cat, manyD, List.append_assoc])
  have HSZ : Hid (∀ j, (SV j).size = 4 + 1 * j) := hid' (fun j => by
    rw [hSV]
    show List.length _ = _
    rw [List.length_append, manyD_length]; rfl)
  have HT : Hid ((SV (nf + 1) ++ (⟨#[121]⟩ : ByteArray)).data.toList = textD 0 (nf + 1)) := hid' (by
    rw [hSV]
    show (txt _ ++ txt [121]).data.toList = _
    rw [txt_cat]
    show _ = _ ++ []
    rw [List.append_nil]
    rfl)
  have HTZ : Hid ((SV (nf + 1) ++ (⟨#[121]⟩ : ByteArray)).size ≤ 65536) := hid' (by
    rw [hSV]
    show (txt _ ++ txt [121]).size ≤ _
    rw [txt_cat]
    show List.length _ ≤ _
    rw [List.length_append, List.length_append, manyD_length]
    simp
    omega)
  clear h hSV
  go_enter Tryz.func6, Tryz.ntmps6
  go_wp2_with fail
  refine Calls.mono HF.out ?_
  rintro e w1 ⟨rfl, b1⟩
  have HB1 := hid' b1
  clear b1 HF
  go_wp2
  clear e1 m1 e2 m2 hmx hmy
  go_loopw [6, 7, 8] (fun t st c wr => ∃ (j : Nat) (v : Int), j ≤ nf + 1 ∧ c = .int .i64 j ∧ t = .string (SV j) ∧ st = .int .i64 v ∧ (j = 0 → v = 1) ∧ (0 < j → v = 1) ∧ wr = w1) (fun _ _ c _ => nf + 1 - (intOf c).toNat)
  case atStart => exact ⟨0, 1, Nat.zero_le _, rfl, by rw [HS0.out], rfl, fun _ => rfl, fun h => by omega, rfl⟩
  case round =>
    obtain ⟨j, v, hj, rfl, rfl, rfl, hv0, hv1, rfl⟩ := hrel
    by_cases hlt : j < nf + 1
    · have hlt' : (j : Int) < (nf : Int) + 1 := by omega
      have HSk := hid' (HSS.out j)
      have hxs : (SV j).size ≤ 2000 := by rw [HSZ.out]; omega
      have HV0 := hid' hv0
      have HV1 := hid' hv1
      generalize SV j = xx at HSk hxs ⊢
      clear hv0 hv1
      go_wp2
      go_roundw
      case rel => exact ⟨j + 1, _, by omega, by go_num, by rw [HSk.out], rfl, fun h => by omega, fun _ => by have := HV0.out; first | rfl | (rcases Nat.eq_zero_or_pos j with h0 | h0; (· exact this h0); exact HV1.out h0), trivial⟩
      case measure => simp [intOf]; omega
    · obtain rfl : j = nf + 1 := by omega
      obtain rfl : v = 1 := hv1 (by omega)
      have hxs : (SV (nf + 1)).size ≤ 2000 := by rw [HSZ.out]; omega
      have hlt' : ¬ ((nf + 1 : Nat) : Int) < (nf : Int) + 1 := by omega
      clear hj hlt HSS HS0 HSZ hv0 hv1
      generalize SV (nf + 1) = xx at HT HTZ hxs ⊢
      go_wp2_with fail
      go_loopw [6, 9] (fun t c wq => c = .int .i64 0 ∧ t = .string (xx ++ (⟨#[121]⟩ : ByteArray)) ∧ wq = wr) (fun _ _ _ => 0)
      case atStart => exact ⟨rfl, rfl, rfl⟩
      case round =>
        obtain ⟨rfl, rfl, rfl⟩ := hrel
        by_cases hd : nf + 1 ≤ 60
        · have hd1 : (nf : Int) + 1 ≤ 60 := by omega
          obtain ⟨l, hl, hgood⟩ := dp_ok HDP.out (by unfold deepD; simp; omega) (by omega)
          rw [← HT.out] at hl
          obtain ⟨g1, g2, g3, g4, g5⟩ := good_parts hgood
          have HX := hid' (parse_any A _ HTZ.out wr (HCX.out.below HB1.out).vars (HCX.out.below HB1.out).ev 1200 _ hl)
          have HL := hid' (And.intro g1 (And.intro g2 (And.intro g3 (And.intro g4 g5))))
          clear hl hgood g1 g2 g3 g4 g5 HDP HT
          go_wp2_with fail
          refine Calls.mono HX.out ?_
          rintro e w4 ⟨b4, B, vl, vs, rfl, hBB, hTr⟩
          obtain ⟨ao, cap, rfl, _, hN⟩ := hTr.nodes
          have HB4 := hid' (Below.thenB HB1.out b4)
          have HVA := hid' (valid_of (HCX.out.below HB4.out) ao cap l.length l rfl hN HL.out.2.2.2.2 HL.out.2.2.2.1 HL.out.2.1 HL.out.2.2.1 none HL.out.1)
          clear b4 hBB hTr hN HX
          go_wp2_with fail
          refine Calls.mono HVA.out ?_
          rintro e w5 ⟨b5, rfl⟩
          have b6 := Below.thenB HB4.out b5
          go_wp2
          go_returns
          exact ⟨rfl, b6⟩
        have hd1 : ¬ (nf : Int) + 1 ≤ 60 := by omega
        have hl := dp_bad HDP.out (by unfold deepD; simp; omega) (by omega)
        rw [← HT.out, show atD 0 = 64 from rfl] at hl
        have HX := hid' (parse_any A _ HTZ.out wr (HCX.out.below HB1.out).vars (HCX.out.below HB1.out).ev 1200 _ hl)
        clear hl HDP HT
        go_wp2_with fail
        refine Calls.mono HX.out ?_
        rintro e w4 ⟨b4, g, rfl, hg, hrow⟩
        have HB4 := hid' (Below.thenB HB1.out b4)
        have HRW := hid' hrow
        clear b4 hg hrow HX
        go_wp2_with fail
        refine Calls.mono (Placed_any 108 64 (by decide) _) ?_
        rintro e w5 ⟨rfl, b5⟩
        have hrow5 := (b5.block g (Array.getElem?_eq_some_iff.1 HRW.out).1).trans HRW.out
        have HB5 := hid' (Below.thenB HB4.out b5)
        have HSM := hid' (limit_same A w5 (HCX.out.below HB5.out).sent g 64 hrow5)
        clear hrow5 b5 HRW HB4
        go_wp2_with fail
        refine Calls.mono HSM.out ?_
        rintro e w6 ⟨rfl, b6⟩
        have b7 := Below.thenB HB5.out b6
        go_wp2
        go_returns
        exact ⟨rfl, b7⟩
end Go.Proofs.YtaafhldcdkbnkaaGreatDoor

namespace Go.Proofs.YtaafhldcdkbnkaaGreatDoor
open Go.RowKit
open Lx Ax Px

set_option maxRecDepth 20000 in
set_option maxHeartbeats 6400000 in
theorem deep1_any (A : Nat → Addr) (x y : Int) (W : World) (h : PCx A W) (nf : Nat) (hnf : nf < 80) (mx my : Int) (hmx : x.tmod 80 = mx) (m1 : -80 < mx ∧ mx < 80) (e1 : (mx + 80).tmod 80 = (nf : Int)) (hmy : y.tmod 4 = my) (m2 : -4 < my ∧ my < 4) (e2 : (my + 4).tmod 4 = 1) : Calls Tryz.prog 6 #[.int .i64 x, .int .i64 y] W fun e w' => e = .returned (.bool true) ∧ Below W.heap.size W w' := by
  have hnot : ∀ (x : Bool) (w : World), (Op.unary .not (.bool x)).run Tryz.prog w = .ok (.bool (!x)) w := fun _ _ => rfl
  have hen := eql_none
  have hfc := fault_code
  have HF := hid' (pfirst_any A W h)
  have HCX := hid' h
  have HDP := hid' (dp_1 (nf + 1) (by omega) (by omega))
  obtain ⟨SV, hSV⟩ : ∃ f : Nat → ByteArray, f = fun j => txt ([120, 32, 61, 32] ++ manyD [110, 111, 116, 32] j) := ⟨_, rfl⟩
  have HS0 : Hid (SV 0 = ⟨#[120, 32, 61, 32]⟩) := hid' (by rw [hSV]; rfl)
  have HSS : Hid (∀ j, SV j ++ ⟨#[110, 111, 116, 32]⟩ = SV (j + 1)) := hid' (fun j => by
    rw [hSV]
    show txt _ ++ txt [110, 111, 116, 32] = txt _
    rw [txt_cat, manyD, List.append_assoc])
  have HSZ : Hid (∀ j, (SV j).size = 4 + 4 * j) := hid' (fun j => by
    rw [hSV]
    show List.length _ = _
    rw [List.length_append, manyD_length]; rfl)
  have HT : Hid ((SV (nf + 1) ++ (⟨#[121]⟩ : ByteArray)).data.toList = textD 1 (nf + 1)) := hid' (by
    rw [hSV]
    show (txt _ ++ txt [121]).data.toList = _
    rw [txt_cat]
    show _ = _ ++ []
    rw [List.append_nil]
    rfl)
  have HTZ : Hid ((SV (nf + 1) ++ (⟨#[121]⟩ : ByteArray)).size ≤ 65536) := hid' (by
    rw [hSV]
    show (txt _ ++ txt [121]).size ≤ _
    rw [txt_cat]
    show List.length _ ≤ _
    rw [List.length_append, List.length_append, manyD_length]
    simp
    omega)
  clear h hSV
  go_enter Tryz.func6, Tryz.ntmps6
  go_wp2_with fail
  refine Calls.mono HF.out ?_
  rintro e w1 ⟨rfl, b1⟩
  have HB1 := hid' b1
  clear b1 HF
  go_wp2
  clear e1 m1 e2 m2 hmx hmy
  go_loopw [6, 7, 8] (fun t st c wr => ∃ (j : Nat) (v : Int), j ≤ nf + 1 ∧ c = .int .i64 j ∧ t = .string (SV j) ∧ st = .int .i64 v ∧ (j = 0 → v = 1) ∧ (0 < j → v = 4) ∧ wr = w1) (fun _ _ c _ => nf + 1 - (intOf c).toNat)
  case atStart => exact ⟨0, 1, Nat.zero_le _, rfl, by rw [HS0.out], rfl, fun _ => rfl, fun h => by omega, rfl⟩
  case round =>
    obtain ⟨j, v, hj, rfl, rfl, rfl, hv0, hv1, rfl⟩ := hrel
    by_cases hlt : j < nf + 1
    · have hlt' : (j : Int) < (nf : Int) + 1 := by omega
      have HSk := hid' (HSS.out j)
      have hxs : (SV j).size ≤ 2000 := by rw [HSZ.out]; omega
      generalize SV j = xx at HSk hxs ⊢
      clear hv0 hv1
      go_wp2
      go_roundw
      case rel => exact ⟨j + 1, _, by omega, by go_num, by rw [HSk.out], rfl, fun h => by omega, fun _ => rfl, trivial⟩
      case measure => simp [intOf]; omega
    · obtain rfl : j = nf + 1 := by omega
      obtain rfl : v = 4 := hv1 (by omega)
      have hxs : (SV (nf + 1)).size ≤ 2000 := by rw [HSZ.out]; omega
      have hlt' : ¬ ((nf + 1 : Nat) : Int) < (nf : Int) + 1 := by omega
      clear hj hlt HSS HS0 HSZ hv0 hv1
      generalize SV (nf + 1) = xx at HT HTZ hxs ⊢
      go_wp2_with fail
      go_loopw [6, 9] (fun t c wq => c = .int .i64 0 ∧ t = .string (xx ++ (⟨#[121]⟩ : ByteArray)) ∧ wq = wr) (fun _ _ _ => 0)
      case atStart => exact ⟨rfl, rfl, rfl⟩
      case round =>
        obtain ⟨rfl, rfl, rfl⟩ := hrel
        by_cases hd : nf + 1 ≤ 60
        · have hd1 : (nf : Int) + 1 ≤ 60 := by omega
          obtain ⟨l, hl, hgood⟩ := dp_ok HDP.out (by unfold deepD; simp; omega) (by omega)
          rw [← HT.out] at hl
          obtain ⟨g1, g2, g3, g4, g5⟩ := good_parts hgood
          have HX := hid' (parse_any A _ HTZ.out wr (HCX.out.below HB1.out).vars (HCX.out.below HB1.out).ev 1200 _ hl)
          have HL := hid' (And.intro g1 (And.intro g2 (And.intro g3 (And.intro g4 g5))))
          clear hl hgood g1 g2 g3 g4 g5 HDP HT
          go_wp2_with fail
          refine Calls.mono HX.out ?_
          rintro e w4 ⟨b4, B, vl, vs, rfl, hBB, hTr⟩
          obtain ⟨ao, cap, rfl, _, hN⟩ := hTr.nodes
          have HB4 := hid' (Below.thenB HB1.out b4)
          have HVA := hid' (valid_of (HCX.out.below HB4.out) ao cap l.length l rfl hN HL.out.2.2.2.2 HL.out.2.2.2.1 HL.out.2.1 HL.out.2.2.1 none HL.out.1)
          clear b4 hBB hTr hN HX
          go_wp2_with fail
          refine Calls.mono HVA.out ?_
          rintro e w5 ⟨b5, rfl⟩
          have b6 := Below.thenB HB4.out b5
          go_wp2
          go_returns
          exact ⟨rfl, b6⟩
        have hd1 : ¬ (nf : Int) + 1 ≤ 60 := by omega
        have hl := dp_bad HDP.out (by unfold deepD; simp; omega) (by omega)
        rw [← HT.out, show atD 1 = 244 from rfl] at hl
        have HX := hid' (parse_any A _ HTZ.out wr (HCX.out.below HB1.out).vars (HCX.out.below HB1.out).ev 1200 _ hl)
        clear hl HDP HT
        go_wp2_with fail
        refine Calls.mono HX.out ?_
        rintro e w4 ⟨b4, g, rfl, hg, hrow⟩
        have HB4 := hid' (Below.thenB HB1.out b4)
        have HRW := hid' hrow
        clear b4 hg hrow HX
        go_wp2_with fail
        refine Calls.mono (Placed_any 108 244 (by decide) _) ?_
        rintro e w5 ⟨rfl, b5⟩
        have hrow5 := (b5.block g (Array.getElem?_eq_some_iff.1 HRW.out).1).trans HRW.out
        have HB5 := hid' (Below.thenB HB4.out b5)
        have HSM := hid' (limit_same A w5 (HCX.out.below HB5.out).sent g 244 hrow5)
        clear hrow5 b5 HRW HB4
        go_wp2_with fail
        refine Calls.mono HSM.out ?_
        rintro e w6 ⟨rfl, b6⟩
        have b7 := Below.thenB HB5.out b6
        go_wp2
        go_returns
        exact ⟨rfl, b7⟩
end Go.Proofs.YtaafhldcdkbnkaaGreatDoor

namespace Go.Proofs.YtaafhldcdkbnkaaGreatDoor
open Go.RowKit
open Lx Ax Px

set_option maxRecDepth 20000 in
set_option maxHeartbeats 6400000 in
theorem deep2_any (A : Nat → Addr) (x y : Int) (W : World) (h : PCx A W) (nf : Nat) (hnf : nf < 80) (mx my : Int) (hmx : x.tmod 80 = mx) (m1 : -80 < mx ∧ mx < 80) (e1 : (mx + 80).tmod 80 = (nf : Int)) (hmy : y.tmod 4 = my) (m2 : -4 < my ∧ my < 4) (e2 : (my + 4).tmod 4 = 2) : Calls Tryz.prog 6 #[.int .i64 x, .int .i64 y] W fun e w' => e = .returned (.bool true) ∧ Below W.heap.size W w' := by
  have hnot : ∀ (x : Bool) (w : World), (Op.unary .not (.bool x)).run Tryz.prog w = .ok (.bool (!x)) w := fun _ _ => rfl
  have hen := eql_none
  have hfc := fault_code
  have HF := hid' (pfirst_any A W h)
  have HCX := hid' h
  have HDP := hid' (dp_2 (nf + 1) (by omega) (by omega))
  obtain ⟨SV, hSV⟩ : ∃ f : Nat → ByteArray, f = fun j => txt ([120, 32, 61, 32] ++ manyD [40, 45] j) := ⟨_, rfl⟩
  have HS0 : Hid (SV 0 = ⟨#[120, 32, 61, 32]⟩) := hid' (by rw [hSV]; rfl)
  have HSS : Hid (∀ j, SV j ++ ⟨#[40, 45]⟩ = SV (j + 1)) := hid' (fun j => by
    rw [hSV]
    show txt _ ++ txt [40, 45] = txt _
    rw [txt_cat, manyD, List.append_assoc])
  have HSZ : Hid (∀ j, (SV j).size = 4 + 2 * j) := hid' (fun j => by
    rw [hSV]
    show List.length _ = _
    rw [List.length_append, manyD_length]; rfl)
  obtain ⟨SP, hSP⟩ : ∃ f : Nat → ByteArray, f = fun j => txt ([120, 32, 61, 32] ++ manyD [40, 45] (nf + 1) ++ [121] ++ manyD [41] j) := ⟨_, rfl⟩
  have HP0 : Hid (SV (nf + 1) ++ (⟨#[121]⟩ : ByteArray) = SP 0) := hid' (by
    rw [hSV, hSP]
    show txt _ ++ txt [121] = txt (_ ++ [])
    rw [txt_cat, List.append_nil])
  have HPS : Hid (∀ j, SP j ++ ⟨#[41]⟩ = SP (j + 1)) := hid' (fun j => by
    rw [hSP]
    show txt _ ++ txt [41] = txt _
    rw [txt_cat, show manyD [41] (j + 1) = manyD [41] j ++ [41] from rfl, List.append_assoc])
  have HPZ : Hid (∀ j, (SP j).size = 4 + 2 * (nf + 1) + 1 + j) := hid' (fun j => by
    rw [hSP]
    show List.length _ = _
    rw [List.length_append, List.length_append, List.length_append, manyD_length, manyD_length]
    simp)
  have HT : Hid ((SP (nf + 1)).data.toList = textD 2 (nf + 1)) := hid' (by
    rw [hSP]
    rfl)
  have HTZ : Hid ((SP (nf + 1)).size ≤ 65536) := hid' (by rw [HPZ.out]; omega)
  clear hSP
  clear h hSV
  go_enter Tryz.func6, Tryz.ntmps6
  go_wp2_with fail
  refine Calls.mono HF.out ?_
  rintro e w1 ⟨rfl, b1⟩
  have HB1 := hid' b1
  clear b1 HF
  go_wp2
  clear e1 m1 e2 m2 hmx hmy
  go_loopw [6, 7, 8] (fun t st c wr => ∃ (j : Nat) (v : Int), j ≤ nf + 1 ∧ c = .int .i64 j ∧ t = .string (SV j) ∧ st = .int .i64 v ∧ (j = 0 → v = 1) ∧ (0 < j → v = 2) ∧ wr = w1) (fun _ _ c _ => nf + 1 - (intOf c).toNat)
  case atStart => exact ⟨0, 1, Nat.zero_le _, rfl, by rw [HS0.out], rfl, fun _ => rfl, fun h => by omega, rfl⟩
  case round =>
    obtain ⟨j, v, hj, rfl, rfl, rfl, hv0, hv1, rfl⟩ := hrel
    by_cases hlt : j < nf + 1
    · have hlt' : (j : Int) < (nf : Int) + 1 := by omega
      have HSk := hid' (HSS.out j)
      have hxs : (SV j).size ≤ 2000 := by rw [HSZ.out]; omega
      generalize SV j = xx at HSk hxs ⊢
      clear hv0 hv1
      go_wp2
      go_roundw
      case rel => exact ⟨j + 1, _, by omega, by go_num, by rw [HSk.out], rfl, fun h => by omega, fun _ => rfl, trivial⟩
      case measure => simp [intOf]; omega
    · obtain rfl : j = nf + 1 := by omega
      obtain rfl : v = 2 := hv1 (by omega)
      have hxs : (SV (nf + 1)).size ≤ 2000 := by rw [HSZ.out]; omega
      have hlt' : ¬ ((nf + 1 : Nat) : Int) < (nf : Int) + 1 := by omega
      clear hj hlt HSS HS0 HSZ hv0 hv1
      have hys : (SV (nf + 1) ++ (⟨#[121]⟩ : ByteArray)).size ≤ 2000 := by rw [HP0.out, HPZ.out]; omega
      go_wp2_with fail
      rw [HP0.out]
      go_loopw [6, 9] (fun t c wq => ∃ j : Nat, j ≤ nf + 1 ∧ c = .int .i64 j ∧ t = .string (SP j) ∧ wq = wr) (fun _ c _ => nf + 1 - (intOf c).toNat)
      case atStart => exact ⟨0, Nat.zero_le _, rfl, rfl, rfl⟩
      case round =>
        obtain ⟨j, hj, rfl, rfl, rfl⟩ := hrel
        by_cases hlt : j < nf + 1
        · have hlt' : (j : Int) < (nf : Int) + 1 := by omega
          have HSk := hid' (HPS.out j)
          have hxs : (SP j).size ≤ 2000 := by rw [HPZ.out]; omega
          generalize SP j = xx at HSk hxs ⊢
          go_wp2
          go_roundw
          case rel => exact ⟨j + 1, by omega, by go_num, by rw [HSk.out], trivial⟩
          case measure => simp [intOf]; omega
        · obtain rfl : j = nf + 1 := by omega
          have hlt' : ¬ ((nf + 1 : Nat) : Int) < (nf : Int) + 1 := by omega
          clear hj hlt HPS HPZ HP0 hxs hys
          generalize SP (nf + 1) = xx at HT HTZ ⊢
          by_cases hd : 60 < nf + 1
          · have hd1 : (60 : Int) < (nf : Int) + 1 := by omega
            obtain ⟨p, hl⟩ := dp_lex HDP.out ⟨rfl, by omega⟩
            rw [← HT.out] at hl
            have HX := hid' (parse_any A _ HTZ.out wr (HCX.out.below HB1.out).vars (HCX.out.below HB1.out).ev 1200 _ hl)
            clear hl HDP HT
            go_wp2_with fail
            refine Calls.mono HX.out ?_
            rintro e w4 ⟨b4, g, rfl, hg, hrow⟩
            have HB4 := hid' (Below.thenB HB1.out b4)
            have HFA := hid' (Fault_at A 0 g p w4 (by omega) (HCX.out.below HB4.out).sent hrow)
            clear b4 hg hrow HX
            rw [show (101 + ((0 : Nat) : Int)) = 101 from rfl] at HFA
            unfold pl at HFA
            go_wp2_with fail
            refine Calls.mono HFA.out ?_
            rintro e w5 ⟨rfl, b5⟩
            have b6 := Below.thenB HB4.out b5
            go_wp2
            go_returns
            exact ⟨rfl, b6⟩
          have hd1 : ¬ (60 : Int) < (nf : Int) + 1 := by omega
          by_cases hd2 : nf + 1 ≤ 30
          · have hd3 : 2 * ((nf : Int) + 1) ≤ 60 := by omega
            obtain ⟨l, hl, hgood⟩ := dp_ok HDP.out (by unfold deepD; simp; omega) (by omega)
            rw [← HT.out] at hl
            obtain ⟨g1, g2, g3, g4, g5⟩ := good_parts hgood
            have HX := hid' (parse_any A _ HTZ.out wr (HCX.out.below HB1.out).vars (HCX.out.below HB1.out).ev 1200 _ hl)
            have HL := hid' (And.intro g1 (And.intro g2 (And.intro g3 (And.intro g4 g5))))
            clear hl hgood g1 g2 g3 g4 g5 HDP HT
            go_wp2_with fail
            refine Calls.mono HX.out ?_
            rintro e w4 ⟨b4, B, vl, vs, rfl, hBB, hTr⟩
            obtain ⟨ao, cap, rfl, _, hN⟩ := hTr.nodes
            have HB4 := hid' (Below.thenB HB1.out b4)
            have HVA := hid' (valid_of (HCX.out.below HB4.out) ao cap l.length l rfl hN HL.out.2.2.2.2 HL.out.2.2.2.1 HL.out.2.1 HL.out.2.2.1 none HL.out.1)
            clear b4 hBB hTr hN HX
            go_wp2_with fail
            refine Calls.mono HVA.out ?_
            rintro e w5 ⟨b5, rfl⟩
            have b6 := Below.thenB HB4.out b5
            go_wp2
            go_returns
            exact ⟨rfl, b6⟩
          have hd3 : ¬ 2 * ((nf : Int) + 1) ≤ 60 := by omega
          have hl := dp_bad HDP.out (by unfold deepD; simp; omega) (by omega)
          rw [← HT.out, show atD 2 = 64 from rfl] at hl
          have HX := hid' (parse_any A _ HTZ.out wr (HCX.out.below HB1.out).vars (HCX.out.below HB1.out).ev 1200 _ hl)
          clear hl HDP HT
          go_wp2_with fail
          refine Calls.mono HX.out ?_
          rintro e w4 ⟨b4, g, rfl, hg, hrow⟩
          have HB4 := hid' (Below.thenB HB1.out b4)
          have HRW := hid' hrow
          clear b4 hg hrow HX
          go_wp2_with fail
          refine Calls.mono (Placed_any 108 64 (by decide) _) ?_
          rintro e w5 ⟨rfl, b5⟩
          have hrow5 := (b5.block g (Array.getElem?_eq_some_iff.1 HRW.out).1).trans HRW.out
          have HB5 := hid' (Below.thenB HB4.out b5)
          have HSM := hid' (limit_same A w5 (HCX.out.below HB5.out).sent g 64 hrow5)
          clear hrow5 b5 HRW HB4
          go_wp2_with fail
          refine Calls.mono HSM.out ?_
          rintro e w6 ⟨rfl, b6⟩
          have b7 := Below.thenB HB5.out b6
          go_wp2
          go_returns
          exact ⟨rfl, b7⟩
end Go.Proofs.YtaafhldcdkbnkaaGreatDoor

namespace Go.Proofs.YtaafhldcdkbnkaaGreatDoor
open Go.RowKit
open Lx Ax Px

set_option maxRecDepth 20000 in
set_option maxHeartbeats 6400000 in
theorem deep3_any (A : Nat → Addr) (x y : Int) (W : World) (h : PCx A W) (nf : Nat) (hnf : nf < 80) (mx my : Int) (hmx : x.tmod 80 = mx) (m1 : -80 < mx ∧ mx < 80) (e1 : (mx + 80).tmod 80 = (nf : Int)) (hmy : y.tmod 4 = my) (m2 : -4 < my ∧ my < 4) (e2 : (my + 4).tmod 4 = 3) : Calls Tryz.prog 6 #[.int .i64 x, .int .i64 y] W fun e w' => e = .returned (.bool true) ∧ Below W.heap.size W w' := by
  have hnot : ∀ (x : Bool) (w : World), (Op.unary .not (.bool x)).run Tryz.prog w = .ok (.bool (!x)) w := fun _ _ => rfl
  have hen := eql_none
  have hfc := fault_code
  have HF := hid' (pfirst_any A W h)
  have HCX := hid' h
  have HDP := hid' (dp_3 (nf + 1) (by omega) (by omega))
  obtain ⟨SV, hSV⟩ : ∃ f : Nat → ByteArray, f = fun j => txt ([120, 32, 61, 32] ++ manyD [49, 32, 105, 102, 32, 50, 32, 101, 108, 115, 101, 32] j) := ⟨_, rfl⟩
  have HS0 : Hid (SV 0 = ⟨#[120, 32, 61, 32]⟩) := hid' (by rw [hSV]; rfl)
  have HSS : Hid (∀ j, SV j ++ ⟨#[49, 32, 105, 102, 32, 50, 32, 101, 108, 115, 101, 32]⟩ = SV (j + 1)) := hid' (fun j => by
    rw [hSV]
    show txt _ ++ txt [49, 32, 105, 102, 32, 50, 32, 101, 108, 115, 101, 32] = txt _
    rw [txt_cat, manyD, List.append_assoc])
  have HSZ : Hid (∀ j, (SV j).size = 4 + 12 * j) := hid' (fun j => by
    rw [hSV]
    show List.length _ = _
    rw [List.length_append, manyD_length]; rfl)
  have HT : Hid ((SV (nf + 1) ++ (⟨#[121]⟩ : ByteArray)).data.toList = textD 3 (nf + 1)) := hid' (by
    rw [hSV]
    show (txt _ ++ txt [121]).data.toList = _
    rw [txt_cat]
    show _ = _ ++ []
    rw [List.append_nil]
    rfl)
  have HTZ : Hid ((SV (nf + 1) ++ (⟨#[121]⟩ : ByteArray)).size ≤ 65536) := hid' (by
    rw [hSV]
    show (txt _ ++ txt [121]).size ≤ _
    rw [txt_cat]
    show List.length _ ≤ _
    rw [List.length_append, List.length_append, manyD_length]
    simp
    omega)
  clear h hSV
  go_enter Tryz.func6, Tryz.ntmps6
  go_wp2_with fail
  refine Calls.mono HF.out ?_
  rintro e w1 ⟨rfl, b1⟩
  have HB1 := hid' b1
  clear b1 HF
  go_wp2
  clear e1 m1 e2 m2 hmx hmy
  go_loopw [6, 7, 8] (fun t st c wr => ∃ (j : Nat) (v : Int), j ≤ nf + 1 ∧ c = .int .i64 j ∧ t = .string (SV j) ∧ st = .int .i64 v ∧ (j = 0 → v = 1) ∧ (0 < j → v = 12) ∧ wr = w1) (fun _ _ c _ => nf + 1 - (intOf c).toNat)
  case atStart => exact ⟨0, 1, Nat.zero_le _, rfl, by rw [HS0.out], rfl, fun _ => rfl, fun h => by omega, rfl⟩
  case round =>
    obtain ⟨j, v, hj, rfl, rfl, rfl, hv0, hv1, rfl⟩ := hrel
    by_cases hlt : j < nf + 1
    · have hlt' : (j : Int) < (nf : Int) + 1 := by omega
      have HSk := hid' (HSS.out j)
      have hxs : (SV j).size ≤ 2000 := by rw [HSZ.out]; omega
      generalize SV j = xx at HSk hxs ⊢
      clear hv0 hv1
      go_wp2
      go_roundw
      case rel => exact ⟨j + 1, _, by omega, by go_num, by rw [HSk.out], rfl, fun h => by omega, fun _ => rfl, trivial⟩
      case measure => simp [intOf]; omega
    · obtain rfl : j = nf + 1 := by omega
      obtain rfl : v = 12 := hv1 (by omega)
      have hxs : (SV (nf + 1)).size ≤ 2000 := by rw [HSZ.out]; omega
      have hlt' : ¬ ((nf + 1 : Nat) : Int) < (nf : Int) + 1 := by omega
      clear hj hlt HSS HS0 HSZ hv0 hv1
      generalize SV (nf + 1) = xx at HT HTZ hxs ⊢
      go_wp2_with fail
      go_loopw [6, 9] (fun t c wq => c = .int .i64 0 ∧ t = .string (xx ++ (⟨#[121]⟩ : ByteArray)) ∧ wq = wr) (fun _ _ _ => 0)
      case atStart => exact ⟨rfl, rfl, rfl⟩
      case round =>
        obtain ⟨rfl, rfl, rfl⟩ := hrel
        by_cases hd : nf + 1 ≤ 60
        · have hd1 : (nf : Int) + 1 ≤ 60 := by omega
          obtain ⟨l, hl, hgood⟩ := dp_ok HDP.out (by unfold deepD; simp; omega) (by omega)
          rw [← HT.out] at hl
          obtain ⟨g1, g2, g3, g4, g5⟩ := good_parts hgood
          have HX := hid' (parse_any A _ HTZ.out wr (HCX.out.below HB1.out).vars (HCX.out.below HB1.out).ev 1200 _ hl)
          have HL := hid' (And.intro g1 (And.intro g2 (And.intro g3 (And.intro g4 g5))))
          clear hl hgood g1 g2 g3 g4 g5 HDP HT
          go_wp2_with fail
          refine Calls.mono HX.out ?_
          rintro e w4 ⟨b4, B, vl, vs, rfl, hBB, hTr⟩
          obtain ⟨ao, cap, rfl, _, hN⟩ := hTr.nodes
          have HB4 := hid' (Below.thenB HB1.out b4)
          have HVA := hid' (valid_of (HCX.out.below HB4.out) ao cap l.length l rfl hN HL.out.2.2.2.2 HL.out.2.2.2.1 HL.out.2.1 HL.out.2.2.1 none HL.out.1)
          clear b4 hBB hTr hN HX
          go_wp2_with fail
          refine Calls.mono HVA.out ?_
          rintro e w5 ⟨b5, rfl⟩
          have b6 := Below.thenB HB4.out b5
          go_wp2
          go_returns
          exact ⟨rfl, b6⟩
        have hd1 : ¬ (nf : Int) + 1 ≤ 60 := by omega
        have hl := dp_bad HDP.out (by unfold deepD; simp; omega) (by omega)
        rw [← HT.out, show atD 3 = 726 from rfl] at hl
        have HX := hid' (parse_any A _ HTZ.out wr (HCX.out.below HB1.out).vars (HCX.out.below HB1.out).ev 1200 _ hl)
        clear hl HDP HT
        go_wp2_with fail
        refine Calls.mono HX.out ?_
        rintro e w4 ⟨b4, g, rfl, hg, hrow⟩
        have HB4 := hid' (Below.thenB HB1.out b4)
        have HRW := hid' hrow
        clear b4 hg hrow HX
        go_wp2_with fail
        refine Calls.mono (Placed_any 108 726 (by decide) _) ?_
        rintro e w5 ⟨rfl, b5⟩
        have hrow5 := (b5.block g (Array.getElem?_eq_some_iff.1 HRW.out).1).trans HRW.out
        have HB5 := hid' (Below.thenB HB4.out b5)
        have HSM := hid' (limit_same A w5 (HCX.out.below HB5.out).sent g 726 hrow5)
        clear hrow5 b5 HRW HB4
        go_wp2_with fail
        refine Calls.mono HSM.out ?_
        rintro e w6 ⟨rfl, b6⟩
        have b7 := Below.thenB HB5.out b6
        go_wp2
        go_returns
        exact ⟨rfl, b7⟩
end Go.Proofs.YtaafhldcdkbnkaaGreatDoor

namespace Go.Proofs.YtaafhldcdkbnkaaGreatDoor
open Go.RowKit
open Lx Ax Px

theorem parseDeep_any (A : Nat → Addr) (x y : Int) (W : World) (h : PCx A W) : Calls Tryz.prog 6 #[.int .i64 x, .int .i64 y] W fun e w' => e = .returned (.bool true) ∧ Below W.heap.size W w' := by
  obtain ⟨n, e1, hn⟩ := foldR_is x 80 (by omega)
  obtain ⟨k, e2, hk⟩ := foldR_is y 4 (by omega)
  have m1 := foldR_le x 80 (by omega)
  have m2 := foldR_le y 4 (by omega)
  rw [show ((80 : Nat) : Int) = 80 from rfl] at e1 m1
  rw [show ((4 : Nat) : Int) = 4 from rfl] at e2 m2
  obtain rfl | rfl | rfl | rfl : k = 0 ∨ k = 1 ∨ k = 2 ∨ k = 3 := by omega
  · exact deep0_any A x y W h n hn _ _ rfl m1 e1 rfl m2 e2
  · exact deep1_any A x y W h n hn _ _ rfl m1 e1 rfl m2 e2
  · exact deep2_any A x y W h n hn _ _ rfl m1 e1 rfl m2 e2
  · exact deep3_any A x y W h n hn _ _ rfl m1 e1 rfl m2 e2
end Go.Proofs.YtaafhldcdkbnkaaGreatDoor
