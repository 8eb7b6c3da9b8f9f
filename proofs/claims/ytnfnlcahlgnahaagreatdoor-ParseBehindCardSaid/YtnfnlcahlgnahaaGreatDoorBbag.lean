/- smithylaw6.ParseBehind: a line put behind a file changes nothing in it, and no place. Conditions: the words and the errors of api lie in their variables. -/
import Derived.Test.YtnfnlcahlgnahaaGreatDoorBbaa
import Derived.Test.YtnfnlcahlgnahaaGreatDoorBbab
import Derived.Test.YtnfnlcahlgnahaaGreatDoorBbaf
import Derived.Test.YtnfnlcahlgnahaaGreatDoorBaas
namespace Go.Proofs.YtnfnlcahlgnahaaGreatDoor
open Go.RowKit
open Lx Ax Px

theorem txt_nl (l : List UInt8) : (txt l ++ ⟨#[10]⟩).data.toList = l ++ [10] := by
  rw [ByteArray.data_append, Array.toList_append]; rfl
theorem txt_zz (l : List UInt8) : (txt l ++ ⟨#[10, 10, 122, 122, 32, 61, 32, 49, 10]⟩).data.toList = l ++ [10] ++ Bh.zzL := by
  rw [ByteArray.data_append, Array.toList_append]; simp [Bh.zzL]; rfl
theorem size_cat (a b : ByteArray) : (a ++ b).size = a.size + b.size := by simp
set_option maxRecDepth 20000 in
set_option maxHeartbeats 6400000 in
theorem parseBehind_any (A : Nat → Addr) (l : List UInt8) (W : World) (h : PCy A W) : Calls Tryz.prog 4 #[.string (txt l)] W fun e w' => e = .returned (.bool true) ∧ Below W.heap.size W w' := by
  have hnot : ∀ (x : Bool) (w : World), (Op.unary .not (.bool x)).run Tryz.prog w = .ok (.bool (!x)) w := fun _ _ => rfl
  have hn1 := neq_at
  have hn2 := neq_none
  have hn3 : ∀ w : World, (binOp .eql 25 .nilIface .nilIface).run Tryz.prog w = .ok (.bool true) w := fun _ => by kernel_rfl
  have HF := hid' (pfirstY_any A W h)
  have HCX := hid' h
  clear h
  by_cases hsz : ¬ (txt l).size ≤ 1000
  · have hgt : decide (((txt l).size : Int) > 1000) = true := decide_eq_true (by omega)
    go_enter Tryz.func4, Tryz.ntmps4
    go_wp2_with fail
    refine Calls.mono HF.out ?_
    rintro e w1 ⟨rfl, b1⟩
    go_wp2
    go_returns
    exact ⟨rfl, b1⟩
  rw [Decidable.not_not] at hsz
  have hgt : decide (((txt l).size : Int) > 1000) = false := decide_eq_false (by omega)
  have hll : l.length ≤ 1000 := hsz
  obtain ⟨pr, hpr⟩ := tree_some (l ++ [10]) (by simp; omega) fuelT (Nat.le_refl _)
  have s1 : (txt l ++ (⟨#[10]⟩ : ByteArray)).size ≤ 65536 := by rw [size_cat]; show (txt l).size + 1 ≤ _; omega
  have s2 : (txt l ++ (⟨#[10, 10, 122, 122, 32, 61, 32, 49, 10]⟩ : ByteArray)).size ≤ 65536 := by rw [size_cat]; show (txt l).size + 9 ≤ _; omega
  have HX1 := fun W' (hb : Below W.heap.size W W') => hid' (parse_any A _ s1 W' (HCX.out.below hb).vars (HCX.out.below hb).ev fuelT pr (by rw [txt_nl]; exact hpr))
  go_enter Tryz.func4, Tryz.ntmps4
  go_wp2_with fail
  refine Calls.mono HF.out ?_
  rintro e w1 ⟨rfl, b1⟩
  have HB1 := hid' b1
  clear b1 HF
  go_wp2_with fail
  refine Calls.mono (HX1 _ HB1.out).out ?_
  rintro e w2 ⟨b2, hp⟩
  have HB2 := hid' (Below.thenB HB1.out b2)
  clear HX1 b2
  cases pr with
  | lex pos =>
    obtain ⟨g, rfl, _⟩ := hp
    go_wp2
    go_returns
    exact ⟨rfl, HB2.out⟩
  | bad lim pos =>
    obtain ⟨g, rfl, _⟩ := hp
    go_wp2
    go_returns
    exact ⟨rfl, HB2.out⟩
  | ok l1 =>
    obtain ⟨l2, hpr2, hbh⟩ := tree_behind l (by omega) fuelT (fuelT + 40) (Nat.le_refl _) (Nat.le_refl _) hpr
    have HX2 := fun W' (hb : Below W.heap.size W W') => hid' (parse_any A _ s2 W' (HCX.out.below hb).vars (HCX.out.below hb).ev (fuelT + 40) (.ok l2) (by rw [txt_zz]; exact hpr2))
    obtain ⟨B1, vl1, vs1, rfl, hB1, hT1⟩ := hp
    obtain ⟨ao1, cap1, rfl, _, hN1⟩ := hT1.nodes
    have HT1 := hid' hT1
    have HN1 := hid' hN1
    have f1 := tree_few (l ++ [10]) (by simp; omega) fuelT (Nat.le_refl _) hpr
    clear hT1 hN1 hpr hpr2
    go_wp2_with fail
    refine Calls.mono (HX2 _ HB2.out).out ?_
    rintro e w3 ⟨b3, hp⟩
    have HB3 := hid' (Below.thenB HB2.out b3)
    have HQ3 := hid' b3
    clear HX2 b3
    obtain ⟨B2, vl2, vs2, rfl, hB2, hT2⟩ := hp
    obtain ⟨ao2, cap2, rfl, _, hN2⟩ := hT2.nodes
    have HM2 := hid' hN2
    have HM1 := hid' (HN1.out.keep HQ3.out HQ3.out.size)
    clear hT2 hN2 HN1 HT1
    rcases hbh with ⟨k1, k2⟩ | ⟨k1, k2⟩
    · rw [k1, k2]
      go_wp2
      go_returns
      exact ⟨rfl, HB3.out⟩
    · have q1 : (((l2.length : Nat) : Int) != IntKind.i64.wrap ((l1.length : Int) + 3)) = false := by
        rw [IntWalk.i64_in _ ⟨by omega, by omega⟩]; simp; omega
      have HK2 := hid' k2
      clear k2
      go_wp2
      go_loopw [8] (fun i wr => ∃ k : Nat, k ≤ l1.length ∧ i = .int .i64 k ∧ Hid (Below w3.heap.size w3 wr)) (fun i _ => l1.length - (intOf i).toNat)
      case atStart => exact ⟨0, Nat.zero_le _, rfl, hid' (Below.refl _ _)⟩
      case round =>
        obtain ⟨k, hk, rfl, hb⟩ := hrel
        have hw : IntKind.i64.wrap ((k : Int) + 1) = ((k + 1 : Nat) : Int) := by rw [IntWalk.i64_in _ ⟨by omega, by omega⟩]; omega
        by_cases hlt : k + 1 < l1.length
        · have hlt1 : ((k + 1 : Nat) : Int) < (l1.length : Int) := by omega
          obtain ⟨g1, v1, rfl, hg1, N1⟩ := (HM1.out.keep hb.out hb.out.size).node k (by omega)
          obtain ⟨g2, v2, rfl, hg2, N2⟩ := (HM2.out.keep hb.out hb.out.size).node k (by omega)
          have hx : l2[k] = l1[k] := by
            have := HK2.out k hlt
            rw [List.getElem?_eq_getElem (by omega), List.getElem?_eq_getElem (by omega)] at this
            exact Option.some.inj this
          rw [hx] at N2
          generalize l1[k] = x at N1 N2
          have HSN := fun W' (hb' : Below wr.heap.size wr W') => hid' (sameNode_eq x v1 v2 W' (N1.list.keep hb' hb'.size) (N2.list.keep hb' hb'.size))
          unfold ndV at HSN
          obtain ⟨n10, n11, n12, n13, n14, _⟩ := N1
          obtain ⟨n20, n21, n22, n23, n24, _⟩ := N2
          have i1 : (0 : Int) ≤ (k : Int) ∧ (k : Int) < (l1.length : Int) := by omega
          have i2 : (0 : Int) ≤ (k : Int) ∧ (k : Int) < (l2.length : Int) := by omega
          clear hx
          go_wp2_with fail
          go_region_with (go_at_call 13; refine Calls.mono (HSN _ ?_).out ?_; (· exact (Below.refl _ _).drew); rintro e w4 ⟨rfl, q4⟩; have HQ4 := hid' (hb.out.trans (((Below.refl wr.heap.size wr).drew.trans q4).mono hb.out.size)); clear q4)
          all_goals (
            go_wp2
            go_roundw
            case rel => exact ⟨k + 1, by omega, by go_num, HQ4⟩
            case measure => simp [intOf]; omega)
        · have hlt1 : ¬ ((k + 1 : Nat) : Int) < (l1.length : Int) := by omega
          have HE := hid' (HB3.out.trans (hb.out.mono HB3.out.size))
          go_wp2
          go_returns
          exact ⟨rfl, HE.out⟩
end Go.Proofs.YtnfnlcahlgnahaaGreatDoor
