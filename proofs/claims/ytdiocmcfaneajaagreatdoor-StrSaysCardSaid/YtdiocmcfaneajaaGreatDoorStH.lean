/- What smithyref.SameTexts answers of the same texts; the law's first answer. Conditions: the words, and the errors, lie in their variables. -/
import Derived.Test.YtdiocmcfaneajaaGreatDoorStG
import Derived.Deep.QuietTactic
namespace Go.Proofs.YtdiocmcfaneajaaGreatDoor
open Go.RowKit
open Lx
namespace St

set_option maxRecDepth 100000 in
set_option maxHeartbeats 400000 in
theorem same_any (a1 a2 : Option Addr) (c1 c2 n1 n2 : Nat) (xs : List ByteArray) (w : World) (hn1 : xs.length < 2147483648) (e1 : xs.length = n1) (e2 : xs.length = n2) (h1 : Txs w a1 xs) (h2 : Txs w a2 xs) :
    Calls Tryz.prog 9 #[.slice a1 n1 c1, .slice a2 n2 c2] w fun e w' => e = .returned (.bool true) ∧ Below w.heap.size w w' := by
  subst e1 e2
  have H1 := hidden h1
  have H2 := hidden h2
  clear h1 h2
  go_enter Tryz.func9, Tryz.ntmps9
  go_wp2
  go_loopw [5] (fun i wr => ∃ k : Nat, k ≤ xs.length ∧ i = .int .i64 k ∧ Hid (Below w.heap.size w wr)) (fun i _ => xs.length - (intOf i).toNat)
  case atStart => exact ⟨0, Nat.zero_le _, rfl, hidden (Below.refl _ _)⟩
  case round =>
    obtain ⟨k, hk, rfl, hb⟩ := hrel
    by_cases hlt : k < xs.length
    · obtain ⟨b1, o1, rfl, _, hc1⟩ := (H1.out.below hb.out).at k hlt
      obtain ⟨b2, o2, rfl, _, hc2⟩ := (H2.out.below hb.out).at k hlt
      generalize xs[k] = x at hc1 hc2
      go_wp2_with fail
      go_quiet (fail)
      go_wp2
      go_roundw
      case rel => exact ⟨k + 1, by omega, by go_num, hidden ⟨hb.out.os, hb.out.tape, hb.out.output, hb.out.size, hb.out.block⟩⟩
      case measure => simp [intOf]; omega
    · obtain rfl : k = xs.length := by omega
      go_wp2
      go_ret
      exact ⟨rfl, hb.out⟩

theorem rowS_three (w : World) (x y z : ByteArray) : RowS (w.alloc (.cells #[.string x, .string y, .string z] 9)) w.heap.size [x, y, z] := heap_alloc_new _ _
theorem RowS.txs {W : World} {r : Nat} {ts : List ByteArray} (h : RowS W r ts) : Txs W (some ⟨r, 0, none⟩) ts := by
  refine .inr ⟨r, 0, rfl, (Array.getElem?_eq_some_iff.1 h).1, fun j x hx => ?_⟩
  obtain ⟨hj, e⟩ := List.getElem?_eq_some_iff.1 hx
  rw [Nat.zero_add, h.cell j hj, e]
theorem RowS.below {W W' : World} {r : Nat} {ts : List ByteArray} (h : RowS W r ts) (hb : Below W.heap.size W W') : RowS W' r ts := (hb.block r (Array.getElem?_eq_some_iff.1 h).1).trans h
set_option maxRecDepth 100000 in
set_option maxHeartbeats 3200000 in
theorem first_any {D : Value} {tE : TypeId} {pE : Value} {m : Int} {w : World} (hC : Cx D (.iface tE pE) m w) (hW : WordsAt w) :
    Calls Tryz.prog 5 #[] w fun e w' => e = .returned (.bool true) ∧ Below w.heap.size w w' := by
  have HSP := hidden (split_any D (.iface tE pE) m ⟨#[97, 44, 98, 44, 44, 99]⟩ ⟨#[44]⟩ 2 w hC (by decide) (by decide))
  rw [show texts (splitF (⟨#[44]⟩ : ByteArray).data.toList ((⟨#[97, 44, 98, 44, 44, 99]⟩ : ByteArray).size + 1) 2 (⟨#[97, 44, 98, 44, 44, 99]⟩ : ByteArray).data.toList) = [⟨#[97]⟩, ⟨#[98]⟩, ⟨#[44, 99]⟩] by decide +kernel] at HSP
  have HC := hidden hC
  have HW := hidden hW
  have hcu : ∀ W, Calls Tryz.prog 17 #[.int .i64 5, .int .i64 (-2), .int .i64 9, .bool true, .bool true] W fun e w' => e = .returned (.tuple #[.int .i64 3, .int .i64 5]) ∧ w' = W := fun W => by
    have h := cut_any 5 (-2) 9 true true (by decide) (by decide) (by decide) (by decide) (by decide) W
    rw [show fromF 5 (-2) true = 3 by decide, show toF 5 (-2) 9 true true = 5 by decide] at h
    exact h
  have HCU := hidden hcu
  clear hC hW hcu
  go_enter Tryz.func5, Tryz.ntmps5
  go_wp2_with (first | (go_at_call 7; (with_reducible refine HSP.out.mono ?_); rintro e w1 ⟨v, rfl, hO, hb1⟩; obtain ⟨ao, cap, rfl, hX⟩ := hO.txs; have HX := hidden hX; have HB1 := hidden hb1; clear hO hX hb1; have hba1 := (Below.refl w1.heap.size w1).alloc (Nat.le_refl _) (.cells #[.string ⟨#[49]⟩] 9); have hba2 := (Below.refl (w1.alloc (.cells #[.string ⟨#[49]⟩] 9)).heap.size (w1.alloc (.cells #[.string ⟨#[49]⟩] 9))).alloc (Nat.le_refl _) (.cells #[.string ⟨#[120]⟩] 9); have hba3 := (Below.refl ((w1.alloc (.cells #[.string ⟨#[49]⟩] 9)).alloc (.cells #[.string ⟨#[120]⟩] 9)).heap.size ((w1.alloc (.cells #[.string ⟨#[49]⟩] 9)).alloc (.cells #[.string ⟨#[120]⟩] 9))).alloc (Nat.le_refl _) (.cells #[.string ⟨#[50]⟩] 9); have hE := Ex.mk (((HC.out.below HB1.out).below hba1).below hba2 |>.below hba3) (((HW.out.below HB1.out).below hba1).below hba2 |>.below hba3) (((rowS_one w1 ⟨#[49]⟩).below hba2).below hba3) ((rowS_one _ ⟨#[120]⟩).below hba3) (rowS_one _ ⟨#[50]⟩); have hEE := format_one hE; simp only [World.size_alloc] at hEE; have HE := hidden hEE; clear hEE; have HBA := hidden ((hba1.trans (hba2.mono (by simp))).trans (hba3.mono (by simp; omega))); clear hba1 hba2 hba3 hE) | (go_at_call 17; (with_reducible refine (HCU.out _).mono ?_); rintro e w' ⟨rfl, hw⟩; rw [hw]; clear hw) | (go_at_call 33; (with_reducible refine HE.out.mono ?_); rintro e w2 ⟨rfl, hb2⟩; have HB2 := hidden (HB1.out.trans ((HBA.out.trans (hb2.mono (by omega))).mono HB1.out.size)); have hx2 := HX.out.below (HBA.out.trans (hb2.mono (by omega))); have hba := (Below.refl w2.heap.size w2).alloc (Nat.le_refl _) (.cells #[.string ⟨#[97]⟩, .string ⟨#[98]⟩, .string ⟨#[44, 99]⟩] 9); have HS := hidden (same_any ao (some ⟨w2.heap.size, 0, none⟩) cap 3 3 3 [⟨#[97]⟩, ⟨#[98]⟩, ⟨#[44, 99]⟩] (w2.alloc (.cells #[.string ⟨#[97]⟩, .string ⟨#[98]⟩, .string ⟨#[44, 99]⟩] 9)) (by decide) rfl rfl (hx2.below hba) (rowS_three w2 _ _ _).txs); have HBB := hidden (HB2.out.trans (hba.mono HB2.out.size)); clear hb2 hx2 hba) | (go_at_call 9; (with_reducible refine HS.out.mono ?_); rintro e w3 ⟨rfl, hb3⟩))
  go_ret
  exact ⟨rfl, HBB.out.trans (hb3.mono HBB.out.size)⟩
end St
end Go.Proofs.YtdiocmcfaneajaaGreatDoor
