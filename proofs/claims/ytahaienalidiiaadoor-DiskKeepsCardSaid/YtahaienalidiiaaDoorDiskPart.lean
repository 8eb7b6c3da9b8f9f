/- What part makes of any change. Conditions: short texts. -/
import Derived.Test.YtahaienalidiiaaDoorDiskHist
namespace Go.Proofs.YtahaienalidiiaaDoor
open Go.RowKit Go.Maps

set_option maxHeartbeats 800000 in
theorem part_none (k : Int) (t : ByteArray) (cut : Int) (hk : k ≠ 1) (ht : t.size ≤ 1000000) (w : World) :
    Calls Tryd.prog 40 #[chg k t, .int .i64 cut] w fun e w' => e = .returned (.tuple #[chg 0 ⟨#[]⟩, .bool false]) ∧ Below w.heap.size w w' := by
  unfold chg
  have hk' : (k == 1) = false := by rw [beq_eq_false_iff_ne]; exact hk
  by_cases h : ((t.size : Int) - 1) < cut
  · go_enter Tryd.func40, Tryd.ntmps40
    go_wp2
    go_returns
    refine ⟨rfl, ?_⟩
    go_grown
  · go_enter Tryd.func40, Tryd.ntmps40
    go_wp2
    go_returns
    refine ⟨rfl, ?_⟩
    go_grown
set_option maxHeartbeats 800000 in
theorem part_small (t : ByteArray) (cut : Int) (hm : min cut ((t.size : Int) - 1) < 1) (ht : t.size ≤ 1000000) (hc1 : -9223372036854775808 ≤ cut) (hc2 : cut < 9223372036854775808) (w : World) :
    Calls Tryd.prog 40 #[chg 1 t, .int .i64 cut] w fun e w' => e = .returned (.tuple #[chg 0 ⟨#[]⟩, .bool false]) ∧ Below w.heap.size w w' := by
  unfold chg
  by_cases h : ((t.size : Int) - 1) < cut
  · have h1 : (t.size : Int) - 1 < 1 := by omega
    clear hm
    go_enter Tryd.func40, Tryd.ntmps40
    go_wp2
    go_returns
    refine ⟨rfl, ?_⟩
    go_grown
  · have h1 : cut < 1 := by omega
    clear hm
    go_enter Tryd.func40, Tryd.ntmps40
    go_wp2
    go_returns
    refine ⟨rfl, ?_⟩
    go_grown
set_option maxHeartbeats 800000 in
theorem part_some (t : ByteArray) (cut : Int) (p : Nat) (hp : min cut ((t.size : Int) - 1) = p) (hp1 : 1 ≤ p) (ht : t.size ≤ 1000000) (hc1 : -9223372036854775808 ≤ cut) (hc2 : cut < 9223372036854775808) (w : World) :
    Calls Tryd.prog 40 #[chg 1 t, .int .i64 cut] w fun e w' => e = .returned (.tuple #[chg 1 (t.extract 0 p), .bool true]) ∧ Below w.heap.size w w' := by
  unfold chg
  by_cases h : ((t.size : Int) - 1) < cut
  · obtain ⟨z, hz⟩ : ∃ z, t.size = z + 1 := ⟨t.size - 1, by omega⟩
    obtain rfl : p = z := by omega
    have h1 : ¬ (p : Int) < 1 := by omega
    have h2 : (p : Int) < cut := by omega
    clear hp h
    go_enter Tryd.func40, Tryd.ntmps40
    go_wp2
    go_returns
    refine ⟨rfl, ?_⟩
    go_grown
  · obtain rfl : cut = (p : Int) := by omega
    have h1 : ¬ (p : Int) < 1 := by omega
    have h2 : (p : Int) ≤ (t.size : Int) := by omega
    clear hp
    go_enter Tryd.func40, Tryd.ntmps40
    go_wp2
    go_returns
    refine ⟨rfl, ?_⟩
    go_grown
/-- The part of a change that stands, as a change. -/
def partC (c : Chg) (cut : Int) : Value := if partN c cut = 0 then chg 0 ⟨#[]⟩ else chg 1 (c.2.extract 0 (partN c cut))
theorem part_any (c : Chg) (cut : Int) (ht : c.2.size ≤ 1000000) (hc1 : -9223372036854775808 ≤ cut) (hc2 : cut < 9223372036854775808) (w : World) :
    Calls Tryd.prog 40 #[chg c.1 c.2, .int .i64 cut] w fun e w' => e = .returned (.tuple #[partC c cut, .bool (decide (partN c cut ≠ 0))]) ∧ Below w.heap.size w w' := by
  obtain ⟨k, t⟩ := c
  by_cases hk : k = 1
  · subst hk
    by_cases hm : 1 ≤ min cut ((t.size : Int) - 1)
    · obtain ⟨p, hp⟩ : ∃ p : Nat, min cut ((t.size : Int) - 1) = p := ⟨(min cut ((t.size : Int) - 1)).toNat, by omega⟩
      have hN : partN (1, t) cut = p := by unfold partN; rw [if_pos ⟨rfl, hm⟩]; simp only; omega
      unfold partC
      rw [hN, if_neg (by omega), decide_eq_true (by omega)]
      exact part_some t cut p hp (by omega) ht hc1 hc2 w
    · have hN : partN (1, t) cut = 0 := by unfold partN; rw [if_neg (fun h => hm h.2)]
      unfold partC
      rw [hN, if_pos rfl]
      exact part_small t cut (by omega) ht hc1 hc2 w
  · have hN : partN (k, t) cut = 0 := by unfold partN; rw [if_neg (fun h => hk h.1)]
    unfold partC
    rw [hN, if_pos rfl]
    exact part_none k t cut hk ht w
end Go.Proofs.YtahaienalidiiaaDoor
