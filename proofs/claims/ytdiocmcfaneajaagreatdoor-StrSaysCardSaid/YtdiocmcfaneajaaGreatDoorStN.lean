/- What newFields answers of one name and one value. Conditions: they lie in rows of their own. -/
import Derived.Test.YtdiocmcfaneajaaGreatDoorStB
namespace Go.Proofs.YtdiocmcfaneajaaGreatDoor
open Go.RowKit
namespace St

def oneF (k : Nat) : ByteArray → Option Value := if k = 0 then fun _ => none else putF (fun _ => none) ⟨#[120]⟩ (.int .i64 0)
theorem rd_zero : rdS (.int .i64 0) = some (.lit (.int .i64 0), []) := rfl
set_option maxRecDepth 100000 in
set_option maxHeartbeats 1600000 in
theorem newFields_one (la lc na nc va vc : Nat) (w : World) (hc : 1 ≤ nc) (hR : RowS w na [⟨#[120]⟩]) :
    Calls Tryz.prog 50 #[.slice (some ⟨la, 0, none⟩) 1 lc, .slice (some ⟨na, 0, none⟩) 1 nc, .slice (some ⟨va, 0, none⟩) 1 vc] w fun e w' => ∃ f mb, e = .returned (.pointer (some ⟨f, 0, none⟩)) ∧ FieldsAt w' f (.slice (some ⟨la, 0, none⟩) 1 lc) (.slice (some ⟨va, 0, none⟩) 1 vc) mb 0 ∧ MapAt w' mb 1 (.int .i64 0) (putF (fun _ => none) ⟨#[120]⟩ (.int .i64 0)) ∧ w.heap.size ≤ mb ∧ mb < f ∧ Below w.heap.size w w' := by
  have HR := hidden hR
  have HM0 := hidden (MapAt.made w (.int .i64 0) rd_zero)
  have HB0 := hidden ((Below.refl w.heap.size w).alloc (Nat.le_refl _) (.map #[] 0))
  have hsl : ∀ W, (Instr.sliceAt 22 (.slice (some ⟨na, 0, none⟩) 1 nc) none (some (.int .i64 1)) none).run Tryz.prog W = .ok (.slice (some ⟨na, 0, none⟩) 1 nc) W := fun W => by
    have h1 : (1 : Int) ≤ (nc : Int) := by omega
    go_simp
  have hmm : ∀ W : World, (Instr.makeMap 97 (some (.int .i64 1))).run Tryz.prog W = .ok (.map (some W.heap.size)) (W.alloc (.map #[] 0)) := fun _ => rfl
  clear hR
  go_enter Tryz.func50, Tryz.ntmps50
  go_wp2
  go_loopw [24] (fun i wr => ∃ k : Nat, k ≤ 1 ∧ i = .int .i64 k ∧ Hid (MapAt wr w.heap.size k (.int .i64 0) (oneF k)) ∧ Hid (Below w.heap.size w wr)) (fun i _ => 1 - (intOf i).toNat)
  case atStart => exact ⟨0, by omega, rfl, HM0, HB0⟩
  case round =>
    obtain ⟨k, hk, rfl, hM, hb⟩ := hrel
    clear HM0 HB0
    by_cases hlt : k < 1
    · obtain rfl : k = 0 := by omega
      have hcr : wr.cell? ⟨na, 0, none⟩ = some (.string ⟨#[120]⟩) := (hb.out.cell (p := ⟨na, 0, none⟩) (Array.getElem?_eq_some_iff.1 HR.out).1).trans (HR.out.cell 0 (by decide))
      have hlk := hM.out.look_ok (t := 97) Tryz.underlying97 zero_int ⟨#[120]⟩ (by decide)
      rw [show oneF 0 ⟨#[120]⟩ = none from rfl] at hlk
      obtain ⟨w', hr, hm', ht⟩ := hM.out.store (t := 97) Tryz.underlying97 (by decide) ⟨#[120]⟩ (by decide) (.int .i64 0) rd_zero
      have R1 : Hid (MapAt w' w.heap.size 1 (.int .i64 0) (oneF 1)) := hidden hm'
      have R2 := hidden (turned_below ht hb.out (Nat.le_refl _))
      clear hm' ht
      go_wp2
      go_roundw
      case rel => exact ⟨1, by omega, by go_num, R1, R2⟩
      case measure => simp [intOf]
    · obtain rfl : k = 1 := by omega
      have hml := hM.out.lt
      have hM2 := hidden (MapAt.of_eq (W' := wr.alloc (.cells #[.slice (some ⟨la, 0, none⟩) 1 lc, .slice (some ⟨va, 0, none⟩) 1 vc, .map (some w.heap.size), .int .i64 0, .bool false] 100)) hM.out (Below.heap_alloc wr _ _ hml))
      have hbs := hb.out.size
      go_wp2
      go_ret
      exact ⟨wr.heap.size, w.heap.size, rfl, heap_alloc_new _ _, hM2.out, Nat.le_refl _, hml, hb.out.alloc hbs _⟩
end St
end Go.Proofs.YtdiocmcfaneajaaGreatDoor
