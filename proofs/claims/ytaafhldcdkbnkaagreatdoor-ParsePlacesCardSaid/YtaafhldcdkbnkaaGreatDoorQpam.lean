/- Parts of the proof, together. What block, lineEnds, fault, gap, dedent and indent make of a scanner. Conditions: its blocks lie from block B on; short texts. -/
import Derived.StillTailTactics
import Derived.Test.YtaafhldcdkbnkaaGreatDoorQpal
namespace Go.Proofs.YtaafhldcdkbnkaaGreatDoor
open Go.RowKit
open Lx

section
variable {W : World} {B sb : Nat} {T : ByteArray} {p : Nat} {st : St}
set_option maxHeartbeats 800000 in
theorem block_any (h : ScanAt W B sb T p st) (b0 : Nat) (bs : List Nat) (hb : st.blocks = b0 :: bs) (hl : bs.length ≤ 1000) :
    Calls Tryz.prog 117 #[.pointer (some ⟨sb, 0, none⟩)] W fun e w' => e = .returned (.int .i64 (b0 : Int)) ∧ ∃ n, w' = W.drewN n := by
  obtain ⟨vt, vb, vo, h⟩ := h
  have hbl := h.blks
  rw [hb] at hbl
  obtain ⟨g, cap, rfl, _, _, _, hx⟩ := own_some hbl (by simp)
  have hlast := hx bs.length (iv b0) (by simp)
  rw [List.length_cons] at h
  obtain ⟨c0, c1, c2, c3, c4⟩ := h.cells
  clear h hbl hx hb c0 c1 c2 c4
  unfold iv at hlast
  have h0 : (0 : Int) ≤ (bs.length : Int) := by omega
  go_enter Tryz.func117, Tryz.ntmps117
  go_wp2
  go_quiet (fail)
  go_wp2
  go_ret
  exact ⟨rfl, nq, rfl⟩
theorem ends_end (T : ByteArray) : ends (T.data.toList.drop T.size) = true := by rw [List.drop_eq_nil_of_le (by simp)]; rfl
theorem ends_at (T : ByteArray) (p : Nat) (h : p < T.size) : ends (T.data.toList.drop p) = (T[p] == 10) := by rw [drop_at T p h]; rfl
theorem byte_eq (b c : UInt8) : (b == c) = ((b.toNat : Int) == (c.toNat : Int)) := by
  rw [Bool.eq_iff_iff]
  simp only [beq_iff_eq, ← UInt8.toNat_inj]
  omega
set_option maxRecDepth 10000 in
set_option maxHeartbeats 1600000 in
theorem lineEnds_any (h : ScanAt W B sb T p st) (hp : p ≤ T.size) :
    Calls Tryz.prog 94 #[.pointer (some ⟨sb, 0, none⟩)] W fun e w' => e = .returned (.bool (ends (T.data.toList.drop p))) ∧ ∃ n, w' = W.drewN n := by
  obtain ⟨vt, vb, vo, h⟩ := h
  obtain ⟨c0, c1, c2, c3, c4⟩ := h.cells
  clear h c2 c3 c4
  by_cases e : p = T.size
  · subst e
    rw [ends_end]
    go_enter Tryz.func94, Tryz.ntmps94
    go_wp2
    go_quiet (fail)
    go_wp2
    go_ret
    exact ⟨rfl, nq, rfl⟩
  · have hlt : p < T.size := by omega
    have he := ends_at T p hlt
    have hb := byte_eq T[p] 10
    have hne : ((p : Int) == (T.size : Int)) = false := by rw [beq_eq_false_iff_ne]; omega
    have hne2 : (p == T.size) = false := by rw [beq_eq_false_iff_ne]; omega
    have hlt' : (p : Int) < (T.size : Int) := by omega
    rw [he, hb, show (((10 : UInt8).toNat : Nat) : Int) = 10 from rfl]
    clear he hb hp e
    go_enter Tryz.func94, Tryz.ntmps94
    go_wp2
    go_quiet (fail)
    go_wp2
    go_ret
    exact ⟨rfl, nq, rfl⟩
/-- An error with a place. -/
def FaultV (A : Nat → Addr) (W : World) (B : Nat) (v : Value) (pos : Nat) : Prop := ∃ g, v = .iface 67 (.pointer (some ⟨g, 0, none⟩)) ∧ B ≤ g ∧ W.heap[g]? = some (.cells #[.int .i64 (pos : Int), E A 0] 84 (0, 0))
theorem FaultV.below {A : Nat → Addr} {W W' : World} {v : Value} {pos : Nat} (h : FaultV A W B v pos) (hb : Below W.heap.size W W') : FaultV A W' B v pos := let ⟨g, h1, h2, h3⟩ := h; ⟨g, h1, h2, (hb.block g (Array.getElem?_eq_some_iff.1 h3).1).trans h3⟩
theorem fault_any (A : Nat → Addr) (pos : Nat) (W : World) (hS : W.cell? ⟨4, 0, none⟩ = some (E A 0)) (hB : B ≤ W.heap.size) :
    Calls Tryz.prog 98 #[.int .i64 (pos : Int)] W fun e w' => ∃ v, e = .returned v ∧ FaultV A w' B v pos ∧ Below W.heap.size W w' := by
  unfold E at hS
  go_enter Tryz.func98, Tryz.ntmps98
  go_wp2
  go_ret
  exact ⟨_, rfl, ⟨W.heap.size, rfl, hB, heap_alloc_new _ _⟩, (Below.refl _ _).alloc (Nat.le_refl _) _⟩
end
end Go.Proofs.YtaafhldcdkbnkaaGreatDoor
