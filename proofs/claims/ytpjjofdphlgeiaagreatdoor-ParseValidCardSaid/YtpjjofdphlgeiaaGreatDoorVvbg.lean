/- Parts of the proof, together. What smithyref.SameInts and SameNode answer of the same numbers, the same node. Conditions: short lists. -/
import Derived.Deep.QuietTactic
import Derived.BigQuiet
import Derived.Test.YtpjjofdphlgeiaaGreatDoorVvay
namespace Go.Proofs.YtpjjofdphlgeiaaGreatDoor
open Go.RowKit
open Lx Ax

set_option maxRecDepth 100000 in
set_option maxHeartbeats 400000 in
theorem sameInts_eq (a1 a2 : Option Addr) (c1 c2 m : Nat) (zs : List Int) (hm : m = zs.length) (w : World) (h1 : KidsAt w.heap.size w (.slice a1 m c1) zs) (h2 : KidsAt w.heap.size w (.slice a2 m c2) zs) :
    Calls Tryz.prog 25 #[.slice a1 m c1, .slice a2 m c2] w fun e w' => e = .returned (.bool true) ∧ Below w.heap.size w w' := by
  subst hm
  obtain ⟨ao1, cap1, e1, ⟨_, hlen⟩, hc1⟩ := h1
  obtain ⟨ao2, cap2, e2, _, hc2⟩ := h2
  simp only [Value.slice.injEq] at e1 e2
  obtain ⟨rfl, _, rfl⟩ := e1
  obtain ⟨rfl, _, rfl⟩ := e2
  have H1 := hid' hc1
  have H2 := hid' hc2
  clear hc1 hc2
  go_enter Tryz.func25, Tryz.ntmps25
  go_wp2
  go_loopw [5] (fun i wr => ∃ k : Nat, k ≤ zs.length ∧ i = .int .i64 k ∧ Hid (Below w.heap.size w wr)) (fun i _ => zs.length - (intOf i).toNat)
  case atStart => exact ⟨0, Nat.zero_le _, rfl, hid' (Below.refl _ _)⟩
  case round =>
    obtain ⟨k, hk, rfl, hb⟩ := hrel
    by_cases hlt : k < zs.length
    · rcases H1.out with h0 | ⟨b1, o1, rfl, g3, g4⟩
      · rw [h0] at hlt; exact absurd hlt (by simp)
      · rcases H2.out with h0 | ⟨b2, o2, rfl, f3, f4⟩
        · rw [h0] at hlt; exact absurd hlt (by simp)
        · have hd1 := (hb.out.cell (p := ⟨b1, o1 + k, none⟩) g3).trans (g4 k _ (List.getElem?_eq_getElem hlt))
          have hd2 := (hb.out.cell (p := ⟨b2, o2 + k, none⟩) f3).trans (f4 k _ (List.getElem?_eq_getElem hlt))
          clear g4 f4
          generalize zs[k] = x at hd1 hd2
          go_wp2_with fail
          go_quiet (fail)
          go_wp2
          go_roundw
          case rel => exact ⟨k + 1, by omega, by go_num, hid' ⟨hb.out.os, hb.out.tape, hb.out.output, hb.out.size, hb.out.block⟩⟩
          case measure => simp [intOf]; omega
    · obtain rfl : k = zs.length := by omega
      go_wp2
      go_ret
      exact ⟨rfl, hb.out⟩
/-- A node as a value. -/
def ndV (x : Nd) (v : Value) : Value := .agg #[.int .i64 x.op, .int .i64 x.n, .int .i64 x.pos, .string x.s, v]
set_option maxRecDepth 100000 in
set_option maxHeartbeats 1600000 in
theorem sameNode_eq (x : Nd) (v1 v2 : Value) (w : World) (h1 : KidsAt w.heap.size w v1 x.kids) (h2 : KidsAt w.heap.size w v2 x.kids) :
    Calls Tryz.prog 13 #[ndV x v1, ndV x v2] w fun e w' => e = .returned (.bool true) ∧ Below w.heap.size w w' := by
  obtain ⟨op, n, pos, s, kids⟩ := x
  have h1' := h1
  have h2' := h2
  obtain ⟨a1, c1, rfl, _, _⟩ := h1'
  obtain ⟨a2, c2, rfl, _, _⟩ := h2'
  dsimp only at h1 h2 ⊢
  unfold ndV
  dsimp only
  have b1 := (Below.refl w.heap.size w).alloc (Nat.le_refl _) (.cells #[.int .i64 op, .int .i64 n, .int .i64 pos, .string s, .slice a1 kids.length c1] 32)
  have b2 := b1.alloc (by simp) (.cells #[.int .i64 op, .int .i64 n, .int .i64 pos, .string s, .slice a2 kids.length c2] 32)
  have HS := hid' (sameInts_eq a1 a2 c1 c2 kids.length kids rfl _ (h1.keep b2 (by simp; omega)) (h2.keep b2 (by simp; omega)))
  have HB := hid' b2
  have r1 := row_new w 32 [.int .i64 op, .int .i64 n, .int .i64 pos, .string s, .slice a1 kids.length c1]
  have r2 := row_new (w.alloc (.cells #[.int .i64 op, .int .i64 n, .int .i64 pos, .string s, .slice a1 kids.length c1] 32)) 32 [.int .i64 op, .int .i64 n, .int .i64 pos, .string s, .slice a2 kids.length c2]
  have hsz : (w.alloc (.cells #[.int .i64 op, .int .i64 n, .int .i64 pos, .string s, .slice a1 kids.length c1] 32)).heap.size = w.heap.size + 1 := by simp
  have R1 := hid' (r1.far (Below.heap_alloc _ (.cells #[.int .i64 op, .int .i64 n, .int .i64 pos, .string s, .slice a2 kids.length c2] 32) _ r1.lt))
  rw [hsz] at r2
  have R2 := hid' r2
  have qi : ∀ i : Int, (i == i) = true := fun i => by simp
  have qs : (s.toList == s.toList) = true := by simp
  clear h1 h2 b1 b2 r1 r2 hsz
  go_enter Tryz.func13, Tryz.ntmps13
  go_wp2_with fail
  refine HS.out.mono ?_
  rintro e w2 ⟨rfl, q2⟩
  have u1 := RowV.far R1.out (q2.block _ R1.out.lt)
  have u2 := RowV.far R2.out (q2.block _ R2.out.lt)
  have d10 := u1.cell (j := 0) rfl
  have d11 := u1.cell (j := 1) rfl
  have d12 := u1.cell (j := 2) rfl
  have d13 := u1.cell (j := 3) rfl
  have d20 := u2.cell (j := 0) rfl
  have d21 := u2.cell (j := 1) rfl
  have d22 := u2.cell (j := 2) rfl
  have d23 := u2.cell (j := 3) rfl
  have l1 := u1.lt
  have l2 := u2.lt
  have HQ := hid' (HB.out.trans (q2.mono (by simp; omega)))
  clear u1 u2 R1 R2 HS HB q2
  go_wp2
  go_returns
  exact ⟨by rfl, HQ.out⟩
end Go.Proofs.YtpjjofdphlgeiaaGreatDoor
