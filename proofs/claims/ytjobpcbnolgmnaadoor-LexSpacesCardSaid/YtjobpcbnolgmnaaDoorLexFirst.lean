/- The chapter's example holds. Conditions: the words and the error of api lie in their variables. -/
import Derived.Test.YtjobpcbnolgmnaaDoorLexScan
namespace Go.Proofs.YtjobpcbnolgmnaaDoor
open Go.RowKit
open Lx

def exS : ByteArray := ⟨#[105, 102, 32, 120, 58, 10, 32, 32, 121]⟩
def exToks : List Tok := [⟨4, [105, 102], 0⟩, ⟨1, [120], 3⟩, ⟨4, [58], 4⟩, ⟨5, [], 5⟩, ⟨6, [], 8⟩, ⟨1, [121], 8⟩, ⟨5, [], 9⟩, ⟨7, [], 9⟩, ⟨8, [], 9⟩]
def exK : List Nat := [4, 1, 4, 5, 6, 1, 5, 7, 8]
theorem exK_at (j : Nat) (hj : j < 9) : ∃ k t, exK[j]? = some k ∧ exToks[j]? = some t ∧ t.kind = k := by
  have h' : j = 0 ∨ j = 1 ∨ j = 2 ∨ j = 3 ∨ j = 4 ∨ j = 5 ∨ j = 6 ∨ j = 7 ∨ j = 8 := by omega
  rcases h' with rfl | rfl | rfl | rfl | rfl | rfl | rfl | rfl | rfl <;> exact ⟨_, _, rfl, rfl, rfl⟩
set_option maxRecDepth 10000 in
set_option maxHeartbeats 1600000 in
theorem first_any (A : Nat → Addr) (w : World) (hV : Vars A w) : Calls Tryd.prog 10 #[] w fun e w' => e = .returned (.bool true) ∧ Below w.heap.size w w' := by
  have HS := hid' (scan_any A exS (by decide) w hV)
  rw [show scanF exS.data.toList = .ok exToks from scan_first] at HS
  unfold exS at HS
  clear hV
  go_enter Tryd.func10, Tryd.ntmps10
  go_wp2_with fail
  refine (HS.out).mono ?_
  intro e w1 hpost
  obtain ⟨b1, ao, cap, rfl, hts⟩ := hpost
  rcases hts with h0 | ⟨g, rfl, hg, hx⟩
  · cases h0
  have HB1 := hid' b1
  have HX := hid' hx
  have hb1 := b1.size
  rw [show exToks.length = 9 from rfl]
  clear HS hx b1
  go_wp2
  have hw2 : Below w.heap.size w (w1.alloc (.cells #[.int .i64 4, .int .i64 1, .int .i64 4, .int .i64 5, .int .i64 6, .int .i64 1, .int .i64 5, .int .i64 7, .int .i64 8] 3)) := HB1.out.alloc hb1 _
  have HB2 := hid' hw2
  have hr2 : (w1.alloc (.cells #[.int .i64 4, .int .i64 1, .int .i64 4, .int .i64 5, .int .i64 6, .int .i64 1, .int .i64 5, .int .i64 7, .int .i64 8] 3)).heap[w1.heap.size]? = some (.cells #[.int .i64 4, .int .i64 1, .int .i64 4, .int .i64 5, .int .i64 6, .int .i64 1, .int .i64 5, .int .i64 7, .int .i64 8] 3 (0, 0)) := heap_alloc_new _ _
  have HX2 : Hid (∀ j t, exToks[j]? = some t → (w1.alloc (.cells #[.int .i64 4, .int .i64 1, .int .i64 4, .int .i64 5, .int .i64 6, .int .i64 1, .int .i64 5, .int .i64 7, .int .i64 8] 3)).cell? ⟨g, j * 3, none⟩ = some (.int .i64 (t.kind : Int))) := hid' (fun j t ht => (World.cell?_alloc_lt w1 _ ⟨g, j * 3, none⟩ hg).trans (HX.out j t ht).1)
  obtain ⟨h2, hh2⟩ : ∃ h2, w1.heap.size = h2 := ⟨_, rfl⟩
  have HR2 := hid' hr2
  generalize (w1.alloc (.cells #[.int .i64 4, .int .i64 1, .int .i64 4, .int .i64 5, .int .i64 6, .int .i64 1, .int .i64 5, .int .i64 7, .int .i64 8] 3)) = w2 at HB2 HX2 HR2 ⊢
  rw [hh2] at HR2 ⊢
  clear hw2 hr2 HX HB1 hh2
  go_loopw [4] (fun i wr => ∃ j : Nat, j ≤ 9 ∧ i = .int .i64 j ∧ ∃ n, wr = w2.drewN n) (fun i _ => 9 - (intOf i).toNat)
  case atStart => exact ⟨0, by omega, rfl, 0, rfl⟩
  case round =>
    obtain ⟨j, hj, rfl, n, rfl⟩ := hrel
    by_cases hlt : j < 9
    · obtain ⟨k, t, hk, ht, hkt⟩ := exK_at j hlt
      have q1 := HX2.out j t ht
      have q2 : w2.cell? ⟨h2, j, none⟩ = some (.int .i64 (k : Int)) := by
        rw [cell_of_row w2 h2 j _ _ _ HR2.out]
        have h' : j = 0 ∨ j = 1 ∨ j = 2 ∨ j = 3 ∨ j = 4 ∨ j = 5 ∨ j = 6 ∨ j = 7 ∨ j = 8 := by omega
        rcases h' with rfl | rfl | rfl | rfl | rfl | rfl | rfl | rfl | rfl <;> (cases hk; rfl)
      rw [hkt] at q1
      have hlt' : (j : Int) < 9 := by omega
      have h0 : (0 : Int) ≤ (j : Int) := by omega
      clear hk ht hkt
      go_wp2_with fail
      go_quiet (fail)
      go_wp2
      go_roundw
      case rel => exact ⟨j + 1, by omega, by go_num, _, rfl⟩
      case measure => simp [intOf]; omega
    · obtain rfl : j = 9 := by omega
      have HBN : Hid (Below w.heap.size w (w2.drewN n)) := hid' ⟨HB2.out.os, HB2.out.tape, HB2.out.output, HB2.out.size, HB2.out.block⟩
      go_wp2
      go_ret
      exact ⟨rfl, HBN.out⟩
end Go.Proofs.YtjobpcbnolgmnaaDoor
