/- Parts of the proof, together. A text's tree is told, whatever the text. Conditions: at most 10000 bytes. -/
import Derived.Test.YtpjjofdphlgeiaaGreatDoorVvbe
import Derived.Test.YtpjjofdphlgeiaaGreatDoorVvao
namespace Go.Proofs.YtpjjofdphlgeiaaGreatDoor
namespace Px
open Lx Ax

def fuelT : Nat := 8000000
theorem run_file {ts : List Tok} (T : Tk ts) (n : Nat) (hn : 64 * ts.length + 21 ≤ n) : Ok (Post ts .file ⟨0, [], 0⟩) (runF ts n .file ⟨0, [], 0⟩) :=
  tot_all T n .file ⟨0, [], 0⟩ T.pos (by simp) Back.nil (by simp) trivial (by simp only [Mz, rank]; omega)
theorem mem_sumT {t : Tok} : ∀ {ts : List Tok}, t ∈ ts → t.text.length ≤ sumT ts
  | a :: l, h => by
    rcases List.mem_cons.1 h with rfl | h
    · simp only [sumT]; omega
    · have := mem_sumT h
      simp only [sumT]; omega
theorem tk_guard {ts : List Tok} (T : Tk ts) : (decide (ts.length ≤ 100000) && ts.all fun t => decide (t.text.length ≤ 100000)) = true := by
  rw [Bool.and_eq_true]
  refine ⟨decide_eq_true (by have := T.few; omega), List.all_eq_true.2 fun t ht => decide_eq_true ?_⟩
  have := mem_sumT ht
  have := T.text
  omega
/-- Whatever the text, its tree is told. -/
theorem tree_some (l : List UInt8) (hl : l.length ≤ 10000) (n : Nat) (hn : fuelT ≤ n) : ∃ pr, treeF n .file l = some pr := by
  unfold treeF
  cases hs : scanF l with
  | bad p => exact ⟨_, rfl⟩
  | ok ts =>
    have T := Bh.scan_tk hl hs
    have h2 := T.few
    have h1 := run_file T n (by unfold fuelT at hn; omega)
    dsimp only
    rw [if_pos (tk_guard T)]
    cases hr : runF ts n .file ⟨0, [], 0⟩ with
    | stuck => rw [hr] at h1; exact h1.elim
    | bad a b => exact ⟨_, rfl⟩
    | ok z zs c s => exact ⟨_, rfl⟩
theorem tree_few (l : List UInt8) (hl : l.length ≤ 10000) (n : Nat) (hn : fuelT ≤ n) {l1 : List Nd} (h : treeF n .file l = some (.ok l1)) : l1.length ≤ 300000 := by
  unfold treeF at h
  cases hs : scanF l with
  | bad p => rw [hs] at h; cases h
  | ok ts =>
    have T := Bh.scan_tk hl hs
    have h2 := T.few
    have h1 := run_file T n (by unfold fuelT at hn; omega)
    rw [hs] at h
    dsimp only at h
    rw [if_pos (tk_guard T)] at h
    cases hr : runF ts n .file ⟨0, [], 0⟩ with
    | stuck => rw [hr] at h; cases h
    | bad a b => rw [hr] at h; cases h
    | ok z zs c s =>
      rw [hr] at h h1
      have hs1 : s.nodes = l1 := by simpa using h
      have h3 := h1.len2
      have h4 := h1.at2
      simp only [slack, List.length_nil] at h3
      rw [← hs1]; omega
end Px
end Go.Proofs.YtpjjofdphlgeiaaGreatDoor
