/- Parts of the proof, together. What is parsed of a text of at most 2000 bytes. No conditions. -/
import Derived.Test.YtpjjofdphlgeiaaGreatDoorVvbd
import Derived.Test.YtpjjofdphlgeiaaGreatDoorVvbf
import Derived.Test.YtpjjofdphlgeiaaGreatDoorVvbx
namespace Go.Proofs.YtpjjofdphlgeiaaGreatDoor
namespace Vd
open Lx Ax Ay Px

theorem parsed_any (l : List UInt8) (hl : l.length ≤ 2000) (l1 : List Nd) (h : Px.treeF fuelT .file l = some (.ok l1)) : Parsed l1 := by
  unfold Px.treeF at h
  cases hs : scanF l with
  | bad p => rw [hs] at h; cases h
  | ok ts =>
    have T := Bh.scan_tk (by omega) hs
    have h1 := run_file T fuelT (by have := T.few; unfold fuelT; omega)
    obtain ⟨T0, p0, e1, _, e3, _⟩ := Bh.scan_ends hs
    have hlen : ts.length ≤ 8006 := by rw [e1, List.length_append, List.length_singleton]; omega
    rw [hs] at h
    dsimp only at h
    split at h
    · rename_i hg
      rw [Bool.and_eq_true, List.all_eq_true] at hg
      have T2 : TkS ts := fun j t ht => by
        have := hg.2 t (List.mem_of_getElem? ht)
        simpa using this
      cases hr : runF ts fuelT .file ⟨0, [], 0⟩ with
      | stuck => rw [hr] at h; cases h
      | bad a b => rw [hr] at h; cases h
      | ok z zs c s =>
        rw [hr] at h h1
        have hs1 : s.nodes = l1 := by simpa using h
        have h3 := h1.len2
        have h4 := h1.at2
        simp only [slack, List.length_nil] at h3
        obtain ⟨v1, v2, v3⟩ := file_valid (scan_good hs) T2 fuelT hr
        rw [hs1] at v1 v2 v3 h3
        exact ⟨v1, v3, by omega, fun x hx => (v2 x hx).1, fun x hx => (v2 x hx).2.1, fun x hx => (v2 x hx).2.2⟩
    · cases h
end Vd
end Go.Proofs.YtpjjofdphlgeiaaGreatDoor
