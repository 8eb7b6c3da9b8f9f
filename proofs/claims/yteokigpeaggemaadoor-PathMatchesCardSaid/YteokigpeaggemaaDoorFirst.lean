/- smithylaw1's helper 'first' (the chapter's examples) answers true. Conditions: internal/bytealg.MaxLen holds some number, smithy/api.ErrPath an error. -/
import Derived.Test.YteokigpeaggemaaDoorClean
namespace Go.Proofs.YteokigpeaggemaaDoor
open Go.RowKit

theorem ex_clean : Cln.clean [97, 47, 47, 98, 47, 46, 46, 47, 99, 47, 46] = some [97, 47, 99] := by decide +kernel
theorem ex_pat : Pth.splitOK Pth.patOK [97, 47, 42, 42, 47, 42, 46, 116, 120, 116] = true := by decide +kernel
theorem ex_one : matchB [97, 47, 42, 42, 47, 42, 46, 116, 120, 116] [97, 47, 120, 47, 121, 47, 122, 46, 116, 120, 116] = true := by decide +kernel
theorem ex_two : matchB [97, 47, 42, 42, 47, 42, 46, 116, 120, 116] [97, 47, 98, 46, 116, 120, 116] = true := by decide +kernel

set_option maxHeartbeats 400000 in
theorem first_any (et : TypeId) (ex : Value) (w : World) (hR : Ready (.iface et ex) w) : Calls Tryd.prog 9 #[] w (saysB w.heap.size w true) := by
  have HC := Lib.hid (Clean_any et ex ⟨#[97, 47, 47, 98, 47, 46, 46, 47, 99, 47, 46]⟩ w (by decide) hR)
  have HM := Lib.hid (fun W (hW : Ready (.iface et ex) W) => Match_any (.iface et ex) ⟨#[97, 47, 42, 42, 47, 42, 46, 116, 120, 116]⟩ ⟨#[97, 47, 120, 47, 121, 47, 122, 46, 116, 120, 116]⟩ W (by decide) (by decide) hW)
  have HN := Lib.hid (fun W (hW : Ready (.iface et ex) W) => Match_any (.iface et ex) ⟨#[97, 47, 42, 42, 47, 42, 46, 116, 120, 116]⟩ ⟨#[97, 47, 98, 46, 116, 120, 116]⟩ W (by decide) (by decide) hW)
  go_enter Tryd.func9, Tryd.ntmps9
  go_wp2_with fail
  refine HC.out.mono ?_
  rintro e w1 ⟨rfl, hb1⟩
  have R1 := hR.below hb1
  rw [show Cln.clean ([97, 47, 47, 98, 47, 46, 46, 47, 99, 47, 46] : List UInt8) = some [97, 47, 99] from ex_clean]
  dsimp only
  go_wp2_with fail
  refine (HM.out w1 R1).mono ?_
  rintro e w2 ⟨rfl, hb2⟩
  have R2 := R1.below hb2
  rw [if_pos ex_pat, show matchB _ _ = true from ex_one]
  go_wp2_with fail
  refine (HN.out w2 R2).mono ?_
  rintro e w3 ⟨rfl, hb3⟩
  rw [if_pos ex_pat, show matchB _ _ = true from ex_two]
  go_wp2
  go_ret
  exact ⟨rfl, (hb1.trans (hb2.mono hb1.size)).trans (hb3.mono (Nat.le_trans hb1.size hb2.size))⟩

end Go.Proofs.YteokigpeaggemaaDoor
