/- Parts of the proof, together. The program's knobs are its own. No conditions. -/
import Derived.SliceStrings
import Derived.Carry
import Derived.Test.YtnfnlcahlgnahaaGreatDoorBaad
namespace Go.Proofs.YtnfnlcahlgnahaaGreatDoor
open Go.RowKit
theorem own : ownKnob Tryz.prog.godebug = none := by kernel_rfl
end Go.Proofs.YtnfnlcahlgnahaaGreatDoor
