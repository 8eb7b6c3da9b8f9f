/- Parts of the proof, together. The program's knobs are its own. No conditions. -/
import Derived.SliceStrings
import Derived.Carry
import Derived.Test.YtaafhldcdkbnkaaGreatDoorQdad
namespace Go.Proofs.YtaafhldcdkbnkaaGreatDoor
open Go.RowKit
theorem own : ownKnob Tryz.prog.godebug = none := by kernel_rfl
end Go.Proofs.YtaafhldcdkbnkaaGreatDoor
