/- The program's knobs are its own. No conditions. -/
import Derived.Test.YteddkcpjnmmohaaDoorErrSent
import Derived.SliceStrings
import Derived.Carry
namespace Go.Proofs.YteddkcpjnmmohaaDoor
open Go.RowKit
theorem own : ownKnob Tryd.prog.godebug = none := by kernel_rfl
end Go.Proofs.YteddkcpjnmmohaaDoor
