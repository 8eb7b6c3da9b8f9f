/- The program's knobs are its own. No conditions. -/
import Derived.Test.YtnjbhcjdlbmmhaaDoorErrSent
import Derived.SliceStrings
import Derived.Carry
namespace Go.Proofs.YtnjbhcjdlbmmhaaDoor
open Go.RowKit
theorem own : ownKnob Tryd.prog.godebug = none := by kernel_rfl
end Go.Proofs.YtnjbhcjdlbmmhaaDoor
