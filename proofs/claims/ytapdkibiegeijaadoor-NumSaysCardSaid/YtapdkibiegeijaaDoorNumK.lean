/- What a row's list of variables gives the walks of numbers: the table of internal/strconv. Conditions: the row's list holds it. -/
import Derived.Test.YtapdkibiegeijaaDoorCards
import Derived.Test.YtapdkibiegeijaaDoorTie
import Derived.Test.YtapdkibiegeijaaDoorNumY
import Derived.ProofKit
import Derived.OpenShut
import Derived.Lay
import Derived.Lib.LaidU8
import Derived.Lib.LaidTab
import Derived.Deep.DeepHandedRow
import Derived.SevenTiedAt
import Derived.Stop.LaidErr
import Derived.SliceStrings
import Derived.Carry
namespace Go.Proofs.YtapdkibiegeijaaDoor
open Go.ChangeShapes Go.WideShapes Go.ChangeAt Go.RowKit

theorem own : ownKnob Tryd.prog.godebug = none := by kernel_rfl
theorem tab_of {W : World} {l : List (String × DataW Unit)} (h : laidMet Tryd.prog l W) (hm : ("internal/strconv.uint64pow10", Rows.laid_internal_strconv_uint64pow10) ∈ l) : Nm.Tab W := by
  have r := Lib.laidMet.reads h hm
  rw [show (Rows.laid_internal_strconv_uint64pow10 : DataW Unit) = Lib.tabData .u64 Lib.pow10Tab from by kernel_rfl] at r
  obtain ⟨g', t', cs, fuel, p, h1, h2, h3, h4⟩ := r
  obtain rfl := Option.some.inj ((show Tryd.prog.globalNamed "internal/strconv.uint64pow10" = some 2 from by kernel_rfl).symm.trans h1)
  obtain rfl := Option.some.inj ((show (Tryd.prog.globals[2]?).map (·.type) = some 119 from by kernel_rfl).symm.trans h2)
  unfold Nm.Tab Lib.TabIs
  rw [h3, ← Lib.cells_of_tab Tryd.underlying119 Tryd.underlying74 (by kernel_rfl) (by kernel_rfl) h4]
theorem bounds_i32 {n : Int} (h : (Lit.int .i32 n).wf = true) : -2147483648 ≤ n ∧ n ≤ 2147483647 := by
  simp [Lit.wf, IntKind.min, IntKind.max, IntKind.signed, IntKind.bits] at h
  omega
end Go.Proofs.YtapdkibiegeijaaDoor
