/- Parts of the proof, together. What tree's deferred closure does. No conditions. -/
import Derived.Defers
import Derived.Recover
import Derived.WalkSmall
import Derived.Test.YtpjjofdphlgeiaaGreatDoorVvaa
import Derived.Test.YtpjjofdphlgeiaaGreatDoorVvab
namespace Go.Proofs.YtpjjofdphlgeiaaGreatDoor
open Go.RowKit

theorem nil_nil (w : World) : (binOp .eql 20 .nilIface .nilIface).run Tryz.prog w = .ok (.bool true) w := by kernel_rfl
theorem at_nil (a : Addr) (w : World) : (binOp .eql 20 (.iface 67 (.pointer (some a))) .nilIface).run Tryz.prog w = .ok (.bool false) w := by kernel_rfl
theorem is_at (a : Addr) (w : World) : (Instr.typeAssert (.iface 67 (.pointer (some a))) 20 67 true).run Tryz.prog w = .ok (.tuple #[.pointer (some a), .bool true]) w := by kernel_rfl
theorem catch_idle (p q : Addr) (w : World) :
    CallsD Tryz.prog 32 #[.pointer (some p), .pointer (some q)] .returning w fun e u' w' => e = .returned (.tuple #[]) ∧ u' = .returning ∧ w' = w := by
  refine callsD_of_wpS Tryz.func32 rfl fun c₀ cs hu => ?_
  have hnn := nil_nil
  apply wpS_seq
  apply wpS_region
  simp [wpOpsS, go_sem, recoverD, hu, Tryz.ntmps32, Exit.thenS]
  refine wpS_of_wp ?_
  go_wp2
  cases c₀
  simp_all [bodyPostS, results, Tryz.results32]
set_option maxRecDepth 10000 in
set_option maxHeartbeats 1600000 in
theorem catch_fault (b c : Nat) (a : Addr) (x y : Value) (w : World) (cp : w.cell? ⟨b, 0, none⟩ = some y) (cq : w.cell? ⟨c, 0, none⟩ = some x) (op : w.frozen? ⟨b, 0, none⟩ = false) (oq : w.frozen? ⟨c, 0, none⟩ = false) (hcb : ¬ c = b) :
    CallsD Tryz.prog 32 #[.pointer (some ⟨b, 0, none⟩), .pointer (some ⟨c, 0, none⟩)] (.panicking [{ v := .iface 67 (.pointer (some a)), recovered := false }]) w fun e u' w' =>
      e = .returned (.tuple #[]) ∧ u' = .panicking [{ v := .iface 67 (.pointer (some a)), recovered := true }] ∧ w' = (w.setCell ⟨b, 0, none⟩ (.slice none 0 0)).setCell ⟨c, 0, none⟩ (.iface 67 (.pointer (some a))) := by
  refine callsD_of_wpS Tryz.func32 rfl fun c₀ cs hu => ?_
  have hnn := at_nil
  have hia := is_at
  apply wpS_seq
  apply wpS_region
  simp [wpOpsS, go_sem, recoverD, hu, Tryz.ntmps32, Exit.thenS]
  refine wpS_of_wp ?_
  go_wp2
  simp_all [bodyPostS, results, Tryz.results32]
end Go.Proofs.YtpjjofdphlgeiaaGreatDoor
