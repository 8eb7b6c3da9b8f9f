/- Parts of the proof, together. What smithysee.placed, Fault, Same and Is say of api's errors and of none. Conditions: the errors of api lie in their variables, each a pointer of its own. What a row's list of variables gives the walks: api's errors lie in their variables, each a pointer of its own. Conditions: the row's list holds them, read through. The program's knobs are its own. No conditions. What smithysee.Same says of api's errors, bare and with a place around, and of none (no Is). Conditions: the errors of api lie in their variables, each a pointer of its own; the place lies in a block of its own. -/
import Derived.Laws.Tables
import Derived.Laws.CopyOwn
import Derived.ProofKit
import Derived.OpenShut
import Derived.Lay
import Derived.Lib.LaidU8
import Derived.Deep.DeepHandedRow
import Derived.SevenTiedAt
import Derived.Stop.LaidErr
import Derived.SliceStrings
import Derived.Carry
import Derived.Test.YtpjjofdphlgeiaaGreatDoorVvaa
import Derived.Test.YtpjjofdphlgeiaaGreatDoorCards
import Derived.Test.YtpjjofdphlgeiaaGreatDoorTie
namespace Go.Proofs.YtpjjofdphlgeiaaGreatDoor
open Go.RowKit

theorem no_at (a : Addr) (w : World) : (Instr.typeAssert (.iface 181 (.pointer (some a))) 25 67 true).run Tryz.prog w = .ok (.tuple #[.pointer none, .bool false]) w := by kernel_rfl
theorem no_in (a : Addr) (w : World) : (Instr.typeAssert (.iface 181 (.pointer (some a))) 25 59 true).run Tryz.prog w = .ok (.tuple #[.pointer none, .bool false]) w := by kernel_rfl

/-- The cells of a fault with nothing around it. -/
def bareRow (c : Int) : Array Value := #[.int .i64 c, .bool false, .int .i64 0, .bool false, .string ⟨#[]⟩]
theorem bare_one (c : Int) : (bareRow c).all (·.oneCell') = true := by simp [bareRow, Value.oneCell']
theorem fault_size : (Tryz.prog.info? 39).map (·.size) = some 5 := by kernel_rfl
/-- The result's own row, behind callees that keep it. -/
theorem row_kept {w w' : World} {c : Int} (hb : Below (w.heap.size + 1) (w.alloc (.cells (bareRow c) 39)) w') : w'.heap[w.heap.size]? = some (.cells (bareRow c) 39 (0, 0)) :=
  (hb.block _ (by omega)).trans (alloc_new' w _)

theorem end_fault {fn : Func} {p : Tmp} (hres : fn.results = #[.cell p 39]) {a : Act} {w w2 : World} {old : Array Value} {c : Int} (hp : a.tmps.getD p undef = .pointer (some ⟨w.heap.size, 0, none⟩)) (hd : a.defers = [])
    (hrow : w2.heap[w.heap.size]? = some (.cells old 39 (0, 0))) (hb : Below w.heap.size w w2) : bodyPost Tryz.prog fn (tells (bare c) w) Exit.ret a (w2.setRow w.heap.size (bareRow c)) :=
  bodyPost_ret (results_cell_row hres a.tmps _ w.heap.size 39 (bareRow c) (0, 0) _ hp (setRow_heap w2 w.heap.size old (bareRow c) 39 (0, 0) hrow) Tryz.underlying39 rfl fault_size) hd ⟨rfl, below_setRow hb (Nat.le_refl _) _⟩

set_option maxRecDepth 100000 in
set_option maxHeartbeats 400000 in
theorem placed_is (A : Nat → Addr) (m : Nat) (w : World) (hm : m < 17) (h : Sent A w) :
    Calls Tryz.prog 29 #[E A m] w (tells (bare (101 + (m : Int))) w) := by
  have HS := hid' (fun W (hW : Sent A W) => sentinel_is A m W hm hW)
  have H := hid' h
  clear h
  have hx := no_at (A m)
  unfold E at HS ⊢
  go_enter Tryz.func29, Tryz.ntmps29
  go_wp2_with fail
  have hb0 : Below w.heap.size w (w.alloc (.cells (bareRow 0) 39)) := (Below.refl _ _).alloc (Nat.le_refl _) _
  refine (HS.out _ (H.out.below hb0)).mono ?_
  rintro e w1 ⟨rfl, hb1⟩
  go_wp2_with fail
  refine (Bare_any _ _).mono ?_
  rintro e w2 ⟨rfl, hb2⟩
  have hb12 : Below (w.heap.size + 1) (w.alloc (.cells (bareRow 0) 39)) w2 := by
    have hz : w.heap.size + 1 ≤ w1.heap.size := by have := hb1.size; simpa using this
    exact (hb1.mono (by simp)).trans (hb2.mono hz)
  have Hrow := hid' (row_kept hb12)
  have HB : Hid (Below w.heap.size w w2) := hid' (hb0.trans (hb12.mono (by omega)))
  clear hb0 hb1 hb2 hb12
  unfold bare
  go_wp2_with ((with_reducible refine at_list ?_); refine wpList_store_row rfl 39 (.tmp 2) (.tmp 14) rfl w.heap.size (bareRow (101 + (m : Int))) rfl rfl 39 (bareRow 0) Hrow.out fault_size rfl (bare_one _) ?_)
  exact end_fault Tryz.results29 rfl rfl Hrow.out HB.out

set_option maxRecDepth 100000 in
set_option maxHeartbeats 400000 in
theorem Fault_is (A : Nat → Addr) (m : Nat) (w : World) (hm : m < 17) (h : Sent A w) :
    Calls Tryz.prog 17 #[E A m] w (tells (bare (101 + (m : Int))) w) := by
  have HS := hid' (fun W (hW : Sent A W) => placed_is A m W hm hW)
  have H := hid' h
  clear h
  have hx := no_in (A m)
  unfold E at HS ⊢
  go_enter Tryz.func17, Tryz.ntmps17
  go_wp2_with fail
  have hb0 : Below w.heap.size w (w.alloc (.cells (bareRow 0) 39)) := (Below.refl _ _).alloc (Nat.le_refl _) _
  refine (HS.out _ (H.out.below hb0)).mono ?_
  rintro e w2 ⟨rfl, hb2⟩
  have hb12 : Below (w.heap.size + 1) (w.alloc (.cells (bareRow 0) 39)) w2 := hb2.mono (by simp)
  have Hrow := hid' (row_kept hb12)
  have HB : Hid (Below w.heap.size w w2) := hid' (hb0.trans (hb12.mono (by omega)))
  clear hb0 hb2 hb12
  unfold bare
  go_wp2_with ((with_reducible refine at_list ?_); refine wpList_store_row rfl 39 (.tmp 2) (.tmp 17) rfl w.heap.size (bareRow (101 + (m : Int))) rfl rfl 39 (bareRow 0) Hrow.out fault_size rfl (bare_one _) ?_)
  exact end_fault Tryz.results17 rfl rfl Hrow.out HB.out
set_option maxRecDepth 100000 in
set_option maxHeartbeats 400000 in
theorem Fault_nil (w : World) : Calls Tryz.prog 17 #[.nilIface] w (tells (bare 0) w) := by
  go_enter Tryz.func17, Tryz.ntmps17
  go_wp2_with fail
  have hb0 : Below w.heap.size w (w.alloc (.cells (bareRow 0) 39)) := (Below.refl _ _).alloc (Nat.le_refl _) _
  refine (None_any _).mono ?_
  rintro e w2 ⟨rfl, hb2⟩
  have hb12 : Below (w.heap.size + 1) (w.alloc (.cells (bareRow 0) 39)) w2 := hb2.mono (by simp)
  have Hrow := hid' (row_kept hb12)
  have HB : Hid (Below w.heap.size w w2) := hid' (hb0.trans (hb12.mono (by omega)))
  clear hb0 hb2 hb12
  unfold bare
  go_wp2_with ((with_reducible refine at_list ?_); refine wpList_store_row rfl 39 (.tmp 2) (.tmp 8) rfl w.heap.size (bareRow 0) rfl rfl 39 (bareRow 0) Hrow.out fault_size rfl (bare_one _) ?_)
  exact end_fault Tryz.results17 rfl rfl Hrow.out HB.out

set_option maxRecDepth 100000 in
set_option maxHeartbeats 400000 in
theorem SameFault_bare (c d : Int) (w : World) : Calls Tryz.prog 27 #[bare c, bare d] w (tells (.bool (c == d)) w) := by
  unfold bare
  by_cases h : c = d
  · subst h
    go_enter Tryz.func27, Tryz.ntmps27
    go_wp2
    go_ret
    refine ⟨ret_bool' (by simp), ?_⟩
    go_grown
  · have hb : (c == d) = false := by rw [beq_eq_false_iff_ne]; exact h
    go_enter Tryz.func27, Tryz.ntmps27
    go_wp2
    go_ret
    refine ⟨ret_bool' (by simp [hb]), ?_⟩
    go_grown

end Go.Proofs.YtpjjofdphlgeiaaGreatDoor

namespace Go.Proofs.YtpjjofdphlgeiaaGreatDoor
open Go.ChangeShapes Go.WideShapes Go.ChangeAt Go.RowKit

theorem star_name : "*" ++ "errors.errorString" = "*errors.errorString" := by decide
theorem err_type (u : TypeId) (h : Tryz.prog.typeName? 3 u = some "*errors.errorString") : u = 181 :=
  typeName_ptr_named (nm := "errors.errorString") (by rw [star_name]; kernel_rfl) (by kernel_rfl) (by decide) u (by rw [star_name]; exact h)
theorem cells_err : Tryz.prog.cellsOf 195 = 1 := by kernel_rfl
theorem cells_str' : Tryz.prog.cellsOf 9 = 1 := by kernel_rfl
/-- One error lies where g says: a pointer to its text. -/
def ErrAt (W : World) (g : Nat) (text : List UInt8) (a : Addr) : Prop :=
  W.cell? ⟨g, 0, none⟩ = some (.iface 181 (.pointer (some a))) ∧ (∃ s : ByteArray, W.cell? a = some (.string s) ∧ s.data.toList = text) ∧ ∃ c t, W.heap[a.block]? = some (.cells c t (0, 0))
theorem laid_drop {P : Program} {W : World} : ∀ (k : Nat) {l : List (String × DataW Unit)}, laidMet P l W → laidMet P (l.drop k) W
  | 0, _, h => h
  | _ + 1, [], h => h
  | k + 1, _ :: _, h => laid_drop k (laidMet.tail h)
set_option maxRecDepth 100000 in
theorem err_head {W : World} {g : Nat} {n : String} {text : List UInt8} {r : List (String × DataW Unit)} (h : laidMet Tryz.prog ((n, .iface "*errors.errorString" (.ptr (.agg [.lit (.string text)]))) :: r) W)
    (hg : Tryz.prog.globalNamed n = some g) (ht : (Tryz.prog.globals[g]?).map (·.type) = some 25) : ∃ a, ErrAt W g text a := by
  obtain ⟨ps, ⟨g0, t0, cs0, f0, p0, q0, hg0, ht0, hv0, hd0, _, e0⟩, _, hrows⟩ := h
  obtain rfl := Option.some.inj (hg.symm.trans hg0)
  obtain rfl := Option.some.inj (ht.symm.trans ht0)
  subst e0
  obtain ⟨l0⟩ := cs0
  have ok0 : ∀ u v, l0 = [.iface u v] → Value.okWide Tryz.prog W .any 0 u v := fun u v e => by
    subst e
    exact (hrows g 0 (by simp [MemPlace.row])).2 u v (by simpa using World.var?_cell hg0 hv0 0)
  obtain ⟨a0, s0, rfl, hc0, hs0, _, rfl⟩ := errorString_of_trod Tryz.underlying25 err_type Tryz.underlying181 Tryz.underlying195 rfl rfl Tryz.underlying9 cells_err cells_str' hd0 ok0
  have hc := World.var?_cell hg0 hv0 0
  exact ⟨a0, by simpa using hc, ⟨s0, hc0, hs0⟩, (hrows a0.block a0.off (by simp [MemPlace.row])).1⟩
theorem err_idx {W : World} {g : Nat} {l : List (String × DataW Unit)} {n : String} {text : List UInt8} (h : laidMet Tryz.prog l W) (k : Nat) (hk : l[k]? = some (n, .iface "*errors.errorString" (.ptr (.agg [.lit (.string text)]))))
    (hg : Tryz.prog.globalNamed n = some g) (ht : (Tryz.prog.globals[g]?).map (·.type) = some 25) : ∃ a, ErrAt W g text a := by
  have hd := laid_drop k h
  obtain ⟨hlt, e⟩ := List.getElem?_eq_some_iff.1 hk
  rw [List.drop_eq_getElem_cons hlt, e] at hd
  exact err_head hd hg ht

def errTexts : List (List UInt8) := [[108, 101, 120],
  [112, 97, 114, 115, 101],
  [114, 101, 115, 111, 108, 118, 101],
  [100, 121, 110, 97, 109, 105, 99],
  [99, 121, 99, 108, 101],
  [118, 105, 115, 105, 98, 105, 108, 105, 116, 121],
  [97, 110, 97, 108, 121, 115, 105, 115],
  [108, 105, 109, 105, 116],
  [109, 105, 115, 115, 105, 110, 103],
  [116, 111, 111, 32, 109, 97, 110, 121],
  [110, 111, 32, 115, 117, 99, 104, 32, 107, 105, 110, 100],
  [110, 111, 32, 112, 97, 116, 104],
  [110, 111, 116, 32, 116, 104, 101, 32, 115, 104, 97, 112, 101, 32, 116, 104, 97, 116, 32, 105, 116, 32, 104, 97, 115, 32, 116, 111, 32, 104, 97, 118, 101],
  [105, 116, 32, 101, 110, 100, 115, 32, 116, 111, 111, 32, 101, 97, 114, 108, 121],
  [97, 32, 110, 117, 109, 98, 101, 114, 32, 111, 117, 116, 32, 111, 102, 32, 105, 116, 115, 32, 114, 97, 110, 103, 101],
  [116, 104, 101, 32, 112, 111, 119, 101, 114, 32, 104, 97, 115, 32, 103, 111, 110, 101],
  [105, 116, 32, 104, 97, 115, 32, 102, 97, 105, 108, 101, 100]]
def errText (i : Nat) : List UInt8 := errTexts[i]?.getD []
theorem texts_apart : ∀ i j : Fin 17, errText i = errText j → i = j := by decide +kernel
set_option maxRecDepth 100000 in
theorem sent_of {W : World} {A : Nat → Addr}
    (h0 : ErrAt W 4 (errText 0) (A 0))
    (h1 : ErrAt W 3 (errText 1) (A 1))
    (h2 : ErrAt W 5 (errText 2) (A 2))
    (h3 : ErrAt W 6 (errText 3) (A 3))
    (h4 : ErrAt W 7 (errText 4) (A 4))
    (h5 : ErrAt W 8 (errText 5) (A 5))
    (h6 : ErrAt W 9 (errText 6) (A 6))
    (h7 : ErrAt W 2 (errText 7) (A 7))
    (h8 : ErrAt W 10 (errText 8) (A 8))
    (h9 : ErrAt W 0 (errText 9) (A 9))
    (h10 : ErrAt W 11 (errText 10) (A 10))
    (h11 : ErrAt W 12 (errText 11) (A 11))
    (h12 : ErrAt W 1 (errText 12) (A 12))
    (h13 : ErrAt W 13 (errText 13) (A 13))
    (h14 : ErrAt W 14 (errText 14) (A 14))
    (h15 : ErrAt W 15 (errText 15) (A 15))
    (h16 : ErrAt W 16 (errText 16) (A 16)) : Sent A W := by
  have all : ∀ i, i < 17 → (∃ s : ByteArray, W.cell? (A i) = some (.string s) ∧ s.data.toList = errText i) ∧ ∃ c t, W.heap[(A i).block]? = some (.cells c t (0, 0)) := by
    intro i h
    have h' : i = 0 ∨ i = 1 ∨ i = 2 ∨ i = 3 ∨ i = 4 ∨ i = 5 ∨ i = 6 ∨ i = 7 ∨ i = 8 ∨ i = 9 ∨ i = 10 ∨ i = 11 ∨ i = 12 ∨ i = 13 ∨ i = 14 ∨ i = 15 ∨ i = 16 := by omega
    rcases h' with rfl | rfl | rfl | rfl | rfl | rfl | rfl | rfl | rfl | rfl | rfl | rfl | rfl | rfl | rfl | rfl | rfl
    · exact h0.2
    · exact h1.2
    · exact h2.2
    · exact h3.2
    · exact h4.2
    · exact h5.2
    · exact h6.2
    · exact h7.2
    · exact h8.2
    · exact h9.2
    · exact h10.2
    · exact h11.2
    · exact h12.2
    · exact h13.2
    · exact h14.2
    · exact h15.2
    · exact h16.2
  refine ⟨fun i j hi hj e => ?_, fun i hi => (all i hi).2, h0.1, h1.1, h2.1, h3.1, h4.1, h5.1, h6.1, h7.1, h8.1, h9.1, h10.1, h11.1, h12.1, h13.1, h14.1, h15.1, h16.1⟩
  obtain ⟨s, hs, ts⟩ := (all i hi).1
  obtain ⟨s', hs', ts'⟩ := (all j hj).1
  rw [e, hs'] at hs
  cases hs
  exact congrArg Fin.val (texts_apart ⟨i, hi⟩ ⟨j, hj⟩ (ts.symm.trans ts'))

end Go.Proofs.YtpjjofdphlgeiaaGreatDoor

namespace Go.Proofs.YtpjjofdphlgeiaaGreatDoor
open Go.RowKit
theorem own : ownKnob Tryz.prog.godebug = none := by kernel_rfl
end Go.Proofs.YtpjjofdphlgeiaaGreatDoor

namespace Go.Proofs.YtpjjofdphlgeiaaGreatDoor
open Go.RowKit

/-- What smithysee.Fault tells of an error. -/
def FaultOf (A : Nat → Addr) (v : Value) (c : Int) : Prop := (v = .nilIface ∧ c = 0) ∨ (∃ m, m < 17 ∧ v = E A m ∧ c = 101 + (m : Int))
theorem Fault_of {A : Nat → Addr} {v : Value} {c : Int} (hv : FaultOf A v c) (w : World) (h : Sent A w) : Calls Tryz.prog 17 #[v] w (tells (bare c) w) := by
  rcases hv with ⟨rfl, rfl⟩ | ⟨m, hm, rfl, rfl⟩
  · exact Fault_nil w
  · exact Fault_is A m w hm h

theorem row_drew {w w' : World} {c : Int} (hb : Below (w.alloc (.cells (bareRow c) 39)).drew.heap.size (w.alloc (.cells (bareRow c) 39)).drew w') : w'.heap[w.heap.size]? = some (.cells (bareRow c) 39 (0, 0)) :=
  (hb.block _ (by show w.heap.size < (w.alloc _).heap.size; simp)).trans (alloc_new' w _)
theorem row_cells {W : World} {g : Nat} {t : TypeId} {c : Int} (h : W.heap[g]? = some (.cells (bareRow c) t (0, 0))) : W.cell? ⟨g, 0, none⟩ = some (.int .i64 c) ∧ W.cell? ⟨g, 1, none⟩ = some (.bool false) ∧ W.cell? ⟨g, 2, none⟩ = some (.int .i64 0) ∧ W.cell? ⟨g, 3, none⟩ = some (.bool false) ∧ W.cell? ⟨g, 4, none⟩ = some (.string ⟨#[]⟩) := by
  unfold World.cell?
  rw [h]
  exact ⟨rfl, rfl, rfl, rfl, rfl⟩

set_option maxRecDepth 100000 in
set_option maxHeartbeats 800000 in
theorem Same_bare {A : Nat → Addr} {v : Value} {c : Int} (d : Int) (hv : FaultOf A v c) (w : World) (h : Sent A w) : Calls Tryz.prog 15 #[v, bare d] w (tells (.bool (c == d)) w) := by
  have HF := hid' (fun W (hW : Sent A W) => Fault_of hv W hW)
  have H := hid' h
  clear h
  unfold bare
  go_enter Tryz.func15, Tryz.ntmps15
  go_wp2_with fail
  have hb0 : Below w.heap.size w (w.alloc (.cells (bareRow d) 39)) := (Below.refl _ _).alloc (Nat.le_refl _) _
  have HS := hid' (H.out.below hb0)
  have HD := hid' (H.out.below hb0.drew)
  go_region_with (first | (go_at_call 17; refine (HF.out _ HD.out).mono ?_; rintro e w1 ⟨rfl, hb1⟩; obtain ⟨c0, c1, c2, c3, c4⟩ := row_cells (row_drew hb1)) | (go_at_call 27; refine (SameFault_bare _ _ _).mono ?_; rintro e w2 ⟨rfl, hb2⟩))
  all_goals go_wp2
  all_goals go_ret
  all_goals exact ⟨rfl, hb0.drew.trans (hb1.mono (by show w.heap.size ≤ (w.alloc _).heap.size; simp)) |>.trans (hb2.mono (Nat.le_trans (by show w.heap.size ≤ (w.alloc _).heap.size; simp) hb1.size))⟩

/-- An error with a place, in block b. -/
def PlAt (W : World) (b : Nat) (pos : Int) (v : Value) : Prop := W.heap[b]? = some (.cells #[.int .i64 pos, v] 84 (0, 0))
theorem PlAt.cells {W : World} {b : Nat} {pos : Int} {v : Value} (h : PlAt W b pos v) : W.cell? ⟨b, 0, none⟩ = some (.int .i64 pos) ∧ W.cell? ⟨b, 1, none⟩ = some v := by
  unfold World.cell?
  rw [h]
  exact ⟨rfl, rfl⟩
theorem PlAt.below {W W' : World} {b : Nat} {pos : Int} {v : Value} (h : PlAt W b pos v) (hb : Below W.heap.size W W') : PlAt W' b pos v :=
  (hb.block b (Array.getElem?_eq_some_iff.1 h).1).trans h
theorem PlAt.low {W : World} {b : Nat} {pos : Int} {v : Value} (h : PlAt W b pos v) : b < W.heap.size := (Array.getElem?_eq_some_iff.1 h).1
/-- The fault of such an error. -/
def plRow (c pos : Int) : Array Value := #[.int .i64 c, .bool true, .int .i64 pos, .bool false, .string ⟨#[]⟩]
def pl (c pos : Int) : Value := .agg #[.int .i64 c, .bool true, .int .i64 pos, .bool false, .string ⟨#[]⟩]
theorem yes_at (a : Addr) (w : World) : (Instr.typeAssert (.iface 67 (.pointer (some a))) 25 67 true).run Tryz.prog w = .ok (.tuple #[.pointer (some a), .bool true]) w := by kernel_rfl
theorem at_no_in (a : Addr) (w : World) : (Instr.typeAssert (.iface 67 (.pointer (some a))) 25 59 true).run Tryz.prog w = .ok (.tuple #[.pointer none, .bool false]) w := by kernel_rfl
theorem row_open {W : World} {g : Nat} {t : TypeId} {c : Int} (h : W.heap[g]? = some (.cells (bareRow c) t (0, 0))) (j : Nat) : W.frozen? ⟨g, j, none⟩ = false := by
  unfold World.frozen?
  rw [h]
  simp

theorem five_row (W : World) (g : Nat) (a b c d e : Value) {x : Int} {t : TypeId} (h : W.heap[g]? = some (.cells (bareRow x) t (0, 0))) :
    ((((W.setCell ⟨g, 0, none⟩ a).setCell ⟨g, 1, none⟩ b).setCell ⟨g, 2, none⟩ c).setCell ⟨g, 3, none⟩ d).setCell ⟨g, 4, none⟩ e = W.setRow g #[a, b, c, d, e] := by
  have hr := fun cs => setRow_heap W g (bareRow x) cs t (0, 0) h
  rw [setCell_eq_setRow W g 0 _ t _ a h, setCell_eq_setRow _ g 1 _ t _ b (hr _), setRow_setRow, setCell_eq_setRow _ g 2 _ t _ c (hr _), setRow_setRow, setCell_eq_setRow _ g 3 _ t _ d (hr _), setRow_setRow, setCell_eq_setRow _ g 4 _ t _ e (hr _), setRow_setRow]
  rfl
theorem end_row {fn : Func} {p : Tmp} (hres : fn.results = #[.cell p 39]) {a : Act} {w w2 : World} {old row : Array Value} (hsz : row.size = 5) (hp : a.tmps.getD p undef = .pointer (some ⟨w.heap.size, 0, none⟩)) (hd : a.defers = [])
    (hrow : w2.heap[w.heap.size]? = some (.cells old 39 (0, 0))) (hb : Below w.heap.size w w2) : bodyPost Tryz.prog fn (tells (.agg row) w) Exit.ret a (w2.setRow w.heap.size row) :=
  bodyPost_ret (results_cell_row hres a.tmps _ w.heap.size 39 row (0, 0) _ hp (setRow_heap w2 w.heap.size old row 39 (0, 0) hrow) Tryz.underlying39 rfl (by rw [hsz]; exact fault_size)) hd ⟨rfl, below_setRow hb (Nat.le_refl _) _⟩

set_option maxHeartbeats 400000 in
theorem Placed_any (c pos : Int) (hc : (c == 0) = false) (w : World) : Calls Tryz.prog 16 #[.int .i64 c, .int .i64 pos] w (tells (pl c pos) w) := by
  go_enter Tryz.func16, Tryz.ntmps16
  go_wp2
  go_returns
  refine ⟨rfl, ?_⟩
  go_grown

set_option maxRecDepth 100000 in
set_option maxHeartbeats 1000000 in
theorem placed_at (A : Nat → Addr) (m b : Nat) (pos : Int) (w : World) (hm : m < 17) (h : Sent A w) (hp : PlAt w b pos (E A m)) :
    Calls Tryz.prog 29 #[.iface 67 (.pointer (some ⟨b, 0, none⟩))] w (tells (pl (101 + (m : Int)) pos) w) := by
  have HS := hid' (fun W (hW : Sent A W) => sentinel_is A m W hm hW)
  have H := hid' h
  have HP := hid' hp
  have hbl := hp.low
  clear h hp
  have hx := yes_at ⟨b, 0, none⟩
  have hb0 : Below w.heap.size w (w.alloc (.cells (bareRow 0) 39)) := (Below.refl _ _).alloc (Nat.le_refl _) _
  obtain ⟨p0, p1⟩ := (HP.out.below hb0).cells
  have HB0 := hid' hb0
  clear hb0
  unfold E at HS p1
  unfold bareRow at p0 p1
  go_enter Tryz.func29, Tryz.ntmps29
  go_wp2_with fail
  go_region_with (first
    | (go_at_call 49; refine (HS.out _ (H.out.below HB0.out.drew)).mono ?_; rintro e w1 ⟨rfl, hb1⟩; obtain ⟨q0, q1⟩ := ((HP.out.below HB0.out.drew).below hb1).cells; have BX := hid' hb1; clear hb1)
    | (go_at_call 16; refine (Placed_any _ _ (by rw [beq_eq_false_iff_ne]; omega) _).mono ?_; rintro e w2 ⟨rfl, hb2⟩; have BY := hid' (BX.out.trans (hb2.mono BX.out.size)); obtain ⟨r0, r1, r2, r3, r4⟩ := row_cells (row_drew BY.out); have ro := row_open (row_drew BY.out); have ro0 := ro 0; have ro1 := ro 1; have ro2 := ro 2; have ro3 := ro 3; have ro4 := ro 4; clear ro hb2; unfold pl))
  all_goals go_wp2
  all_goals have hz : w.heap.size ≤ (w.alloc (.cells (bareRow 0) 39)).drew.heap.size := HB0.out.drew.size
  all_goals have h0 := HB0.out.drew.trans (BY.out.mono hz)
  all_goals rw [five_row w2 w.heap.size (.int .i64 (101 + (m : Int))) (.bool true) (.int .i64 pos) (.bool false) (.string ⟨#[]⟩) (row_drew BY.out)]
  all_goals exact end_row Tryz.results29 rfl rfl rfl (row_drew BY.out) h0

set_option maxRecDepth 100000 in
set_option maxHeartbeats 400000 in
theorem Fault_at (A : Nat → Addr) (m b : Nat) (pos : Int) (w : World) (hm : m < 17) (h : Sent A w) (hp : PlAt w b pos (E A m)) :
    Calls Tryz.prog 17 #[.iface 67 (.pointer (some ⟨b, 0, none⟩))] w (tells (pl (101 + (m : Int)) pos) w) := by
  have hb0 : Below w.heap.size w (w.alloc (.cells (bareRow 0) 39)) := (Below.refl _ _).alloc (Nat.le_refl _) _
  have HS := hid' (placed_at A m b pos _ hm (h.below hb0) (hp.below hb0))
  have hx := at_no_in ⟨b, 0, none⟩
  clear h hp
  unfold bareRow at HS
  go_enter Tryz.func17, Tryz.ntmps17
  go_wp2_with fail
  refine HS.out.mono ?_
  rintro e w2 ⟨rfl, hb2⟩
  have hb12 : Below (w.heap.size + 1) (w.alloc (.cells (bareRow 0) 39)) w2 := hb2.mono (by simp)
  have Hrow := hid' (row_kept hb12)
  have HB : Hid (Below w.heap.size w w2) := hid' (hb0.trans (hb12.mono (by omega)))
  clear hb0 hb2 hb12
  unfold pl
  go_wp2_with ((with_reducible refine at_list ?_); refine wpList_store_row rfl 39 (.tmp 2) (.tmp 17) rfl w.heap.size (plRow (101 + (m : Int)) pos) rfl rfl 39 (bareRow 0) Hrow.out fault_size rfl (by simp [plRow, Value.oneCell']) ?_)
  exact end_row Tryz.results17 rfl rfl rfl Hrow.out HB.out

set_option maxRecDepth 100000 in
set_option maxHeartbeats 400000 in
theorem SameFault_pl (c pos : Int) (w : World) : Calls Tryz.prog 27 #[pl c pos, pl c pos] w (tells (.bool true) w) := by
  unfold pl
  go_enter Tryz.func27, Tryz.ntmps27
  go_wp2
  go_ret
  refine ⟨ret_bool' (by simp), ?_⟩
  go_grown
theorem pl_drew {w w' : World} {c pos : Int} (hb : Below (w.alloc (.cells (plRow c pos) 39)).drew.heap.size (w.alloc (.cells (plRow c pos) 39)).drew w') : w'.heap[w.heap.size]? = some (.cells (plRow c pos) 39 (0, 0)) :=
  (hb.block _ (by show w.heap.size < (w.alloc _).heap.size; simp)).trans (alloc_new' w _)
theorem pl_cells {W : World} {g : Nat} {t : TypeId} {c pos : Int} (h : W.heap[g]? = some (.cells (plRow c pos) t (0, 0))) : W.cell? ⟨g, 0, none⟩ = some (.int .i64 c) ∧ W.cell? ⟨g, 1, none⟩ = some (.bool true) ∧ W.cell? ⟨g, 2, none⟩ = some (.int .i64 pos) ∧ W.cell? ⟨g, 3, none⟩ = some (.bool false) ∧ W.cell? ⟨g, 4, none⟩ = some (.string ⟨#[]⟩) := by
  unfold World.cell?
  rw [h]
  exact ⟨rfl, rfl, rfl, rfl, rfl⟩

set_option maxRecDepth 100000 in
set_option maxHeartbeats 800000 in
theorem Same_pl (A : Nat → Addr) (m b : Nat) (pos : Int) (w : World) (hm : m < 17) (h : Sent A w) (hp : PlAt w b pos (E A m)) :
    Calls Tryz.prog 15 #[.iface 67 (.pointer (some ⟨b, 0, none⟩)), pl (101 + (m : Int)) pos] w (tells (.bool true) w) := by
  have hb0 : Below w.heap.size w (w.alloc (.cells (plRow (101 + (m : Int)) pos) 39)) := (Below.refl _ _).alloc (Nat.le_refl _) _
  have HF := hid' (Fault_at A m b pos _ hm (h.below hb0.drew) (hp.below hb0.drew))
  clear h hp
  have HSF := hid' (SameFault_pl (101 + (m : Int)) pos)
  unfold pl at HSF HF ⊢
  unfold plRow at HF
  go_enter Tryz.func15, Tryz.ntmps15
  go_wp2_with fail
  go_region_with (first | (go_at_call 17; refine HF.out.mono ?_; rintro e w1 ⟨rfl, hb1⟩; obtain ⟨c0, c1, c2, c3, c4⟩ := pl_cells (pl_drew hb1)) | (go_at_call 27; refine (HSF.out _).mono ?_; rintro e w2 ⟨rfl, hb2⟩))
  all_goals go_wp2
  all_goals go_ret
  all_goals exact ⟨rfl, hb0.drew.trans (hb1.mono (by show w.heap.size ≤ (w.alloc _).heap.size; simp)) |>.trans (hb2.mono (Nat.le_trans (by show w.heap.size ≤ (w.alloc _).heap.size; simp) hb1.size))⟩

end Go.Proofs.YtpjjofdphlgeiaaGreatDoor
