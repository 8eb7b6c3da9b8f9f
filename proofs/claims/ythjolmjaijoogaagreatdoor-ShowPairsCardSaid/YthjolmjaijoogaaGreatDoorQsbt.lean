/- Parts of the proof, together. What show's say and written answer; a builder's String. Conditions: the writer is not full, and does not become so; it has written something. The ranks of binary Ops and of names, which rank a place asks for, the signs. No conditions. -/
import Derived.Test.YthjolmjaijoogaaGreatDoorQsbs
import Derived.Test.YthjolmjaijoogaaGreatDoorQsbe
import Derived.Test.YthjolmjaijoogaaGreatDoorQsav
import Derived.Test.YthjolmjaijoogaaGreatDoorQsam
namespace Go.Proofs.YthjolmjaijoogaaGreatDoor
open Go.RowKit
open Lx Ax

theorem bytes_cells : Tryz.prog.cellsOf 5 = 1 := by kernel_rfl
set_option maxRecDepth 100000 in
set_option maxHeartbeats 2000000 in
theorem wstring_any {B wb : Nat} {nv : Value} {W : World} {bs : List UInt8} {ind beg : Int} (h : WV B wb nv W bs ind beg) (h0 : bs ≠ []) :
    Calls Tryz.prog 40 #[.pointer (some ⟨wb, 1, none⟩)] W fun e w' => e = .returned (.string (txt bs)) ∧ Below B W w' := by
  obtain ⟨p, v, hr, hp, hown⟩ := h.ex
  have hl0 : bs.length ≠ 0 := by simpa using h0
  obtain ⟨g, cap, cur, rfl, hbg, hg, hnc, hcm, hcs, htake⟩ : ∃ g cap cur, v = .slice (some ⟨g, 0, none⟩) bs.length cap ∧ B ≤ g ∧ W.heap[g]? = some (.cells cur 5 (0, 0)) ∧ bs.length ≤ cap ∧ cap ≤ maxLen ∧ cur.size = cap * 1 ∧ cur.toList.take (bs.length * 1) = Lib.byteCells bs := by
    rcases hown.2 with ⟨_, hz⟩ | ⟨g, cap, cur, hv, r⟩
    · exact absurd hz hl0
    · exact ⟨g, cap, cur, hv, r⟩
  have c2 : W.drew.cell? ⟨wb, 2, none⟩ = some (.slice (some ⟨g, 0, none⟩) bs.length cap) := hr.cell (j := 2) rfl
  have hSD : (Builtin.unsafeSliceData_ #[49] 121 #[.slice (some ⟨g, 0, none⟩) bs.length cap]).run Tryz.prog W.drew = .ok (.pointer (some ⟨g, 0, none⟩)) W.drew :=
    Lib.run_unsafeSliceData_row _ _ _ _ _ _ (by omega)
  have hUS : (Builtin.unsafeString_ #[121, 3] 9 #[.pointer (some ⟨g, 0, none⟩), .int .i64 bs.length]).run Tryz.prog W.drew = .ok (.string ⟨bs.toArray⟩) (W.drew.freeze ⟨g, 0, none⟩ bs.length) := by
    refine Lib.run_unsafeString_row W.drew 121 3 9 5 Tryz.underlying121 bytes_cells g cur.size (by have hg' : W.drew.heap[g]? = some (.cells cur 5 (0, 0)) := hg; simp [World.shape?, hg']) bs h0 (by omega) (by unfold maxLen at hcm; omega) ?_
    intro j x hx
    exact hown.cells (g := g) rfl j (.int .u8 x.toNat) (by simp [Lib.byteCells, hx])
  clear h hr hown hg htake
  go_enter Tryz.func40, Tryz.ntmps40
  go_wp2
  go_region
  all_goals (go_wp2; go_ret; exact ⟨rfl, Lib.below_freeze (Below.drew (Below.refl B W)) (p := ⟨g, 0, none⟩) hbg _⟩)
set_option maxRecDepth 10000 in
set_option maxHeartbeats 1000000 in
theorem say_any {B wb : Nat} {nv : Value} {W : World} {bs : List UInt8} {ind beg : Int} (h : WV B wb nv W bs ind beg) (l : List UInt8) (hl : bs.length + l.length ≤ 60000) (hBw : B ≤ W.heap.size) :
    Calls Tryz.prog 47 #[.pointer (some ⟨wb, 0, none⟩), .string (txt l)] W fun e w' => e = .returned (.tuple #[]) ∧ WV B wb nv w' (bs ++ l) ind beg ∧ Below B W w' := by
  have HL := hid' (wlen_any h)
  have HS := hid' (wstr_any h l (by omega) hBw)
  obtain ⟨p, v, hr, _, _⟩ := h.ex
  have c5 := hr.cell (j := 5) rfl
  have hlt := hr.lt
  have hsz : (txt l).size = l.length := rfl
  have hgt : ¬ (65536 : Int) - (bs.length : Int) < (l.length : Int) := by omega
  have hwr : IntKind.i64.wrap ((65536 : Int) - (bs.length : Int)) = 65536 - (bs.length : Int) := by rw [IntWalk.i64_in _ ⟨by omega, by omega⟩]
  clear h hr
  go_enter Tryz.func47, Tryz.ntmps47
  go_wp2_with fail
  refine Calls.mono HL.out ?_
  rintro e w1 ⟨rfl, rfl⟩
  go_wp2_with fail
  refine Calls.mono HS.out ?_
  rintro e w2 ⟨rfl, h2, b2⟩
  have H2 := hid' h2
  have B2 := hid' b2
  clear h2 b2 HS HL
  go_wp2
  go_end0
  exact ⟨rfl, H2.out, B2.out⟩
set_option maxRecDepth 10000 in
theorem written_any {B wb : Nat} {nv : Value} {W : World} {bs : List UInt8} {ind beg : Int} (h : WV B wb nv W bs ind beg) (h0 : bs ≠ []) :
    Calls Tryz.prog 20 #[.pointer (some ⟨wb, 0, none⟩)] W fun e w' => e = .returned (.tuple #[.string (txt bs), .nilIface]) ∧ Below B W w' := by
  have HS := hid' (wstring_any h h0)
  obtain ⟨p, v, hr, _, _⟩ := h.ex
  have c5 := hr.cell (j := 5) rfl
  have hlt := hr.lt
  clear h hr
  go_enter Tryz.func20, Tryz.ntmps20
  go_wp2_with fail
  refine Calls.mono HS.out ?_
  rintro e w2 ⟨rfl, b2⟩
  have B2 := hid' b2
  clear b2 HS
  go_wp2
  go_returns
  exact ⟨rfl, B2.out⟩
end Go.Proofs.YthjolmjaijoogaaGreatDoor

namespace Go.Proofs.YthjolmjaijoogaaGreatDoor
open Go.RowKit
open Lx Ax

namespace Sw
/-- A binary Op. -/
def Bin (z : Int) : Prop := z = 18 ∨ z = 19 ∨ (21 ≤ z ∧ z ≤ 33)
instance (z : Int) : Decidable (Bin z) := by unfold Bin; infer_instance
theorem Bin.each {z : Int} (h : Bin z) : z = 18 ∨ z = 19 ∨ z = 21 ∨ z = 22 ∨ z = 23 ∨ z = 24 ∨ z = 25 ∨ z = 26 ∨ z = 27 ∨ z = 28 ∨ z = 29 ∨ z = 30 ∨ z = 31 ∨ z = 32 ∨ z = 33 := by unfold Bin at h; omega
def rankF (z : Int) : Int := if z = 19 then 2 else if z = 18 then 3 else if 26 ≤ z ∧ z ≤ 33 then 5 else if z = 21 ∨ z = 22 then 6 else if 23 ≤ z ∧ z ≤ 25 then 7 else 9
def asksF (z : Int) (place : Nat) : Int := if rankF z = 5 then 6 else if place = 0 then rankF z else rankF z + 1
def needsF (z : Int) (place : Nat) (k : Int) : Bool := decide (rankF k < asksF z place)
def signF (z : Int) : List UInt8 := if z = 18 then [32, 97, 110, 100, 32] else
  if z = 19 then [32, 111, 114, 32] else
  if z = 21 then [32, 43, 32] else
  if z = 22 then [32, 45, 32] else
  if z = 23 then [32, 42, 32] else
  if z = 24 then [32, 47, 47, 32] else
  if z = 26 then [32, 61, 61, 32] else
  if z = 27 then [32, 33, 61, 32] else
  if z = 28 then [32, 60, 32] else
  if z = 29 then [32, 60, 61, 32] else
  if z = 30 then [32, 62, 32] else
  if z = 31 then [32, 62, 61, 32] else
  if z = 32 then [32, 105, 110, 32] else
  if z = 33 then [32, 110, 111, 116, 32, 105, 110, 32] else [32, 37, 32]
end Sw
open Sw
set_option maxRecDepth 10000 in
set_option maxHeartbeats 3200000 in
theorem rank_any (z : Int) (h : z = 6 ∨ Bin z) (W : World) : Calls Tryz.prog 14 #[.int .i64 z] W fun e w' => e = .returned (.int .i64 (rankF z)) ∧ w' = W := by
  rcases h with rfl | h
  · go_enter Tryz.func14, Tryz.ntmps14
    go_wp2
    go_ret
    exact ⟨rfl, rfl⟩
  rcases h.each with rfl | rfl | rfl | rfl | rfl | rfl | rfl | rfl | rfl | rfl | rfl | rfl | rfl | rfl | rfl
  all_goals
    go_enter Tryz.func14, Tryz.ntmps14
    go_wp2
    go_ret
    exact ⟨rfl, rfl⟩
set_option maxRecDepth 10000 in
set_option maxHeartbeats 3200000 in
theorem hung_any (z : Int) (h : Bin z) (W : World) : Calls Tryz.prog 149 #[.int .i64 z] W fun e w' => e = .returned (.bool false) ∧ w' = W := by
  rcases h.each with rfl | rfl | rfl | rfl | rfl | rfl | rfl | rfl | rfl | rfl | rfl | rfl | rfl | rfl | rfl
  all_goals
    go_enter Tryz.func149, Tryz.ntmps149
    go_wp2
    go_ret
    exact ⟨rfl, rfl⟩
set_option maxRecDepth 10000 in
set_option maxHeartbeats 3200000 in
theorem ssign_any (z : Int) (h : Bin z) (W : World) : Calls Tryz.prog 49 #[.int .i64 z] W fun e w' => e = .returned (.string (txt (signF z))) ∧ w' = W := by
  rcases h.each with rfl | rfl | rfl | rfl | rfl | rfl | rfl | rfl | rfl | rfl | rfl | rfl | rfl | rfl | rfl
  all_goals
    go_enter Tryz.func49, Tryz.ntmps49
    go_wp2
    go_ret
    exact ⟨rfl, rfl⟩
set_option maxRecDepth 10000 in
set_option maxHeartbeats 6400000 in
theorem asks_any (z : Int) (h : Bin z) (p : Nat) (hp : p < 2) (W : World) : Calls Tryz.prog 114 #[.int .i64 z, .int .i64 (p : Int)] W fun e w' => e = .returned (.int .i64 (asksF z p)) ∧ w' = W := by
  have HR := hid' (rank_any z (.inr h) W)
  have HH := hid' (hung_any z h W)
  obtain rfl | rfl : p = 0 ∨ p = 1 := by omega
  all_goals rcases h.each with rfl | rfl | rfl | rfl | rfl | rfl | rfl | rfl | rfl | rfl | rfl | rfl | rfl | rfl | rfl
  all_goals clear h
  all_goals
    go_enter Tryz.func114, Tryz.ntmps114
    go_wp2_with fail
    refine Calls.mono HR.out ?_
    rintro e w1 ⟨rfl, rfl⟩
    go_wp2_with fail
    refine Calls.mono HH.out ?_
    rintro e w2 ⟨rfl, rfl⟩
    go_wp2
    go_ret
    exact ⟨rfl, rfl⟩
set_option maxRecDepth 10000 in
theorem needs_any (z : Int) (h : Bin z) (p : Nat) (hp : p < 2) (k : Int) (hk : k = 6 ∨ Bin k) (W : World) : Calls Tryz.prog 81 #[.int .i64 z, .int .i64 (p : Int), .int .i64 k] W fun e w' => e = .returned (.bool (needsF z p k)) ∧ w' = W := by
  have HR := hid' (rank_any k hk W)
  have HA := hid' (asks_any z h p hp W)
  have h12 : (z == 12) = false := by unfold Bin at h; simp; omega
  unfold needsF
  generalize rankF k = a at HR ⊢
  generalize asksF z p = b at HA ⊢
  clear h hk
  by_cases hab : a < b
  · rw [decide_eq_true hab]
    go_enter Tryz.func81, Tryz.ntmps81
    go_wp2_with fail
    refine Calls.mono HR.out ?_
    rintro e w1 ⟨rfl, rfl⟩
    go_wp2_with fail
    refine Calls.mono HA.out ?_
    rintro e w2 ⟨rfl, rfl⟩
    go_wp2
    go_ret
    exact ⟨rfl, rfl⟩
  · rw [decide_eq_false hab]
    go_enter Tryz.func81, Tryz.ntmps81
    go_wp2_with fail
    refine Calls.mono HR.out ?_
    rintro e w1 ⟨rfl, rfl⟩
    go_wp2_with fail
    refine Calls.mono HA.out ?_
    rintro e w2 ⟨rfl, rfl⟩
    go_wp2
    go_ret
    exact ⟨ret_bool' (decide_eq_false (by omega)), rfl⟩
end Go.Proofs.YthjolmjaijoogaaGreatDoor
