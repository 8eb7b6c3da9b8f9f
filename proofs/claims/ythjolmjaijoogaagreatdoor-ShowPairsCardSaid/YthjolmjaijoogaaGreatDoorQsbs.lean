/- Parts of the proof, together. A strings.Builder within show's writer: copyCheck, WriteString, Len, String. Conditions: the writer lies in a block of its own, its bytes in one from block B on; few bytes. -/
import Derived.Lib.Builder
import Derived.Lib.UnsafeStr
import Derived.Lib.AppendStr
import Derived.Laws.Externs
import Derived.Handy
import Derived.Test.YthjolmjaijoogaaGreatDoorQsax
import Derived.Test.YthjolmjaijoogaaGreatDoorQsam
namespace Go.Proofs.YthjolmjaijoogaaGreatDoor
open Go.RowKit
open Lx Ax

theorem info_builder : (Tryz.prog.info? 51).map (·.size) = some 2 := by kernel_rfl
theorem lies_builder : liesAt Tryz.prog Tryz.prog.depth 53 (6 / Tryz.prog.cellsOf 53) 1 51 1 = true := by kernel_rfl
theorem wshape {W : World} {wb : Nat} {cs : List Value} (h : RowV W wb 53 cs) (hl : cs.length = 6) : W.shape? wb = some (53, 6) := by
  unfold RowV at h
  simp [World.shape?, h, hl]
set_option maxRecDepth 100000 in
theorem copy_old (w : World) (wb : Nat) (nv v i b f : Value) (h : RowV w wb 53 [nv, .pointer (some ⟨wb, 1, none⟩), v, i, b, f]) :
    Calls Tryz.prog 115 #[.pointer (some ⟨wb, 1, none⟩)] w fun e w' => e = .returned (.tuple #[]) ∧ w' = w := by
  obtain ⟨j, hj, _⟩ := Option.map_eq_some_iff.1 info_builder
  have c1 := h.cell (j := 1) rfl
  go_enter Tryz.func115, Tryz.ntmps115
  go_wp2
  rw [Lib.run_neq_ptr_same w _ Tryz.underlying48 hj]
  go_wp2
  go_end0
  exact ⟨rfl, rfl⟩
set_option maxRecDepth 100000 in
theorem copy_new (w : World) (wb : Nat) (nv v i b f : Value) (h : RowV w wb 53 [nv, .pointer none, v, i, b, f]) :
    Calls Tryz.prog 115 #[.pointer (some ⟨wb, 1, none⟩)] w fun e w' => e = .returned (.tuple #[]) ∧ w' = w.setCell ⟨wb, 1, none⟩ (.pointer (some ⟨wb, 1, none⟩)) := by
  obtain ⟨j, hj, hjs⟩ := Option.map_eq_some_iff.1 info_builder
  have hsh := wshape h rfl
  have c1 := h.cell (j := 1) rfl
  have o1 := h.open_ 1
  go_enter Tryz.func115, Tryz.ntmps115
  go_wp2
  rw [Lib.run_to_unsafe w ⟨wb, 1, none⟩ Tryz.underlying48 Tryz.underlying155 hj (by rw [hjs]; decide) hsh (show 1 < 6 by decide)]
  simp only [Result.andThen]
  rw [Oper.upon_value]
  go_wp2
  rw [run_callFunc_extern Tryz.func150 (by kernel_rfl) (by kernel_rfl) (by kernel_rfl) (e := Extern.AbiNoEscape.same) (by kernel_rfl)]
  rw [Lib.run_noEscape]
  simp only [Result.andThen]
  rw [Oper.upon_value]
  go_wp2
  rw [Lib.run_from_unsafe w ⟨wb, 1, none⟩ Tryz.underlying155 Tryz.underlying48 hj hsh lies_builder]
  simp only [Result.andThen]
  rw [Oper.upon_value]
  go_wp2
  go_end0
  exact ⟨rfl, rfl⟩
/-- Bytes of the call's own, as a builder has them. -/
def OwnT (W : World) (B : Nat) (v : Value) (bs : List UInt8) : Prop := W.ownsRow B 5 1 v bs.length (Lib.byteCells bs)
/-- A writer in memory, with what it has written; it is not full. -/
structure WV (B wb : Nat) (nv : Value) (W : World) (bs : List UInt8) (ind beg : Int) : Prop where
  ex : ∃ p v, RowV W wb 53 [nv, p, v, .int .i64 ind, .int .i64 beg, .bool false] ∧ (p = .pointer none ∨ p = .pointer (some ⟨wb, 1, none⟩)) ∧ OwnT W B v bs
  low : B ≤ wb
theorem OwnT.form {W : World} {B : Nat} {v : Value} {bs : List UInt8} (h : OwnT W B v bs) : ∃ ao cap, v = .slice ao bs.length cap ∧ bs.length ≤ cap := by
  rcases h.2 with ⟨rfl, h0⟩ | ⟨g, cap, cur, rfl, _, _, hc, _⟩
  · exact ⟨none, 0, by rw [h0], by omega⟩
  · exact ⟨_, cap, rfl, hc⟩
theorem info_byte1 : (Tryz.prog.info? 5).map (fun i => (i.zero, i.size, i.bytes)) = some (some (.int .u8 0), 1, 1) := by kernel_rfl
theorem OwnT.ne {W : World} {B wb : Nat} {v : Value} {bs : List UInt8} {cs : List Value} (h : OwnT W B v bs) (hb : RowV W wb 53 cs) : v.ownBlock ≠ some wb := Lib.ownBlock_ne h hb (by decide)
theorem OwnT.set {W : World} {B wb : Nat} {v : Value} {bs : List UInt8} {cs : List Value} (h : OwnT W B v bs) (hb : RowV W wb 53 cs) (i : Nat) (x : Value) : OwnT (W.setCell ⟨wb, i, none⟩ x) B v bs :=
  World.ownsRow.kept h (row := some wb) ⟨rfl, rfl, rfl, by simp [World.setCell], fun k _ hk => Below.heap_setCell _ _ _ _ (fun e => hk (by simp [e]))⟩ (Or.inr (h.ne hb))
theorem wlen_any {B wb : Nat} {nv : Value} {W : World} {bs : List UInt8} {ind beg : Int} (h : WV B wb nv W bs ind beg) :
    Calls Tryz.prog 82 #[.pointer (some ⟨wb, 1, none⟩)] W fun e w' => e = .returned (.int .i64 bs.length) ∧ w' = W := by
  obtain ⟨p, v, hr, hp, ho⟩ := h.ex
  obtain ⟨ao, cap, rfl, _⟩ := ho.form
  have c2 := hr.cell (j := 2) rfl
  clear h ho
  go_enter Tryz.func82, Tryz.ntmps82
  go_wp2
  go_ret
  exact ⟨rfl, rfl⟩
set_option maxRecDepth 100000 in
set_option maxHeartbeats 1000000 in
theorem wstr_old {B wb : Nat} {nv v : Value} {W : World} {bs : List UInt8} {ind beg : Int} (hr : RowV W wb 53 [nv, .pointer (some ⟨wb, 1, none⟩), v, .int .i64 ind, .int .i64 beg, .bool false]) (ho : OwnT W B v bs) (hlow : B ≤ wb) (l : List UInt8) (hl : bs.length + l.length ≤ 100000) (hBw : B ≤ W.heap.size) :
    ∀ W0, Below B W0 W → Calls Tryz.prog 115 #[.pointer (some ⟨wb, 1, none⟩)] W0 (fun e w' => e = .returned (.tuple #[]) ∧ w' = W) →
    Calls Tryz.prog 83 #[.pointer (some ⟨wb, 1, none⟩), .string (txt l)] W0 fun e w' => e = .returned (.tuple #[.int .i64 l.length, .nilIface]) ∧ WV B wb nv w' (bs ++ l) ind beg ∧ Below B W0 w' := by
  intro W0 hb0 HCC
  obtain ⟨i0, hi, hz0, hz1, hz2⟩ := info_parts info_byte1
  have hne := ho.ne hr
  have hsz : (txt l).size = l.length := rfl
  have c1 := hr.cell (j := 1) rfl
  have c2 := hr.cell (j := 2) rfl
  have HR := hid' hr
  have HO := hid' ho
  have HB0 := hid' hb0
  have HC := hid' HCC
  clear hr ho hb0 HCC
  go_enter Tryz.func83, Tryz.ntmps83
  go_wp2_with fail
  refine Calls.mono HC.out ?_
  rintro e w1 ⟨rfl, rfl⟩
  go_wp2_with (at_builtin; refine Lib.wpList_append_own_string _ rfl _ _ 49 9 rfl B 5 i0 Tryz.underlying49 Tryz.underlying9 hi hz0 hz1 hz2 _ _ _ rfl HO.out (txt l) rfl (by unfold maxLen; omega) (by omega) hBw ?_)
  intro v' w2 hown' hgrow _
  have hb2 : RowV w2 wb 53 [nv, .pointer (some ⟨wb, 1, none⟩), v, .int .i64 ind, .int .i64 beg, .bool false] := HR.out.far (hgrow.block wb HR.out.lt (fun e => hne e.symm))
  have hown2 : OwnT w2 B v' (bs ++ l) := by
    unfold OwnT
    rw [List.length_append, Lib.byteCells_append]
    exact hown'
  obtain ⟨ao, cap, rfl, _⟩ := hown2.form
  have f2 := hb2.open_ 2
  have d2 := hb2.lt
  have d3 := hb2.cell (j := 2) rfl
  have hlt := HR.out.lt
  have HF : Hid (WV B wb nv (w2.setCell ⟨wb, 2, none⟩ (.slice ao (bs ++ l).length cap)) (bs ++ l) ind beg ∧ Below B W0 (w2.setCell ⟨wb, 2, none⟩ (.slice ao (bs ++ l).length cap))) := hid' ⟨⟨⟨_, _, hb2.set 2 _, .inr rfl, hown2.set hb2 2 _⟩, hlow⟩, (HB0.out.grown hgrow hBw (fun k hk => (World.ownsRow.lt HO.out k hk).1)).setCell (p := ⟨wb, 2, none⟩) hlow _⟩
  clear hown' hgrow hown2 HO HB0 HC
  generalize (bs ++ l).length = m at HF ⊢
  go_wp2
  go_ret2
  exact ⟨rfl, HF.out.1, HF.out.2⟩
theorem wstr_any {B wb : Nat} {nv : Value} {W : World} {bs : List UInt8} {ind beg : Int} (h : WV B wb nv W bs ind beg) (l : List UInt8) (hl : bs.length + l.length ≤ 100000) (hBw : B ≤ W.heap.size) :
    Calls Tryz.prog 83 #[.pointer (some ⟨wb, 1, none⟩), .string (txt l)] W fun e w' => e = .returned (.tuple #[.int .i64 l.length, .nilIface]) ∧ WV B wb nv w' (bs ++ l) ind beg ∧ Below B W w' := by
  obtain ⟨p, v, hr, hp, ho⟩ := h.ex
  rcases hp with rfl | rfl
  · exact wstr_old (hr.set 1 (.pointer (some ⟨wb, 1, none⟩))) (ho.set hr 1 _) h.low l hl (by simpa using hBw) W ((Below.refl B W).setCell (p := ⟨wb, 1, none⟩) h.low _) (copy_new W wb _ _ _ _ _ hr)
  · exact wstr_old hr ho h.low l hl hBw W (Below.refl B W) (copy_old W wb _ _ _ _ _ hr)
end Go.Proofs.YthjolmjaijoogaaGreatDoor
