/- Parts of the proof, together. A strings.Builder in a block of a call's own: copyCheck, WriteString, String; what is kept beside. Conditions: few bytes. -/
import Derived.Lib.Builder
import Derived.Lib.UnsafeStr
import Derived.Lib.AppendStr
import Derived.Laws.Externs
import Derived.Handy
import Derived.Test.YtpjjofdphlgeiaaGreatDoorVvar
import Derived.Test.YtpjjofdphlgeiaaGreatDoorVvaf
namespace Go.Proofs.YtpjjofdphlgeiaaGreatDoor
open Go.RowKit
open Lx Ax

theorem bd_info : (Tryz.prog.info? 176).map (·.size) = some 2 := by kernel_rfl
theorem bd_lies : liesAt Tryz.prog Tryz.prog.depth 176 (2 / Tryz.prog.cellsOf 176) 0 176 1 = true := by kernel_rfl
theorem bd_byte : (Tryz.prog.info? 5).map (fun i => (i.zero, i.size, i.bytes)) = some (some (.int .u8 0), 1, 1) := by kernel_rfl
theorem bd_cells : Tryz.prog.cellsOf 5 = 1 := by kernel_rfl
theorem bd_shape {W : World} {sb : Nat} {p v : Value} (h : RowV W sb 176 [p, v]) : W.shape? sb = some (176, 2) := by
  unfold RowV at h
  simp [World.shape?, h]
set_option maxRecDepth 100000 in
theorem bd_old (w : World) (sb : Nat) (v : Value) (h : RowV w sb 176 [.pointer (some ⟨sb, 0, none⟩), v]) :
    Calls Tryz.prog 191 #[.pointer (some ⟨sb, 0, none⟩)] w fun e w' => e = .returned (.tuple #[]) ∧ w' = w := by
  obtain ⟨j, hj, _⟩ := Option.map_eq_some_iff.1 bd_info
  have c0 := h.cell (j := 0) rfl
  go_enter Tryz.func191, Tryz.ntmps191
  go_wp2
  rw [Lib.run_neq_ptr_same w _ Tryz.underlying174 hj]
  go_wp2
  go_end0
  exact ⟨rfl, rfl⟩
set_option maxRecDepth 100000 in
theorem bd_new (w : World) (sb : Nat) (v : Value) (h : RowV w sb 176 [.pointer none, v]) :
    Calls Tryz.prog 191 #[.pointer (some ⟨sb, 0, none⟩)] w fun e w' => e = .returned (.tuple #[]) ∧ w' = w.setCell ⟨sb, 0, none⟩ (.pointer (some ⟨sb, 0, none⟩)) := by
  obtain ⟨j, hj, hjs⟩ := Option.map_eq_some_iff.1 bd_info
  have hsh := bd_shape h
  have c0 := h.cell (j := 0) rfl
  have o0 := h.open_ 0
  go_enter Tryz.func191, Tryz.ntmps191
  go_wp2
  rw [Lib.run_to_unsafe w ⟨sb, 0, none⟩ Tryz.underlying174 Tryz.underlying179 hj (by rw [hjs]; decide) hsh (show 0 < 2 by decide)]
  simp only [Result.andThen]
  rw [Oper.upon_value]
  go_wp2
  rw [run_callFunc_extern Tryz.func192 (by kernel_rfl) (by kernel_rfl) (by kernel_rfl) (e := Extern.AbiNoEscape.same) (by kernel_rfl)]
  rw [Lib.run_noEscape]
  simp only [Result.andThen]
  rw [Oper.upon_value]
  go_wp2
  rw [Lib.run_from_unsafe w ⟨sb, 0, none⟩ Tryz.underlying179 Tryz.underlying174 hj hsh bd_lies]
  simp only [Result.andThen]
  rw [Oper.upon_value]
  go_wp2
  go_end0
  exact ⟨rfl, rfl⟩
def BOwn (W : World) (B : Nat) (v : Value) (bs : List UInt8) : Prop := W.ownsRow B 5 1 v bs.length (Lib.byteCells bs)
/-- A builder that has these bytes. -/
structure BV (B sb : Nat) (v : Value) (W : World) (bs : List UInt8) : Prop where
  ex : ∃ p, RowV W sb 176 [p, v] ∧ (p = .pointer none ∨ p = .pointer (some ⟨sb, 0, none⟩))
  own : BOwn W B v bs
  low : B ≤ sb
  nil : bs = [] → v = .slice none 0 0
theorem BOwn.form {W : World} {B : Nat} {v : Value} {bs : List UInt8} (h : BOwn W B v bs) : ∃ ao cap, v = .slice ao bs.length cap ∧ bs.length ≤ cap := by
  rcases h.2 with ⟨rfl, h0⟩ | ⟨g, cap, cur, rfl, _, _, hc, _⟩
  · exact ⟨none, 0, by rw [h0], by omega⟩
  · exact ⟨_, cap, rfl, hc⟩
theorem BOwn.ne {W : World} {B b0 : Nat} {v : Value} {bs : List UInt8} {t : TypeId} {cs : List Value} (h : BOwn W B v bs) (hb : RowV W b0 t cs) (ht : t ≠ 5) : v.ownBlock ≠ some b0 := Lib.ownBlock_ne h hb ht
theorem BOwn.set {W : World} {B sb : Nat} {v : Value} {bs : List UInt8} {cs : List Value} (h : BOwn W B v bs) (hb : RowV W sb 176 cs) (i : Nat) (x : Value) : BOwn (W.setCell ⟨sb, i, none⟩ x) B v bs :=
  World.ownsRow.kept h (row := some sb) ⟨rfl, rfl, rfl, by simp [World.setCell], fun k _ hk => Below.heap_setCell _ _ _ _ (fun e => hk (by simp [e]))⟩ (Or.inr (h.ne hb (by decide)))
/-- All but the builder and its bytes is as it was. -/
def BKeep (sb : Nat) (v : Value) (W w' : World) : Prop := ∀ k, k < W.heap.size → k ≠ sb → v.ownBlock ≠ some k → w'.heap[k]? = W.heap[k]?
set_option maxRecDepth 100000 in
set_option maxHeartbeats 1000000 in
theorem bd_write_old {B sb : Nat} {v : Value} {W : World} {bs : List UInt8} (hr : RowV W sb 176 [.pointer (some ⟨sb, 0, none⟩), v]) (ho : BOwn W B v bs) (hlow : B ≤ sb) (hnil : bs = [] → v = .slice none 0 0) (l : List UInt8) (hl : bs.length + l.length ≤ 100000000) (hBw : B ≤ W.heap.size) :
    ∀ W0, Below B W0 W → W0.heap.size = W.heap.size → BKeep sb v W0 W → Calls Tryz.prog 191 #[.pointer (some ⟨sb, 0, none⟩)] W0 (fun e w' => e = .returned (.tuple #[]) ∧ w' = W) →
    Calls Tryz.prog 184 #[.pointer (some ⟨sb, 0, none⟩), .string (txt l)] W0 fun e w' => e = .returned (.tuple #[.int .i64 l.length, .nilIface]) ∧ ∃ v', BV B sb v' w' (bs ++ l) ∧ Below B W0 w' ∧ BKeep sb v W0 w' := by
  intro W0 hb0 hs0 hk0 HCC
  obtain ⟨i0, hi, hz0, hz1, hz2⟩ := info_parts bd_byte
  have hne := ho.ne hr (by decide)
  have hsz : (txt l).size = l.length := rfl
  have c1 := hr.cell (j := 1) rfl
  have HR := hid' hr
  have HO := hid' ho
  have HB0 := hid' hb0
  have HK0 := hid' hk0
  have HC := hid' HCC
  clear hr ho hb0 HCC hk0
  go_enter Tryz.func184, Tryz.ntmps184
  go_wp2_with fail
  refine Calls.mono HC.out ?_
  rintro e w1 ⟨rfl, rfl⟩
  go_wp2_with (at_builtin; refine Lib.wpList_append_own_string _ rfl _ _ 97 9 rfl B 5 i0 Tryz.underlying97 Tryz.underlying9 hi hz0 hz1 hz2 _ _ _ rfl HO.out (txt l) rfl (by unfold maxLen; omega) (by omega) hBw ?_)
  intro v' w2 hown' hgrow hnn
  have hnil2 : bs ++ l = [] → v' = .slice none 0 0 := fun e => by
    obtain ⟨e1, e2⟩ := List.append_eq_nil_iff.1 e
    exact hnn.2 ⟨hnil e1, by first | exact e2 | (rw [hsz, e2]; rfl)⟩
  have hb2 : RowV w2 sb 176 [.pointer (some ⟨sb, 0, none⟩), v] := HR.out.far (hgrow.block sb HR.out.lt (fun e => hne e.symm))
  have hown2 : BOwn w2 B v' (bs ++ l) := by
    unfold BOwn
    rw [List.length_append, Lib.byteCells_append]
    exact hown'
  obtain ⟨ao, cap, rfl, _⟩ := hown2.form
  have f2 := hb2.open_ 1
  have d2 := hb2.lt
  have d3 := hb2.cell (j := 1) rfl
  have hlt := HR.out.lt
  have HF : Hid (BV B sb (.slice ao (bs ++ l).length cap) (w2.setCell ⟨sb, 1, none⟩ (.slice ao (bs ++ l).length cap)) (bs ++ l) ∧ Below B W0 (w2.setCell ⟨sb, 1, none⟩ (.slice ao (bs ++ l).length cap)) ∧ BKeep sb v W0 (w2.setCell ⟨sb, 1, none⟩ (.slice ao (bs ++ l).length cap))) :=
    hid' ⟨⟨⟨_, hb2.set 1 _, .inr rfl⟩, hown2.set hb2 1 _, hlow, hnil2⟩, (HB0.out.grown hgrow hBw (fun k hk => (World.ownsRow.lt HO.out k hk).1)).setCell (p := ⟨sb, 1, none⟩) hlow _,
      fun k hk h1 h2 => (heap_setCell_other w2 ⟨sb, 1, none⟩ k _ h1).trans ((hgrow.block k (by omega) (Ne.symm h2)).trans (HK0.out k hk h1 h2))⟩
  clear hown' hgrow hown2 HO HB0 HC HK0 hnn hnil2 hnil
  generalize (bs ++ l).length = m at HF ⊢
  go_wp2
  go_ret2
  exact ⟨rfl, _, HF.out.1, HF.out.2.1, HF.out.2.2⟩
theorem bd_write {B sb : Nat} {v : Value} {W : World} {bs : List UInt8} (h : BV B sb v W bs) (l : List UInt8) (hl : bs.length + l.length ≤ 100000000) (hBw : B ≤ W.heap.size) :
    Calls Tryz.prog 184 #[.pointer (some ⟨sb, 0, none⟩), .string (txt l)] W fun e w' => e = .returned (.tuple #[.int .i64 l.length, .nilIface]) ∧ ∃ v', BV B sb v' w' (bs ++ l) ∧ Below B W w' ∧ BKeep sb v W w' := by
  obtain ⟨p, hr, hp⟩ := h.ex
  rcases hp with rfl | rfl
  · exact bd_write_old (hr.set 0 (.pointer (some ⟨sb, 0, none⟩))) (h.own.set hr 0 _) h.low h.nil l hl (by simpa using hBw) W ((Below.refl B W).setCell (p := ⟨sb, 0, none⟩) h.low _) (by simp) (fun k _ h1 _ => heap_setCell_other W ⟨sb, 0, none⟩ k _ h1) (bd_new W sb _ hr)
  · exact bd_write_old hr h.own h.low h.nil l hl hBw W (Below.refl B W) rfl (fun _ _ _ _ => rfl) (bd_old W sb _ hr)
set_option maxRecDepth 100000 in
set_option maxHeartbeats 2000000 in
theorem bd_string {B sb : Nat} {v : Value} {W : World} {bs : List UInt8} (h : BV B sb v W bs) (h0 : bs ≠ []) :
    Calls Tryz.prog 185 #[.pointer (some ⟨sb, 0, none⟩)] W fun e w' => e = .returned (.string (txt bs)) ∧ Below B W w' ∧ BKeep sb v W w' ∧ w'.heap.size = W.heap.size := by
  obtain ⟨p, hr, hp⟩ := h.ex
  have hown := h.own
  have hl0 : bs.length ≠ 0 := by simpa using h0
  obtain ⟨g, cap, cur, rfl, hbg, hg, hnc, hcm, hcs, htake⟩ : ∃ g cap cur, v = .slice (some ⟨g, 0, none⟩) bs.length cap ∧ B ≤ g ∧ W.heap[g]? = some (.cells cur 5 (0, 0)) ∧ bs.length ≤ cap ∧ cap ≤ maxLen ∧ cur.size = cap * 1 ∧ cur.toList.take (bs.length * 1) = Lib.byteCells bs := by
    rcases hown.2 with ⟨_, hz⟩ | ⟨g, cap, cur, hv, r⟩
    · exact absurd hz hl0
    · exact ⟨g, cap, cur, hv, r⟩
  have c1 : W.drew.cell? ⟨sb, 1, none⟩ = some (.slice (some ⟨g, 0, none⟩) bs.length cap) := hr.cell (j := 1) rfl
  have hSD : (Builtin.unsafeSliceData_ #[97] 131 #[.slice (some ⟨g, 0, none⟩) bs.length cap]).run Tryz.prog W.drew = .ok (.pointer (some ⟨g, 0, none⟩)) W.drew :=
    Lib.run_unsafeSliceData_row _ _ _ _ _ _ (by omega)
  have hUS : (Builtin.unsafeString_ #[131, 3] 9 #[.pointer (some ⟨g, 0, none⟩), .int .i64 bs.length]).run Tryz.prog W.drew = .ok (.string ⟨bs.toArray⟩) (W.drew.freeze ⟨g, 0, none⟩ bs.length) := by
    refine Lib.run_unsafeString_row W.drew 131 3 9 5 Tryz.underlying131 bd_cells g cur.size (by have hg' : W.drew.heap[g]? = some (.cells cur 5 (0, 0)) := hg; simp [World.shape?, hg']) bs h0 (by omega) (by unfold maxLen at hcm; omega) ?_
    intro j x hx
    exact hown.cells (g := g) rfl j (.int .u8 x.toNat) (by simp [Lib.byteCells, hx])
  have hbf := Lib.below_freeze (Below.drew (Below.refl B W)) (p := ⟨g, 0, none⟩) hbg bs.length
  have HF : Hid (BKeep sb (.slice (some ⟨g, 0, none⟩) bs.length cap) W (W.drew.freeze ⟨g, 0, none⟩ bs.length) ∧ (W.drew.freeze ⟨g, 0, none⟩ bs.length).heap.size = W.heap.size) := hid' (by
    unfold World.freeze
    split
    · exact ⟨fun _ _ _ _ => rfl, rfl⟩
    · refine ⟨fun k _ _ hk => ?_, by simp⟩
      simp only [Value.ownBlock, ne_eq, Option.some.injEq] at hk
      simp only [Array.getElem?_modify]
      rw [if_neg hk]
      rfl)
  have HB := hid' hbf
  clear h hr hown hg htake hbf hp
  go_enter Tryz.func185, Tryz.ntmps185
  go_wp2
  go_region
  all_goals (go_wp2; go_ret; exact ⟨rfl, HB.out, HF.out.1, HF.out.2⟩)
set_option maxRecDepth 100000 in
set_option maxHeartbeats 2000000 in
theorem bd_string_none {B sb : Nat} {v : Value} {W : World} (h : BV B sb v W []) :
    Calls Tryz.prog 185 #[.pointer (some ⟨sb, 0, none⟩)] W fun e w' => e = .returned (.string ⟨#[]⟩) ∧ Below B W w' ∧ BKeep sb v W w' ∧ w'.heap.size = W.heap.size := by
  obtain ⟨p, hr, hp⟩ := h.ex
  obtain rfl := h.nil rfl
  have c1 : W.drew.cell? ⟨sb, 1, none⟩ = some (.slice none 0 0) := hr.cell (j := 1) rfl
  have hSD : (Builtin.unsafeSliceData_ #[97] 131 #[.slice none 0 0]).run Tryz.prog W.drew = .ok (.pointer none) W.drew := rfl
  have hUS : (Builtin.unsafeString_ #[131, 3] 9 #[.pointer none, .int .i64 0]).run Tryz.prog W.drew = .ok (.string .empty) W.drew := Lib.run_unsafeString_none W.drew _ _ _ none
  clear h hr hp
  go_enter Tryz.func185, Tryz.ntmps185
  go_wp2
  go_region
  all_goals (go_wp2; go_ret; exact ⟨rfl, Below.drew (Below.refl B W), fun _ _ _ _ => rfl, rfl⟩)
/-- What the builder says, be it something or nothing. -/
theorem bd_string_any {B sb : Nat} {v : Value} {W : World} {bs : List UInt8} (h : BV B sb v W bs) :
    Calls Tryz.prog 185 #[.pointer (some ⟨sb, 0, none⟩)] W fun e w' => e = .returned (.string (txt bs)) ∧ Below B W w' ∧ BKeep sb v W w' ∧ w'.heap.size = W.heap.size := by
  by_cases h0 : bs = []
  · subst h0
    exact bd_string_none h
  · exact bd_string h h0
end Go.Proofs.YtpjjofdphlgeiaaGreatDoor
