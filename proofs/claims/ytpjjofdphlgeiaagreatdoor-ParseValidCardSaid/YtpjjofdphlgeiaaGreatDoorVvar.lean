/- Parts of the proof, together. What lex.Name answers. Conditions: short texts; the words lie in their variable. Nodes, kids, rows of flags and of sorts in memory. Conditions: none. -/
import Derived.Deep.QuietTactic
import Derived.BigQuiet
import Derived.Test.YtpjjofdphlgeiaaGreatDoorVvaf
import Derived.Test.YtpjjofdphlgeiaaGreatDoorVvan
namespace Go.Proofs.YtpjjofdphlgeiaaGreatDoor
open Go.RowKit
open Lx

theorem ba_inj {x s : ByteArray} (h : x.data.toList = s.data.toList) : x = s := ByteArray.ext (Array.toList_inj.1 h)

set_option maxRecDepth 10000 in
set_option maxHeartbeats 800000 in
theorem lexName_any (s : ByteArray) (hs : s.size ≤ 1000000) (w : World) (hw : WordsAt w) : Calls Tryz.prog 60 #[.string s] w fun e w' => e = .returned (.bool (nameB s.data.toList)) ∧ w' = w := by
  by_cases he : s = ⟨#[]⟩
  · subst he
    go_enter Tryz.func60, Tryz.ntmps60
    go_wp2
    go_ret
    exact ⟨rfl, rfl⟩
  · have he' : s.toList.isEmpty = false := by
      rw [ByteArray.toList_eq]
      cases h : s.data.toList with
      | nil => exact absurd (ba_inj (s := ⟨#[]⟩) h) he
      | cons a b => rfl
    have hpos : 0 < s.size := by
      rcases Nat.eq_zero_or_pos s.size with h | h
      · exact absurd (ByteArray.ext (Array.eq_empty_of_size_eq_zero h)) he
      · exact h
    have HD := hid' (fun W => isDigit_tells s[0] W)
    have hcons : s.data.toList = s[0] :: s.data.toList.drop 1 := by have := drop_at s 0 hpos; rwa [List.drop_zero] at this
    have hidx : ∀ W, (Instr.index 9 (.string s) (.int .i64 0)).run Tryz.prog W = .ok (.int .u8 (s[0].toNat : Int)) W := fun W => by go_simp
    have hnm : nameB s.data.toList = (!dg s[0] && (lenF nb s.data.toList == s.data.toList.length && !isWord s.data.toList)) := by
      rw [hcons]; rfl
    have hlen : s.data.toList.length = s.size := by rw [Array.length_toList]; rfl
    rw [hnm, hlen]
    generalize s[0] = b at HD hidx
    have HLN := hid' (fun W => length_nb s (by omega) W)
    have HW := hid' (fun W (h : WordsAt W) => isWord_any s W h)
    have HWW := hid' hw
    generalize lenF nb s.data.toList = n at HLN
    generalize isWord s.data.toList = iw at HW
    clear he hcons hnm hlen hw
    cases hd : dg b with
    | true =>
      rw [hd] at HD
      clear hd
      go_enter Tryz.func60, Tryz.ntmps60
      go_wp2_with fail
      refine (HD.out _).mono ?_
      rintro e w1 ⟨rfl, rfl⟩
      go_wp2
      go_ret
      exact ⟨rfl, rfl⟩
    | false =>
      rw [hd] at HD
      clear hd
      by_cases hn : n = s.size
      · have hn' : (n : Int) = (s.size : Int) := by omega
        have HR : Hid ((!false && (n == s.size && !iw)) = !iw) := hid' (by rw [hn]; simp)
        clear hn
        go_enter Tryz.func60, Tryz.ntmps60
        go_wp2_with fail
        refine (HD.out _).mono ?_
        rintro e w1 ⟨rfl, rfl⟩
        go_wp2_with fail
        refine (HLN.out _).mono ?_
        rintro e w2 ⟨rfl, rfl⟩
        go_wp2_with fail
        refine (HW.out _ HWW.out).mono ?_
        rintro e w3 ⟨rfl, rfl⟩
        go_wp2
        go_ret
        exact ⟨ret_bool' HR.out.symm, rfl⟩
      · have hn' : ((n : Int) == (s.size : Int)) = false := by rw [beq_eq_false_iff_ne]; omega
        have HR : Hid ((!false && (n == s.size && !iw)) = false) := hid' (by simp [hn])
        clear hn
        go_enter Tryz.func60, Tryz.ntmps60
        go_wp2_with fail
        refine (HD.out _).mono ?_
        rintro e w1 ⟨rfl, rfl⟩
        go_wp2_with fail
        refine (HLN.out _).mono ?_
        rintro e w2 ⟨rfl, rfl⟩
        go_wp2
        go_ret
        exact ⟨ret_bool' HR.out.symm, rfl⟩
end Go.Proofs.YtpjjofdphlgeiaaGreatDoor

namespace Go.Proofs.YtpjjofdphlgeiaaGreatDoor
open Go.RowKit
open Lx Ax

/-- These numbers are a list's, below block n. -/
def KidsAt (n : Nat) (W : World) (v : Value) (zs : List Int) : Prop := ∃ ao cap, v = .slice ao zs.length cap ∧ (zs.length ≤ cap ∧ zs.length ≤ 1048576) ∧
  (zs = [] ∨ ∃ b o, ao = some ⟨b, o, none⟩ ∧ b < n ∧ ∀ (j : Nat) z, zs[j]? = some z → W.cell? ⟨b, o + j, none⟩ = some (.int .i64 z))
theorem KidsAt.keep {n n' : Nat} {W W' : World} {v : Value} {zs : List Int} (h : KidsAt n W v zs) (hb : Below n W W') (hn : n ≤ n') : KidsAt n' W' v zs := by
  obtain ⟨ao, cap, e, h1, h2⟩ := h
  refine ⟨ao, cap, e, h1, h2.imp id fun ⟨b, o, e1, e2, e3⟩ => ⟨b, o, e1, by omega, fun j z hz => ?_⟩⟩
  rw [hb.cell (p := ⟨b, o + j, none⟩) e2]
  exact e3 j z hz
/-- Node j of the row b. -/
structure NodeAt (n : Nat) (W : World) (b j : Nat) (x : Nd) (v : Value) : Prop where
  op : W.cell? ⟨b, j * 5, none⟩ = some (.int .i64 x.op)
  num : W.cell? ⟨b, j * 5 + 1, none⟩ = some (.int .i64 x.n)
  pos : W.cell? ⟨b, j * 5 + 2, none⟩ = some (.int .i64 x.pos)
  text : W.cell? ⟨b, j * 5 + 3, none⟩ = some (.string x.s)
  kids : W.cell? ⟨b, j * 5 + 4, none⟩ = some v
  list : KidsAt n W v x.kids
theorem NodeAt.keep {n n' : Nat} {W W' : World} {b j : Nat} {x : Nd} {v : Value} (h : NodeAt n W b j x v) (hl : b < n) (hb : Below n W W') (hn : n ≤ n') : NodeAt n' W' b j x v :=
  ⟨(hb.cell (p := ⟨b, j * 5, none⟩) hl).trans h.op, (hb.cell (p := ⟨b, j * 5 + 1, none⟩) hl).trans h.num, (hb.cell (p := ⟨b, j * 5 + 2, none⟩) hl).trans h.pos, (hb.cell (p := ⟨b, j * 5 + 3, none⟩) hl).trans h.text, (hb.cell (p := ⟨b, j * 5 + 4, none⟩) hl).trans h.kids, h.list.keep hb hn⟩
/-- These nodes are a list's, below block n. -/
def NodesAt (n : Nat) (W : World) (ao : Option Addr) (l : List Nd) : Prop := l = [] ∨ ∃ b, ao = some ⟨b, 0, none⟩ ∧ b < n ∧ ∀ (j : Nat) x, l[j]? = some x → ∃ v, NodeAt n W b j x v
theorem NodesAt.keep {n n' : Nat} {W W' : World} {ao : Option Addr} {l : List Nd} (h : NodesAt n W ao l) (hb : Below n W W') (hn : n ≤ n') : NodesAt n' W' ao l :=
  h.imp id fun ⟨b, e1, e2, e3⟩ => ⟨b, e1, by omega, fun j x hx => let ⟨v, hv⟩ := e3 j x hx; ⟨v, hv.keep e2 hb hn⟩⟩
theorem NodesAt.node {n : Nat} {W : World} {ao : Option Addr} {l : List Nd} (h : NodesAt n W ao l) (j : Nat) (hj : j < l.length) : ∃ b v, ao = some ⟨b, 0, none⟩ ∧ b < n ∧ NodeAt n W b j l[j] v := by
  rcases h with h | ⟨b, e1, e2, e3⟩
  · rw [h] at hj; simp at hj
  · obtain ⟨v, hv⟩ := e3 j _ (List.getElem?_eq_getElem hj)
    exact ⟨b, v, e1, e2, hv⟩
/-- A block of the call's own that holds just these. -/
def RowV (W : World) (g : Nat) (t : TypeId) (vs : List Value) : Prop := W.heap[g]? = some (.cells vs.toArray t (0, 0))
theorem RowV.cell {W : World} {g : Nat} {t : TypeId} {vs : List Value} (h : RowV W g t vs) {j : Nat} {v : Value} (hj : vs[j]? = some v) : W.cell? ⟨g, j, none⟩ = some v := by
  rw [cell_of_row W g j _ _ _ h]
  simpa using hj
theorem RowV.open_ {W : World} {g : Nat} {t : TypeId} {vs : List Value} (h : RowV W g t vs) (j : Nat) : W.frozen? ⟨g, j, none⟩ = false := frozen_of_row W g j _ _ h
theorem RowV.set {W : World} {g : Nat} {t : TypeId} {vs : List Value} (h : RowV W g t vs) (j : Nat) (v : Value) : RowV (W.setCell ⟨g, j, none⟩ v) g t (vs.set j v) := by
  unfold RowV
  rw [heap_setCell_same W g j _ _ _ h]
  simp
theorem RowV.lt {W : World} {g : Nat} {t : TypeId} {vs : List Value} (h : RowV W g t vs) : g < W.heap.size := (Array.getElem?_eq_some_iff.1 h).1
theorem RowV.far {W W' : World} {g : Nat} {t : TypeId} {vs : List Value} (h : RowV W g t vs) (e : W'.heap[g]? = W.heap[g]?) : RowV W' g t vs := e.trans h
theorem RowV.apart {W : World} {g g' : Nat} {t t' : TypeId} {vs vs' : List Value} (h : RowV W g t vs) (h' : RowV W g' t' vs') (ht : t ≠ t') : g ≠ g' := by
  rintro rfl
  unfold RowV at h h'
  rw [h] at h'
  injection h' with h'
  injection h' with _ h2 _
  exact ht h2
def flags (T : List Bool) : List Value := T.map Value.bool
def sorts (S : List Int) : List Value := S.map (Value.int .u16)
theorem flags_at {T : List Bool} {j : Nat} {b : Bool} (h : T[j]? = some b) : (flags T)[j]? = some (.bool b) := by
  unfold flags; rw [List.getElem?_map, h]; rfl
theorem flags_set (T : List Bool) (j : Nat) (b : Bool) : (flags T).set j (.bool b) = flags (T.set j b) := by
  unfold flags; rw [List.map_set]
theorem sorts_at {S : List Int} {j : Nat} {b : Int} (h : S[j]? = some b) : (sorts S)[j]? = some (.int .u16 b) := by
  unfold sorts; rw [List.getElem?_map, h]; rfl
theorem sorts_set (S : List Int) (j : Nat) (b : Int) : (sorts S).set j (.int .u16 b) = sorts (S.set j b) := by
  unfold sorts; rw [List.map_set]
/-- But for block g the world is as it was. -/
structure Only (g : Nat) (w w' : World) : Prop where
  os : w'.os = w.os
  tape : w'.tape = w.tape
  output : w'.output = w.output
  size : w'.heap.size = w.heap.size
  block : ∀ k, k ≠ g → w'.heap[k]? = w.heap[k]?
theorem Only.refl (g : Nat) (w : World) : Only g w w := ⟨rfl, rfl, rfl, rfl, fun _ _ => rfl⟩
theorem Only.set {g : Nat} {w w' : World} (h : Only g w w') (j : Nat) (v : Value) : Only g w (w'.setCell ⟨g, j, none⟩ v) :=
  ⟨h.os, h.tape, h.output, by simpa [World.setCell] using h.size, fun k hk => (heap_setCell_other w' ⟨g, j, none⟩ k v hk).trans (h.block k hk)⟩
theorem Only.below {g B : Nat} {w w' : World} (h : Only g w w') (hB : B ≤ g) : Below B w w' := ⟨h.os, h.tape, h.output, by rw [h.size]; exact Nat.le_refl _, fun k hk => h.block k (by omega)⟩
theorem Below.drewN' {B : Nat} {w w' : World} (h : Below B w w') (n : Nat) : Below B w (w'.drewN n) := ⟨h.os, h.tape, h.output, h.size, h.block⟩
theorem made_flags (n : Nat) : madeCells (Value.bool false).cells (n * 1) = (flags (List.replicate n false)).toArray := by
  apply Array.toList_inj.1
  show (madeCells #[Value.bool false] (n * 1)).toList = _
  rw [toList_madeCells_one, Nat.mul_one]
  simp [flags]
theorem made_sorts (n : Nat) : madeCells (Value.int .u16 0).cells (n * 1) = (sorts (List.replicate n 0)).toArray := by
  apply Array.toList_inj.1
  show (madeCells #[Value.int .u16 0] (n * 1)).toList = _
  rw [toList_madeCells_one, Nat.mul_one]
  simp [sorts]
def nums (S : List Int) : List Value := S.map (Value.int .i64)
theorem nums_at {S : List Int} {j : Nat} {b : Int} (h : S[j]? = some b) : (nums S)[j]? = some (.int .i64 b) := by
  unfold nums; rw [List.getElem?_map, h]; rfl
theorem nums_set (S : List Int) (j : Nat) (b : Int) : (nums S).set j (.int .i64 b) = nums (S.set j b) := by
  unfold nums; rw [List.map_set]
theorem made_nums (n : Nat) : madeCells (Value.int .i64 0).cells (n * 1) = (nums (List.replicate n 0)).toArray := by
  apply Array.toList_inj.1
  show (madeCells #[Value.int .i64 0] (n * 1)).toList = _
  rw [toList_madeCells_one, Nat.mul_one]
  simp [nums]
theorem info_flag : (Tryz.prog.info? 4).map (fun i => (i.zero, i.size, i.bytes)) = some (some (.bool false), 1, 1) := by kernel_rfl
theorem info_num : (Tryz.prog.info? 3).map (fun i => (i.zero, i.size, i.bytes)) = some (some (.int .i64 0), 1, 8) := by kernel_rfl
theorem info_sort : (Tryz.prog.info? 81).map (fun i => (i.zero, i.size, i.bytes)) = some (some (.int .u16 0), 1, 2) := by kernel_rfl
theorem make_flags (n : Nat) (hn : n ≤ 1048576) (W : World) : (Instr.makeSlice 48 (.int .i64 (n : Int)) (.int .i64 (n : Int))).run Tryz.prog W = .ok (.slice (some ⟨W.heap.size, 0, none⟩) n n) (W.alloc (.cells (flags (List.replicate n false)).toArray 4)) := by
  obtain ⟨i0, hi, hz0, hz1, hz2⟩ := info_parts info_flag
  rw [run_make (P := Tryz.prog) W 48 4 i0 (.bool false) Tryz.underlying48 hi hz0 .i64 .i64 (n : Int) (n : Int) (by omega) (by omega) (by rw [hz2]; omega) (by omega), hz1, Int.toNat_natCast, made_flags]
theorem make_sorts (n : Nat) (hn : n ≤ 1048576) (W : World) : (Instr.makeSlice 49 (.int .i64 (n : Int)) (.int .i64 (n : Int))).run Tryz.prog W = .ok (.slice (some ⟨W.heap.size, 0, none⟩) n n) (W.alloc (.cells (sorts (List.replicate n 0)).toArray 81)) := by
  obtain ⟨i0, hi, hz0, hz1, hz2⟩ := info_parts info_sort
  rw [run_make (P := Tryz.prog) W 49 81 i0 (.int .u16 0) Tryz.underlying49 hi hz0 .i64 .i64 (n : Int) (n : Int) (by omega) (by omega) (by rw [hz2]; omega) (by omega), hz1, Int.toNat_natCast, made_sorts]
theorem make_nums (n : Nat) (hn : n ≤ 1048576) (W : World) : (Instr.makeSlice 30 (.int .i64 (n : Int)) (.int .i64 (n : Int))).run Tryz.prog W = .ok (.slice (some ⟨W.heap.size, 0, none⟩) n n) (W.alloc (.cells (nums (List.replicate n 0)).toArray 3)) := by
  obtain ⟨i0, hi, hz0, hz1, hz2⟩ := info_parts info_num
  rw [run_make (P := Tryz.prog) W 30 3 i0 (.int .i64 0) Tryz.underlying30 hi hz0 .i64 .i64 (n : Int) (n : Int) (by omega) (by omega) (by rw [hz2]; omega) (by omega), hz1, Int.toNat_natCast, made_nums]
theorem row_new (W : World) (t : TypeId) (vs : List Value) : RowV (W.alloc (.cells vs.toArray t)) W.heap.size t vs := heap_alloc_new W _
end Go.Proofs.YtpjjofdphlgeiaaGreatDoor
