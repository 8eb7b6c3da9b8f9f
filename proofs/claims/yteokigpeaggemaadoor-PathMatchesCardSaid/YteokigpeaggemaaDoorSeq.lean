/- What strings.SplitSeq hands on at a stroke: the parts of the text, in order. Conditions: a text of fewer than 2^32 bytes. -/
import Derived.Test.YteokigpeaggemaaDoorRange
import Derived.Test.YteokigpeaggemaaDoorPartB
import Derived.Shelf.Abstract
import Derived.Shelf.RegionOpen
import Derived.OwnWalkIn
import Derived.TacticsInMore
import Derived.LoopNIn
import Derived.LoopIn
namespace Go.Proofs.YteokigpeaggemaaDoor
open Go.RowKit Go.Shelf
attribute [local go_sem] Oper.semAt_some

def texts (l : List UInt8) : List ByteArray := (Pth.parts l).map fun p => ⟨p.toArray⟩
theorem texts_miss (s : ByteArray) (h : Lib.indexByte s.data.toList 47 = -1) : texts s.data.toList = [s] := by
  unfold texts; rw [Pth.parts_miss _ h]; rfl
theorem texts_hit (s : ByteArray) (i : Nat) (h : Lib.indexByte s.data.toList 47 = i) : texts s.data.toList = s.extract 0 i :: texts (s.extract (i + 1) s.size).data.toList := by
  unfold texts
  rw [Pth.parts_hit _ i h, List.map_cons, Lib.extract_to_end, Lib.extract_eq]
  simp

set_option maxHeartbeats 400000 in
theorem splitSeq_any (s t : ByteArray) (k : Int) (w : World) :
    Calls Tryd.prog 58 #[.string s, .string t, .int .i64 k] w fun e w' =>
      e = .returned (.func (.func 79) #[] #[.pointer (some ⟨w.heap.size + 1, 0, none⟩), .pointer (some ⟨w.heap.size, 0, none⟩), .pointer (some ⟨w.heap.size + 2, 0, none⟩)]) ∧
      w' = ((w.alloc (.cells #[.string s] 9)).alloc (.cells #[.string t] 9)).alloc (.cells #[.int .i64 k] 3) := by
  go_enter Tryd.func58, Tryd.ntmps58
  go_wp2
  go_ret
  exact ⟨rfl, rfl⟩
set_option maxHeartbeats 400000 in
theorem SplitSeq_any (s t : ByteArray) (w : World) :
    Calls Tryd.prog 34 #[.string s, .string t] w fun e w' =>
      e = .returned (.func (.func 79) #[] #[.pointer (some ⟨w.heap.size + 1, 0, none⟩), .pointer (some ⟨w.heap.size, 0, none⟩), .pointer (some ⟨w.heap.size + 2, 0, none⟩)]) ∧
      w' = ((w.alloc (.cells #[.string s] 9)).alloc (.cells #[.string t] 9)).alloc (.cells #[.int .i64 0] 3) := by
  go_enter Tryd.func34, Tryd.ntmps34
  go_wp2_with (go_at_call 58; refine (splitSeq_any _ _ _ _).mono ?_; rintro e w' ⟨rfl, rfl⟩)
  go_ret
  exact ⟨rfl, rfl⟩

/-- How much text the variable still holds. -/
def leftOf (B : Nat) (W : World) : Nat := match W.cell? ⟨B, 0, none⟩ with
  | some (.string r) => r.size
  | _ => 0
/-- What holds between two rounds. -/
def seqRel (B : Nat) (s : ByteArray) (J : List ByteArray → World → Prop) (wr : World) : Prop :=
  ∃ (pre : List ByteArray) (rest : ByteArray), wr.cell? ⟨B, 0, none⟩ = some (.string rest) ∧ wr.frozen? ⟨B, 0, none⟩ = false ∧ wr.cell? ⟨B + 1, 0, none⟩ = some (.string ⟨#[47]⟩) ∧ wr.cell? ⟨B + 2, 0, none⟩ = some (.int .i64 0) ∧
    texts s.data.toList = pre ++ texts rest.data.toList ∧ rest.size ≤ s.size ∧ J pre wr

set_option maxRecDepth 100000 in
set_option maxHeartbeats 2000000 in
theorem splitSeq1_in (m : Nat) (B l : Nat) (s : ByteArray) (hs : s.size < 4294967281) (J Jx : List ByteArray → World → Prop) (W : World)
    (hJs : ∀ s W v, J s W → J s (W.setCell ⟨B, 0, none⟩ v))
    (hY : ∀ pre x W1, J pre W1 → (pre ++ [x]) <+: texts s.data.toList → YieldAt Fence.wide (m - 1) Tryd.prog l #[.string x] W1 fun e W' =>
      (e = .returned (.bool true) ∧ J (pre ++ [x]) W' ∧ Rng.Same B (B + 3) W1 W') ∨ (e = .returned (.bool false) ∧ Jx (pre ++ [x]) W'))
    (h0 : seqRel B s J W) :
    CallsIn Fence.wide m Tryd.prog 79 #[.func (.yield l) #[] #[], .pointer (some ⟨B + 1, 0, none⟩), .pointer (some ⟨B, 0, none⟩), .pointer (some ⟨B + 2, 0, none⟩)] W fun e W' => (∃ v, e = .returned v) ∧ (J (texts s.data.toList) W' ∨ ∃ pre, pre <+: texts s.data.toList ∧ Jx pre W') := by
  have hd : W.cell? ⟨B + 1, 0, none⟩ = some (.string ⟨#[47]⟩) := by obtain ⟨_, _, _, _, h, _⟩ := h0; exact h
  refine callsIn_of_wp Tryd.func79 rfl trivial ?_ rfl
  simp only [Tryd.ntmps79, List.size_toArray, List.length_cons, List.length_nil, Nat.reduceAdd, Nat.reduceSub, Array.replicate_succ, Array.replicate_zero, List.push_toArray, List.append_toArray, List.nil_append, List.cons_append]
  gi_wp2
  gi_loopw [7] (fun _ wr => seqRel B s J wr) (fun _ wr => leftOf B wr)
  case atStart => exact h0
  case round =>
    obtain ⟨pre, rest, hc, hf, hc1, hc2, htx, hle, hJ⟩ := hrel
    clear hd h0
    have Htx := Lib.hid htx
    clear htx
    by_cases hi : Lib.indexByte rest.data.toList 47 = -1
    · have Hlast : Hid (texts s.data.toList = pre ++ [rest]) := Lib.hid (by rw [Htx.out, texts_miss rest hi])
      obtain ⟨fn, tmps, assign, body, hy, hR⟩ := hY pre rest wr hJ (by rw [Hlast.out]; exact List.prefix_refl _)
      gi_wp2_with (refine ⟨trivial, (fun h => by simp [Fence.wide] at h), ?_⟩; gi_at_call 81; refine (callsIn_wide.2 (Tryd.strings_Index_one _ _ _)).mono ?_; rintro e w' ⟨rfl, rfl⟩)
      refine ⟨(fun h => by simp [Fence.wide] at h), hR.mono ?_⟩
      rintro e W3 (⟨rfl, hJ3, hk3⟩ | ⟨rfl, hJx3⟩)
      · gi_wp2
        go_end0
        exact ⟨⟨_, rfl⟩, .inl (by rw [Hlast.out]; exact hJ3)⟩
      · gi_wp2
        go_end0
        exact ⟨⟨_, rfl⟩, .inr ⟨_, by rw [Hlast.out]; exact List.prefix_refl _, hJx3⟩⟩
    · have hg := Lib.indexByte_ge rest.data.toList 47
      obtain ⟨i, hin⟩ : ∃ i : Nat, Lib.indexByte rest.data.toList 47 = i := ⟨(Lib.indexByte rest.data.toList 47).toNat, by omega⟩
      have hlt := Pth.hit_lt _ i hin
      rw [← Lib.size_eq] at hlt
      have Hnext : Hid (texts s.data.toList = (pre ++ [rest.extract 0 i]) ++ texts (rest.extract (i + 1) rest.size).data.toList) := Lib.hid (by rw [Htx.out, texts_hit rest i hin]; simp)
      clear hi hg
      obtain ⟨fn, tmps, assign, body, hy, hR⟩ := hY pre (rest.extract 0 i) wr hJ (by rw [Hnext.out]; exact List.prefix_append _ _)
      gi_wp2_with (refine ⟨trivial, (fun h => by simp [Fence.wide] at h), ?_⟩; gi_at_call 81; refine (callsIn_wide.2 (Tryd.strings_Index_one _ _ _)).mono ?_; rintro e w' ⟨rfl, rfl⟩)
      refine ⟨(fun h => by simp [Fence.wide] at h), hR.mono ?_⟩
      rintro e W3 (⟨rfl, hJ3, hk3⟩ | ⟨rfl, hJx3⟩)
      · have hc' := (hk3.cell B 0 (Nat.le_refl _) (by omega)).trans hc
        have hf' := (hk3.frozen B 0 (Nat.le_refl _) (by omega)).trans hf
        have hc1' := (hk3.cell (B + 1) 0 (by omega) (by omega)).trans hc1
        have hc2' := (hk3.cell (B + 2) 0 (by omega) (by omega)).trans hc2
        gi_wp2
        go_roundw
        case rel =>
          refine ⟨pre ++ [rest.extract 0 i], rest.extract (i + 1) rest.size, World.cell?_setCell_same' _ _ _ (by rw [hc']; rfl), by rw [World.frozen?_setCell]; exact hf', ?_, ?_, Hnext.out, by rw [ByteArray.size_extract]; omega, hJs _ _ _ hJ3⟩
          · rw [World.cell?_setCell_other _ _ _ _ (by simp)]; exact hc1'
          · rw [World.cell?_setCell_other _ _ _ _ (by simp)]; exact hc2'
        case measure =>
          unfold leftOf
          rw [World.cell?_setCell_same' _ _ _ (by rw [hc']; rfl), hc]
          show (rest.extract (i + 1) rest.size).size < rest.size
          rw [ByteArray.size_extract]; omega
      · gi_wp2
        refine bodyPost_ret (results_none rfl _ _ _) rfl ?_
        exact ⟨⟨_, rfl⟩, .inr ⟨pre ++ [rest.extract 0 i], by rw [Hnext.out]; exact List.prefix_append _ _, hJx3⟩⟩

theorem splitSeq_gives (m : Nat) (s : ByteArray) (hs : s.size < 4294967281) (w : World) :
    Rng.Gives Tryd.prog m 79 #[.pointer (some ⟨w.heap.size + 1, 0, none⟩), .pointer (some ⟨w.heap.size, 0, none⟩), .pointer (some ⟨w.heap.size + 2, 0, none⟩)] w.heap.size (w.heap.size + 3) (texts s.data.toList)
      (((w.alloc (.cells #[.string s] 9)).alloc (.cells #[.string ⟨#[47]⟩] 9)).alloc (.cells #[.int .i64 0] 3)) := by
  intro l J Jx W hW hJs hY h0
  have b1 := ((Boxed.new w 9 (.string s)).alloc (.cells #[.string ⟨#[47]⟩] 9)).alloc (.cells #[.int .i64 0] 3)
  have b2 := (Boxed.new (w.alloc (.cells #[.string s] 9)) 9 (.string ⟨#[47]⟩)).alloc (.cells #[.int .i64 0] 3)
  have b3 := Boxed.new ((w.alloc (.cells #[.string s] 9)).alloc (.cells #[.string ⟨#[47]⟩] 9)) 3 (.int .i64 0)
  simp only [World.size_alloc] at b2 b3 hW
  exact splitSeq1_in m w.heap.size l s hs J Jx W hJs hY
    ⟨[], s, (hW.cell (p := ⟨w.heap.size, 0, none⟩) (by simp; omega)).trans b1.cell, (hW.frozen (p := ⟨w.heap.size, 0, none⟩) (by simp; omega)).trans b1.frozen, (hW.cell (p := ⟨w.heap.size + 1, 0, none⟩) (by simp)).trans b2.cell,
      (hW.cell (p := ⟨w.heap.size + 2, 0, none⟩) (by simp)).trans b3.cell, rfl, Nat.le_refl _, h0⟩

end Go.Proofs.YteokigpeaggemaaDoor
