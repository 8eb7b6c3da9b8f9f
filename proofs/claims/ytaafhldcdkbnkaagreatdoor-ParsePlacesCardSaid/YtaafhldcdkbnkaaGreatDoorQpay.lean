/- Parts of the proof, together. What bracket makes of a scanner. Conditions: its blocks lie from block B on; short texts. -/
import Derived.Test.YtaafhldcdkbnkaaGreatDoorQpaw
import Derived.Test.YtaafhldcdkbnkaaGreatDoorQpax
namespace Go.Proofs.YtaafhldcdkbnkaaGreatDoor
open Go.RowKit
open Lx

/-- An append of one closing bracket in a drawn region. -/
theorem opn_drawn {ops : Array Oper} {o : Oper} {a : Act} {K : Act → World → Prop} {Q : Exit → Act → World → Prop} {E : Prop} {W : World} {B sb : Nat} {T : ByteArray} {p : Nat} {st : St} {vt vb vo : Value} (h : ScanV W B sb T p st vt vb vo) (b : UInt8) (hl : st.op.length < 1000000) (hgd : o.guard = none) (x y : Operand)
    (ho : o.op = .call { callee := .builtin .append, args := #[x, y], argTypes := #[97, 97] }) (hx : a.eval x = vo) (hy : a.eval y = .slice (some ⟨W.heap.size, 0, none⟩) 1 1)
    (hK : ∀ g cap w', w'.cell? ⟨sb, 4, none⟩ = some vo → w'.frozen? ⟨sb, 4, none⟩ = false → ScanV (w'.setCell ⟨sb, 4, none⟩ (.slice (some ⟨g, 0, none⟩) (st.op.length + 1) cap)) B sb T p { st with op := b :: st.op } vt vb (.slice (some ⟨g, 0, none⟩) (st.op.length + 1) cap) →
      Below B W (w'.setCell ⟨sb, 4, none⟩ (.slice (some ⟨g, 0, none⟩) (st.op.length + 1) cap)) → K (a.put o.dst (.slice (some ⟨g, 0, none⟩) (st.op.length + 1) cap)) w') :
    if Region.wanted o (yielded ops a.tmps) = true then Oper.wp Tryz.prog o a (W.alloc (.cells #[.int .u8 (b.toNat : Int)] 5)) K Q else E := by
  rw [if_pos (by simp [Region.wanted, hgd])]
  obtain ⟨i0, hi, hz, hz1, hz2⟩ := info_parts info_u8
  have hB : B ≤ W.heap.size := by have := h.high; have := h.lt; omega
  obtain ⟨u, w', hr, h1, h2, _, h4⟩ := run_append_own_at (P := Tryz.prog) (W.alloc (.cells #[.int .u8 (b.toNat : Int)] 5)) B 97 o.type 5 i0 _ 1 1 Tryz.underlying97 hi hz hz1 hz2 rfl (by decide) vo st.op.length (st.op.reverse.map bv)
    (h.opn.alloc _) ⟨W.heap.size, 0, none⟩ 1 1 [bv b] rfl (cell_one_new W _ _) (fun u hu => by simp at hu; subst hu; rfl) (by unfold maxLen; omega) (by omega) (by simp; omega)
  have hb : ∀ j, j < W.heap.size → vo.ownBlock ≠ some j → w'.heap[j]? = W.heap[j]? := fun j hj hne => (h2.block j (by simp; omega) (Ne.symm hne)).trans (Below.heap_alloc W _ j hj)
  obtain ⟨p1, p2, p3⟩ := h.setOpn (l := b :: st.op) (by rw [List.length_cons, List.reverse_cons, List.map_append]; exact h1) hb
  obtain ⟨g, cap, e, _⟩ := own_some p3.opn (by simp)
  rw [List.length_cons] at e
  subst e
  unfold Oper.wp execOp
  simp only [ho, resolve, invoke, builtin, Sem.run_bind, Sem.run_pure, Result.andThen_ok, List.map_toArray, List.map_cons, List.map_nil, hx, hy, hr]
  refine hK g cap w' p1 p2 p3 ?_
  refine Below.setCell ?_ (by simp only; exact h.high) _
  exact ((Below.refl B W).alloc hB _).grown h2 (by simp; omega) fun j hj => (h.opn.lt j hj).1
theorem opn_cut {W : World} {B sb : Nat} {T : ByteArray} {p : Nat} {st : St} {vt vb : Value} {g n cap : Nat} (h : ScanV W B sb T p st vt vb (.slice (some ⟨g, 0, none⟩) n cap)) (t : UInt8) (r : List UInt8) (hb : st.op = t :: r) (hn : n = r.length + 1) :
    ScanV (W.setCell ⟨sb, 4, none⟩ (.slice (some ⟨g, 0, none⟩) r.length cap)) B sb T p { st with op := r } vt vb (.slice (some ⟨g, 0, none⟩) r.length cap) := by
  have h1 := h.opn
  rw [hb] at h1
  subst hn
  have h2 := own_less (m := r.length) h1 (by omega)
  refine (h.setOpn (W' := W) (l := r) ?_ (fun _ _ _ => rfl)).2.2
  rw [List.reverse_cons, List.map_append, List.take_append_of_le_length (by simp), List.take_of_length_le (by simp)] at h2
  exact h2
theorem opening_none (b : UInt8) : ¬ (b = 40 ∨ b = 91 ∨ b = 123) → Lib.indexByte [40, 91, 123] b = -1 :=
  all_u8 (P := fun b => ¬ (b = 40 ∨ b = 91 ∨ b = 123) → Lib.indexByte [40, 91, 123] b = -1) (by decide +kernel) b
theorem closing_none (b : UInt8) : ¬ (b = 41 ∨ b = 93 ∨ b = 125) → Lib.indexByte [41, 93, 125] b = -1 :=
  all_u8 (P := fun b => ¬ (b = 41 ∨ b = 93 ∨ b = 125) → Lib.indexByte [41, 93, 125] b = -1) (by decide +kernel) b
theorem back_u8 (b : UInt8) : ((b.toNat : Int).toNat).toUInt8 = b := by simp
theorem idx_any (s : ByteArray) (b : UInt8) (w : World) : Calls Tryz.prog 158 #[.string s, .int .u8 (b.toNat : Int)] w fun e w' => e = .returned (.int .i64 (Lib.indexByte s.data.toList b)) ∧ w' = w := by
  have h := Tryz.strings_IndexByte s (b.toNat : Int) w
  rwa [back_u8] at h
section
variable {W : World} {B sb : Nat} {T : ByteArray} {p : Nat} {st : St}
set_option maxRecDepth 10000 in
set_option maxHeartbeats 1600000 in
theorem brk_open (h : ScanAt W B sb T p st) (hl : st.op.length ≤ 60) (b c : UInt8) (hbc : (b = 40 ∧ c = 41) ∨ (b = 91 ∧ c = 93) ∨ (b = 123 ∧ c = 125)) :
    Calls Tryz.prog 144 #[.pointer (some ⟨sb, 0, none⟩), .int .u8 (b.toNat : Int)] W fun e w' => e = .returned (.bool (decide (st.op.length < 60))) ∧ ScanAt w' B sb T p { st with op := c :: st.op } ∧ Below B W w' := by
  obtain ⟨vt, vb, vo, D⟩ := h
  obtain ⟨c0, c1, c2, c3, c4⟩ := D.cells
  obtain ⟨ao, cap, e, _⟩ := own_form D.opn
  have HV := hid' e
  rw [e] at c4
  have hlt := D.lt
  have HS := hid' D
  have hnw := World.new_ne W _ c1
  have f4 := D.open_ 4
  have HI := hid' (idx_any ⟨#[40, 91, 123]⟩ b)
  obtain ⟨r, hr⟩ : ∃ r, decide (st.op.length < 60) = r := ⟨_, rfl⟩
  rw [hr]
  have hr2 : decide ((st.op.length : Int) + 1 ≤ 60) = r := by rw [← hr]; congr 1; rw [eq_iff_iff]; omega
  have HR := hid' hr2
  clear D e c0 c1 c2 c3 hr hr2
  rcases hbc with ⟨rfl, rfl⟩ | ⟨rfl, rfl⟩ | ⟨rfl, rfl⟩
  · have HI' : Hid (∀ w, Calls Tryz.prog 158 #[.string ⟨#[40, 91, 123]⟩, .int .u8 40] w fun e w' => e = .returned (.int .i64 0) ∧ w' = w) := hid' (fun w => (HI.out w).mono fun e w' ⟨h1, h2⟩ => ⟨h1.trans (ret_i (by decide)), h2⟩)
    clear HI
    go_enter Tryz.func144, Tryz.ntmps144
    go_wp2_with fail
    refine (HI'.out _).mono ?_
    rintro e w1 ⟨rfl, rfl⟩
    go_wp2_with fail
    go_region_law (refine opn_drawn (W := w1.drew) (HS.out.keep fun _ _ _ => rfl) 41 (by show st.op.length < _; omega) rfl (.tmp 15) (.tmp 18) (by rfl) (by first | exact HV.out.symm | (simp [Act.eval]; exact HV.out.symm)) (by first | rfl | simp [Act.eval]) ?_; intro g2 c2 w9 p1 p2 p3 p4; have HP3 := hid' p3; have HP4 := hid' p4; clear p3 p4)
    all_goals (
      obtain ⟨d0, d1, d2, d3, d4⟩ := HP3.out.cells
      have HBB : Hid (Below B w1 (w9.setCell ⟨sb, 4, none⟩ (.slice (some ⟨g2, 0, none⟩) (st.op.length + 1) c2))) := hid' ⟨HP4.out.os, HP4.out.tape, HP4.out.output, HP4.out.size, HP4.out.block⟩
      clear HP4 d0 d1 d2 d3 p1
      go_wp2
      go_ret
      exact ⟨ret_bool' HR.out, ⟨_, _, _, HP3.out⟩, HBB.out⟩)
  · have HI' : Hid (∀ w, Calls Tryz.prog 158 #[.string ⟨#[40, 91, 123]⟩, .int .u8 91] w fun e w' => e = .returned (.int .i64 1) ∧ w' = w) := hid' (fun w => (HI.out w).mono fun e w' ⟨h1, h2⟩ => ⟨h1.trans (ret_i (by decide)), h2⟩)
    clear HI
    go_enter Tryz.func144, Tryz.ntmps144
    go_wp2_with fail
    refine (HI'.out _).mono ?_
    rintro e w1 ⟨rfl, rfl⟩
    go_wp2_with fail
    go_region_law (refine opn_drawn (W := w1.drew) (HS.out.keep fun _ _ _ => rfl) 93 (by show st.op.length < _; omega) rfl (.tmp 15) (.tmp 18) (by rfl) (by first | exact HV.out.symm | (simp [Act.eval]; exact HV.out.symm)) (by first | rfl | simp [Act.eval]) ?_; intro g2 c2 w9 p1 p2 p3 p4; have HP3 := hid' p3; have HP4 := hid' p4; clear p3 p4)
    all_goals (
      obtain ⟨d0, d1, d2, d3, d4⟩ := HP3.out.cells
      have HBB : Hid (Below B w1 (w9.setCell ⟨sb, 4, none⟩ (.slice (some ⟨g2, 0, none⟩) (st.op.length + 1) c2))) := hid' ⟨HP4.out.os, HP4.out.tape, HP4.out.output, HP4.out.size, HP4.out.block⟩
      clear HP4 d0 d1 d2 d3 p1
      go_wp2
      go_ret
      exact ⟨ret_bool' HR.out, ⟨_, _, _, HP3.out⟩, HBB.out⟩)
  · have HI' : Hid (∀ w, Calls Tryz.prog 158 #[.string ⟨#[40, 91, 123]⟩, .int .u8 123] w fun e w' => e = .returned (.int .i64 2) ∧ w' = w) := hid' (fun w => (HI.out w).mono fun e w' ⟨h1, h2⟩ => ⟨h1.trans (ret_i (by decide)), h2⟩)
    clear HI
    go_enter Tryz.func144, Tryz.ntmps144
    go_wp2_with fail
    refine (HI'.out _).mono ?_
    rintro e w1 ⟨rfl, rfl⟩
    go_wp2_with fail
    go_region_law (refine opn_drawn (W := w1.drew) (HS.out.keep fun _ _ _ => rfl) 125 (by show st.op.length < _; omega) rfl (.tmp 15) (.tmp 18) (by rfl) (by first | exact HV.out.symm | (simp [Act.eval]; exact HV.out.symm)) (by first | rfl | simp [Act.eval]) ?_; intro g2 c2 w9 p1 p2 p3 p4; have HP3 := hid' p3; have HP4 := hid' p4; clear p3 p4)
    all_goals (
      obtain ⟨d0, d1, d2, d3, d4⟩ := HP3.out.cells
      have HBB : Hid (Below B w1 (w9.setCell ⟨sb, 4, none⟩ (.slice (some ⟨g2, 0, none⟩) (st.op.length + 1) c2))) := hid' ⟨HP4.out.os, HP4.out.tape, HP4.out.output, HP4.out.size, HP4.out.block⟩
      clear HP4 d0 d1 d2 d3 p1
      go_wp2
      go_ret
      exact ⟨ret_bool' HR.out, ⟨_, _, _, HP3.out⟩, HBB.out⟩)
set_option maxRecDepth 10000 in
set_option maxHeartbeats 1600000 in
theorem brk_other (b : UInt8) (h1 : ¬ (b = 40 ∨ b = 91 ∨ b = 123)) (h2 : ¬ (b = 41 ∨ b = 93 ∨ b = 125)) (W : World) :
    Calls Tryz.prog 144 #[.pointer (some ⟨sb, 0, none⟩), .int .u8 (b.toNat : Int)] W fun e w' => e = .returned (.bool true) ∧ w' = W := by
  have e1 := opening_none b h1
  have e2 := closing_none b h2
  have H1 : Hid (∀ w, Calls Tryz.prog 158 #[.string ⟨#[40, 91, 123]⟩, .int .u8 (b.toNat : Int)] w fun e w' => e = .returned (.int .i64 (-1)) ∧ w' = w) := hid' (fun w => (idx_any ⟨#[40, 91, 123]⟩ b w).mono fun e w' ⟨h1, h2⟩ => ⟨h1.trans (ret_i e1), h2⟩)
  have H2 : Hid (∀ w, Calls Tryz.prog 158 #[.string ⟨#[41, 93, 125]⟩, .int .u8 (b.toNat : Int)] w fun e w' => e = .returned (.int .i64 (-1)) ∧ w' = w) := hid' (fun w => (idx_any ⟨#[41, 93, 125]⟩ b w).mono fun e w' ⟨h1, h2⟩ => ⟨h1.trans (ret_i e2), h2⟩)
  clear e1 e2 h1 h2
  go_enter Tryz.func144, Tryz.ntmps144
  go_wp2_with fail
  refine (H1.out _).mono ?_
  rintro e w1 ⟨rfl, rfl⟩
  go_wp2_with fail
  refine (H2.out _).mono ?_
  rintro e w1 ⟨rfl, rfl⟩
  go_wp2
  go_ret
  exact ⟨rfl, rfl⟩
/-- What a closing bracket finds. -/
def closeOK (b : UInt8) : List UInt8 → Bool
  | [] => false
  | t :: _ => t == b
set_option maxRecDepth 10000 in
set_option maxHeartbeats 3200000 in
theorem brk_close (h : ScanAt W B sb T p st) (hl : st.op.length ≤ 100) (b : UInt8) (hbc : b = 41 ∨ b = 93 ∨ b = 125) :
    Calls Tryz.prog 144 #[.pointer (some ⟨sb, 0, none⟩), .int .u8 (b.toNat : Int)] W fun e w' => e = .returned (.bool (closeOK b st.op)) ∧ ScanAt w' B sb T p { st with op := if closeOK b st.op then st.op.tail else st.op } ∧ Below B W w' := by
  obtain ⟨vt, vb, vo, D⟩ := h
  obtain ⟨z, hz1, hz2⟩ : ∃ z : Int, 0 ≤ z ∧ Lib.indexByte [41, 93, 125] b = z := by
    rcases hbc with rfl | rfl | rfl
    · exact ⟨0, by decide, by decide⟩
    · exact ⟨1, by decide, by decide⟩
    · exact ⟨2, by decide, by decide⟩
  have e1 := opening_none b (by rcases hbc with rfl | rfl | rfl <;> decide)
  have H1 : Hid (∀ w, Calls Tryz.prog 158 #[.string ⟨#[40, 91, 123]⟩, .int .u8 (b.toNat : Int)] w fun e w' => e = .returned (.int .i64 (-1)) ∧ w' = w) := hid' (fun w => (idx_any ⟨#[40, 91, 123]⟩ b w).mono fun e w' ⟨h1, h2⟩ => ⟨h1.trans (ret_i e1), h2⟩)
  have H2 : Hid (∀ w, Calls Tryz.prog 158 #[.string ⟨#[41, 93, 125]⟩, .int .u8 (b.toNat : Int)] w fun e w' => e = .returned (.int .i64 z) ∧ w' = w) := hid' (fun w => (idx_any ⟨#[41, 93, 125]⟩ b w).mono fun e w' ⟨h1, h2⟩ => ⟨h1.trans (ret_i hz2), h2⟩)
  have hz' : ¬ z < 0 := by omega
  clear e1 hz2 hbc
  obtain ⟨c0, c1, c2, c3, c4⟩ := D.cells
  cases hop : st.op with
  | nil =>
    obtain ⟨ao, cap, e, _⟩ := own_form D.opn
    rw [hop] at e
    rw [e] at c4
    have HS := hid' D
    have hst : { st with op := if closeOK b [] then List.tail ([] : List UInt8) else [] } = st := by
      show ({ st with op := [] } : St) = st
      rw [← hop]
    rw [hst]
    clear D e c0 c1 c2 c3 hst
    go_enter Tryz.func144, Tryz.ntmps144
    go_wp2_with fail
    refine (H1.out _).mono ?_
    rintro e w1 ⟨rfl, rfl⟩
    go_wp2_with fail
    refine (H2.out _).mono ?_
    rintro e w1 ⟨rfl, rfl⟩
    go_wp2
    go_ret
    exact ⟨rfl, ⟨_, _, _, HS.out⟩, Below.refl _ _⟩
  | cons t r =>
    have hso := D.opn
    rw [hop] at hso
    obtain ⟨g, cap, e, hcap, _, _, hx⟩ := own_some hso (by simp)
    have hlast := hx r.length (bv t) (by simp)
    rw [List.length_cons] at e hcap
    subst e
    unfold bv at hlast
    have hrl : r.length ≤ 100 := by rw [hop] at hl; simp at hl; omega
    have D3 := opn_cut D t r hop rfl
    have hbt := byte_eq t b
    have f4 := D.open_ 4
    have hsl := slice_to8 (some ⟨g, 0, none⟩) (r.length + 1) r.length cap (by omega)
    have HD3 := hid' D3
    have HB3 : Hid (Below B W (W.setCell ⟨sb, 4, none⟩ (.slice (some ⟨g, 0, none⟩) r.length cap))) := hid' (Below.setCell (Below.refl B W) (p := ⟨sb, 4, none⟩) (by simp only; exact D.high) _)
    have HS := hid' D
    clear D D3 hx hso c0 c1 c2 c3
    simp only [closeOK, List.tail_cons]
    rcases Bool.eq_false_or_eq_true (t == b) with e | e
    · simp only [e, if_true]
      have hne : ((t.toNat : Int) != (b.toNat : Int)) = false := by rw [bne, ← hbt, e]; rfl
      clear hbt e
      go_enter Tryz.func144, Tryz.ntmps144
      go_wp2_with fail
      refine (H1.out _).mono ?_
      rintro e w1 ⟨rfl, rfl⟩
      go_wp2_with fail
      refine (H2.out _).mono ?_
      rintro e w1 ⟨rfl, rfl⟩
      go_wp2
      go_ret
      exact ⟨rfl, ⟨_, _, _, HD3.out⟩, HB3.out⟩
    · simp only [e, Bool.false_eq_true, if_false]
      have hne : ((t.toNat : Int) != (b.toNat : Int)) = true := by rw [bne, ← hbt, e]; rfl
      clear hbt e
      go_enter Tryz.func144, Tryz.ntmps144
      go_wp2_with fail
      refine (H1.out _).mono ?_
      rintro e w1 ⟨rfl, rfl⟩
      go_wp2_with fail
      refine (H2.out _).mono ?_
      rintro e w1 ⟨rfl, rfl⟩
      go_wp2
      go_ret
      exact ⟨rfl, ⟨_, _, _, by have h := HS.out; rw [show st = { st with op := t :: r } from by rw [← hop]] at h; exact h⟩, Below.refl _ _⟩
end
end Go.Proofs.YtaafhldcdkbnkaaGreatDoor
