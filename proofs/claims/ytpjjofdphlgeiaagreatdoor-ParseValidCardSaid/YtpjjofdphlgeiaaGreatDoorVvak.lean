/- Parts of the proof, together. What bracket makes of a scanner. Conditions: its blocks lie from block B on; short texts. What signOf answers. Conditions: short texts. What sign and token make of a scanner. Conditions: its blocks lie from block B on; short texts; the words and the error of api lie in their variables. What token makes of a scanner. Conditions: its blocks lie from block B on; short texts; the words and the error of api lie in their variables. What line makes of a scanner. Conditions: its blocks lie from block B on; short texts; the words and the error of api lie in their variables. What line makes of a scanner: the line's walk. Conditions: its blocks lie from block B on; short texts; the words and the error of api lie in their variables. What lex.Scan answers: the chapter's tokens, or where a text has none. Conditions: at most 65536 bytes; the words and the error of api lie in their variables. What lex.Scan answers: the chapter's tokens, or where a text has none. Conditions: at most 65536 bytes; the words and the error of api lie in their variables. -/
import Derived.Test.YtpjjofdphlgeiaaGreatDoorVvaj
import Derived.Test.YtpjjofdphlgeiaaGreatDoorVvac
namespace Go.Proofs.YtpjjofdphlgeiaaGreatDoor
open Go.RowKit
open Lx

/-- An append of one closing bracket in a drawn region. -/
theorem opn_drawn {ops : Array Oper} {o : Oper} {a : Act} {K : Act → World → Prop} {Q : Exit → Act → World → Prop} {E : Prop} {W : World} {B sb : Nat} {T : ByteArray} {p : Nat} {st : St} {vt vb vo : Value} (h : ScanV W B sb T p st vt vb vo) (b : UInt8) (hl : st.op.length < 1000000) (hgd : o.guard = none) (x y : Operand)
    (ho : o.op = .call { callee := .builtin .append, args := #[x, y], argTypes := #[97, 97] }) (hx : a.eval x = vo) (hy : a.eval y = .slice (some ⟨W.heap.size, 0, none⟩) 1 1)
    (hK : ∀ g cap w', w'.cell? ⟨sb, 4, none⟩ = some vo → w'.frozen? ⟨sb, 4, none⟩ = false → ScanV (w'.setCell ⟨sb, 4, none⟩ (.slice (some ⟨g, 0, none⟩) (st.op.length + 1) cap)) B sb T p { st with op := b :: st.op } vt vb (.slice (some ⟨g, 0, none⟩) (st.op.length + 1) cap) →
      Below B W (w'.setCell ⟨sb, 4, none⟩ (.slice (some ⟨g, 0, none⟩) (st.op.length + 1) cap)) → K (a.put o.dst (.slice (some ⟨g, 0, none⟩) (st.op.length + 1) cap)) w') :
    if Region.wanted o (yielded ops a.tmps) = true then Oper.wp Tryz.prog o a (W.alloc (.cells #[.int .u8 (b.toNat : Int)] 5)) K Q else E := by
  rw [if_pos (by simp [Region.wanted, hgd])]
  obtain ⟨i0, hi, hz, hz1, hz2⟩ := info_parts info_u8
  have hB : B ≤ W.heap.size := by have := h.high; have := h.lt; omega
  obtain ⟨u, w', hr, h1, h2, _, h4⟩ := run_append_own_at (P := Tryz.prog) (W.alloc (.cells #[.int .u8 (b.toNat : Int)] 5)) B 97 o.type 5 i0 _ 1 1 Tryz.underlying97 hi hz hz1 hz2 rfl (by decide) vo st.op.length (st.op.reverse.map bv)
    (h.opn.alloc _) ⟨W.heap.size, 0, none⟩ 1 1 [bv b] rfl (cell_one_new W _ _) (fun u hu => by simp at hu; subst hu; rfl) (by unfold maxLen; omega) (by omega) (by simp; omega)
  have hb : ∀ j, j < W.heap.size → vo.ownBlock ≠ some j → w'.heap[j]? = W.heap[j]? := fun j hj hne => (h2.block j (by simp; omega) (Ne.symm hne)).trans (Below.heap_alloc W _ j hj)
  obtain ⟨p1, p2, p3⟩ := h.setOpn (l := b :: st.op) (by rw [List.length_cons, List.reverse_cons, List.map_append]; exact h1) hb
  obtain ⟨g, cap, e, _⟩ := own_some p3.opn (by simp)
  rw [List.length_cons] at e
  subst e
  unfold Oper.wp execOp
  simp only [ho, resolve, invoke, builtin, Sem.run_bind, Sem.run_pure, Result.andThen_ok, List.map_toArray, List.map_cons, List.map_nil, hx, hy, hr]
  refine hK g cap w' p1 p2 p3 ?_
  refine Below.setCell ?_ (by simp only; exact h.high) _
  exact ((Below.refl B W).alloc hB _).grown h2 (by simp; omega) fun j hj => (h.opn.lt j hj).1
theorem opn_cut {W : World} {B sb : Nat} {T : ByteArray} {p : Nat} {st : St} {vt vb : Value} {g n cap : Nat} (h : ScanV W B sb T p st vt vb (.slice (some ⟨g, 0, none⟩) n cap)) (t : UInt8) (r : List UInt8) (hb : st.op = t :: r) (hn : n = r.length + 1) :
    ScanV (W.setCell ⟨sb, 4, none⟩ (.slice (some ⟨g, 0, none⟩) r.length cap)) B sb T p { st with op := r } vt vb (.slice (some ⟨g, 0, none⟩) r.length cap) := by
  have h1 := h.opn
  rw [hb] at h1
  subst hn
  have h2 := own_less (m := r.length) h1 (by omega)
  refine (h.setOpn (W' := W) (l := r) ?_ (fun _ _ _ => rfl)).2.2
  rw [List.reverse_cons, List.map_append, List.take_append_of_le_length (by simp), List.take_of_length_le (by simp)] at h2
  exact h2
theorem opening_none (b : UInt8) : ¬ (b = 40 ∨ b = 91 ∨ b = 123) → Lib.indexByte [40, 91, 123] b = -1 :=
  all_u8 (P := fun b => ¬ (b = 40 ∨ b = 91 ∨ b = 123) → Lib.indexByte [40, 91, 123] b = -1) (by decide +kernel) b
theorem closing_none (b : UInt8) : ¬ (b = 41 ∨ b = 93 ∨ b = 125) → Lib.indexByte [41, 93, 125] b = -1 :=
  all_u8 (P := fun b => ¬ (b = 41 ∨ b = 93 ∨ b = 125) → Lib.indexByte [41, 93, 125] b = -1) (by decide +kernel) b
theorem back_u8 (b : UInt8) : ((b.toNat : Int).toNat).toUInt8 = b := by simp
theorem idx_any (s : ByteArray) (b : UInt8) (w : World) : Calls Tryz.prog 158 #[.string s, .int .u8 (b.toNat : Int)] w fun e w' => e = .returned (.int .i64 (Lib.indexByte s.data.toList b)) ∧ w' = w := by
  have h := Tryz.strings_IndexByte s (b.toNat : Int) w
  rwa [back_u8] at h
section
variable {W : World} {B sb : Nat} {T : ByteArray} {p : Nat} {st : St}
set_option maxRecDepth 10000 in
set_option maxHeartbeats 1600000 in
theorem brk_open (h : ScanAt W B sb T p st) (hl : st.op.length ≤ 60) (b c : UInt8) (hbc : (b = 40 ∧ c = 41) ∨ (b = 91 ∧ c = 93) ∨ (b = 123 ∧ c = 125)) :
    Calls Tryz.prog 144 #[.pointer (some ⟨sb, 0, none⟩), .int .u8 (b.toNat : Int)] W fun e w' => e = .returned (.bool (decide (st.op.length < 60))) ∧ ScanAt w' B sb T p { st with op := c :: st.op } ∧ Below B W w' := by
  obtain ⟨vt, vb, vo, D⟩ := h
  obtain ⟨c0, c1, c2, c3, c4⟩ := D.cells
  obtain ⟨ao, cap, e, _⟩ := own_form D.opn
  have HV := hid' e
  rw [e] at c4
  have hlt := D.lt
  have HS := hid' D
  have hnw := World.new_ne W _ c1
  have f4 := D.open_ 4
  have HI := hid' (idx_any ⟨#[40, 91, 123]⟩ b)
  obtain ⟨r, hr⟩ : ∃ r, decide (st.op.length < 60) = r := ⟨_, rfl⟩
  rw [hr]
  have hr2 : decide ((st.op.length : Int) + 1 ≤ 60) = r := by rw [← hr]; congr 1; rw [eq_iff_iff]; omega
  have HR := hid' hr2
  clear D e c0 c1 c2 c3 hr hr2
  rcases hbc with ⟨rfl, rfl⟩ | ⟨rfl, rfl⟩ | ⟨rfl, rfl⟩
  · have HI' : Hid (∀ w, Calls Tryz.prog 158 #[.string ⟨#[40, 91, 123]⟩, .int .u8 40] w fun e w' => e = .returned (.int .i64 0) ∧ w' = w) := hid' (fun w => (HI.out w).mono fun e w' ⟨h1, h2⟩ => ⟨h1.trans (ret_i (by decide)), h2⟩)
    clear HI
    go_enter Tryz.func144, Tryz.ntmps144
    go_wp2_with fail
    refine (HI'.out _).mono ?_
    rintro e w1 ⟨rfl, rfl⟩
    go_wp2_with fail
    go_region_law (refine opn_drawn (W := w1.drew) (HS.out.keep fun _ _ _ => rfl) 41 (by show st.op.length < _; omega) rfl (.tmp 15) (.tmp 18) (by rfl) (by first | exact HV.out.symm | (simp [Act.eval]; exact HV.out.symm)) (by first | rfl | simp [Act.eval]) ?_; intro g2 c2 w9 p1 p2 p3 p4; have HP3 := hid' p3; have HP4 := hid' p4; clear p3 p4)
    all_goals (
      obtain ⟨d0, d1, d2, d3, d4⟩ := HP3.out.cells
      have HBB : Hid (Below B w1 (w9.setCell ⟨sb, 4, none⟩ (.slice (some ⟨g2, 0, none⟩) (st.op.length + 1) c2))) := hid' ⟨HP4.out.os, HP4.out.tape, HP4.out.output, HP4.out.size, HP4.out.block⟩
      clear HP4 d0 d1 d2 d3 p1
      go_wp2
      go_ret
      exact ⟨ret_bool' HR.out, ⟨_, _, _, HP3.out⟩, HBB.out⟩)
  · have HI' : Hid (∀ w, Calls Tryz.prog 158 #[.string ⟨#[40, 91, 123]⟩, .int .u8 91] w fun e w' => e = .returned (.int .i64 1) ∧ w' = w) := hid' (fun w => (HI.out w).mono fun e w' ⟨h1, h2⟩ => ⟨h1.trans (ret_i (by decide)), h2⟩)
    clear HI
    go_enter Tryz.func144, Tryz.ntmps144
    go_wp2_with fail
    refine (HI'.out _).mono ?_
    rintro e w1 ⟨rfl, rfl⟩
    go_wp2_with fail
    go_region_law (refine opn_drawn (W := w1.drew) (HS.out.keep fun _ _ _ => rfl) 93 (by show st.op.length < _; omega) rfl (.tmp 15) (.tmp 18) (by rfl) (by first | exact HV.out.symm | (simp [Act.eval]; exact HV.out.symm)) (by first | rfl | simp [Act.eval]) ?_; intro g2 c2 w9 p1 p2 p3 p4; have HP3 := hid' p3; have HP4 := hid' p4; clear p3 p4)
    all_goals (
      obtain ⟨d0, d1, d2, d3, d4⟩ := HP3.out.cells
      have HBB : Hid (Below B w1 (w9.setCell ⟨sb, 4, none⟩ (.slice (some ⟨g2, 0, none⟩) (st.op.length + 1) c2))) := hid' ⟨HP4.out.os, HP4.out.tape, HP4.out.output, HP4.out.size, HP4.out.block⟩
      clear HP4 d0 d1 d2 d3 p1
      go_wp2
      go_ret
      exact ⟨ret_bool' HR.out, ⟨_, _, _, HP3.out⟩, HBB.out⟩)
  · have HI' : Hid (∀ w, Calls Tryz.prog 158 #[.string ⟨#[40, 91, 123]⟩, .int .u8 123] w fun e w' => e = .returned (.int .i64 2) ∧ w' = w) := hid' (fun w => (HI.out w).mono fun e w' ⟨h1, h2⟩ => ⟨h1.trans (ret_i (by decide)), h2⟩)
    clear HI
    go_enter Tryz.func144, Tryz.ntmps144
    go_wp2_with fail
    refine (HI'.out _).mono ?_
    rintro e w1 ⟨rfl, rfl⟩
    go_wp2_with fail
    go_region_law (refine opn_drawn (W := w1.drew) (HS.out.keep fun _ _ _ => rfl) 125 (by show st.op.length < _; omega) rfl (.tmp 15) (.tmp 18) (by rfl) (by first | exact HV.out.symm | (simp [Act.eval]; exact HV.out.symm)) (by first | rfl | simp [Act.eval]) ?_; intro g2 c2 w9 p1 p2 p3 p4; have HP3 := hid' p3; have HP4 := hid' p4; clear p3 p4)
    all_goals (
      obtain ⟨d0, d1, d2, d3, d4⟩ := HP3.out.cells
      have HBB : Hid (Below B w1 (w9.setCell ⟨sb, 4, none⟩ (.slice (some ⟨g2, 0, none⟩) (st.op.length + 1) c2))) := hid' ⟨HP4.out.os, HP4.out.tape, HP4.out.output, HP4.out.size, HP4.out.block⟩
      clear HP4 d0 d1 d2 d3 p1
      go_wp2
      go_ret
      exact ⟨ret_bool' HR.out, ⟨_, _, _, HP3.out⟩, HBB.out⟩)
set_option maxRecDepth 10000 in
set_option maxHeartbeats 1600000 in
theorem brk_other (b : UInt8) (h1 : ¬ (b = 40 ∨ b = 91 ∨ b = 123)) (h2 : ¬ (b = 41 ∨ b = 93 ∨ b = 125)) (W : World) :
    Calls Tryz.prog 144 #[.pointer (some ⟨sb, 0, none⟩), .int .u8 (b.toNat : Int)] W fun e w' => e = .returned (.bool true) ∧ w' = W := by
  have e1 := opening_none b h1
  have e2 := closing_none b h2
  have H1 : Hid (∀ w, Calls Tryz.prog 158 #[.string ⟨#[40, 91, 123]⟩, .int .u8 (b.toNat : Int)] w fun e w' => e = .returned (.int .i64 (-1)) ∧ w' = w) := hid' (fun w => (idx_any ⟨#[40, 91, 123]⟩ b w).mono fun e w' ⟨h1, h2⟩ => ⟨h1.trans (ret_i e1), h2⟩)
  have H2 : Hid (∀ w, Calls Tryz.prog 158 #[.string ⟨#[41, 93, 125]⟩, .int .u8 (b.toNat : Int)] w fun e w' => e = .returned (.int .i64 (-1)) ∧ w' = w) := hid' (fun w => (idx_any ⟨#[41, 93, 125]⟩ b w).mono fun e w' ⟨h1, h2⟩ => ⟨h1.trans (ret_i e2), h2⟩)
  clear e1 e2 h1 h2
  go_enter Tryz.func144, Tryz.ntmps144
  go_wp2_with fail
  refine (H1.out _).mono ?_
  rintro e w1 ⟨rfl, rfl⟩
  go_wp2_with fail
  refine (H2.out _).mono ?_
  rintro e w1 ⟨rfl, rfl⟩
  go_wp2
  go_ret
  exact ⟨rfl, rfl⟩
/-- What a closing bracket finds. -/
def closeOK (b : UInt8) : List UInt8 → Bool
  | [] => false
  | t :: _ => t == b
set_option maxRecDepth 10000 in
set_option maxHeartbeats 3200000 in
theorem brk_close (h : ScanAt W B sb T p st) (hl : st.op.length ≤ 100) (b : UInt8) (hbc : b = 41 ∨ b = 93 ∨ b = 125) :
    Calls Tryz.prog 144 #[.pointer (some ⟨sb, 0, none⟩), .int .u8 (b.toNat : Int)] W fun e w' => e = .returned (.bool (closeOK b st.op)) ∧ ScanAt w' B sb T p { st with op := if closeOK b st.op then st.op.tail else st.op } ∧ Below B W w' := by
  obtain ⟨vt, vb, vo, D⟩ := h
  obtain ⟨z, hz1, hz2⟩ : ∃ z : Int, 0 ≤ z ∧ Lib.indexByte [41, 93, 125] b = z := by
    rcases hbc with rfl | rfl | rfl
    · exact ⟨0, by decide, by decide⟩
    · exact ⟨1, by decide, by decide⟩
    · exact ⟨2, by decide, by decide⟩
  have e1 := opening_none b (by rcases hbc with rfl | rfl | rfl <;> decide)
  have H1 : Hid (∀ w, Calls Tryz.prog 158 #[.string ⟨#[40, 91, 123]⟩, .int .u8 (b.toNat : Int)] w fun e w' => e = .returned (.int .i64 (-1)) ∧ w' = w) := hid' (fun w => (idx_any ⟨#[40, 91, 123]⟩ b w).mono fun e w' ⟨h1, h2⟩ => ⟨h1.trans (ret_i e1), h2⟩)
  have H2 : Hid (∀ w, Calls Tryz.prog 158 #[.string ⟨#[41, 93, 125]⟩, .int .u8 (b.toNat : Int)] w fun e w' => e = .returned (.int .i64 z) ∧ w' = w) := hid' (fun w => (idx_any ⟨#[41, 93, 125]⟩ b w).mono fun e w' ⟨h1, h2⟩ => ⟨h1.trans (ret_i hz2), h2⟩)
  have hz' : ¬ z < 0 := by omega
  clear e1 hz2 hbc
  obtain ⟨c0, c1, c2, c3, c4⟩ := D.cells
  cases hop : st.op with
  | nil =>
    obtain ⟨ao, cap, e, _⟩ := own_form D.opn
    rw [hop] at e
    rw [e] at c4
    have HS := hid' D
    have hst : { st with op := if closeOK b [] then List.tail ([] : List UInt8) else [] } = st := by
      show ({ st with op := [] } : St) = st
      rw [← hop]
    rw [hst]
    clear D e c0 c1 c2 c3 hst
    go_enter Tryz.func144, Tryz.ntmps144
    go_wp2_with fail
    refine (H1.out _).mono ?_
    rintro e w1 ⟨rfl, rfl⟩
    go_wp2_with fail
    refine (H2.out _).mono ?_
    rintro e w1 ⟨rfl, rfl⟩
    go_wp2
    go_ret
    exact ⟨rfl, ⟨_, _, _, HS.out⟩, Below.refl _ _⟩
  | cons t r =>
    have hso := D.opn
    rw [hop] at hso
    obtain ⟨g, cap, e, hcap, _, _, hx⟩ := own_some hso (by simp)
    have hlast := hx r.length (bv t) (by simp)
    rw [List.length_cons] at e hcap
    subst e
    unfold bv at hlast
    have hrl : r.length ≤ 100 := by rw [hop] at hl; simp at hl; omega
    have D3 := opn_cut D t r hop rfl
    have hbt := byte_eq t b
    have f4 := D.open_ 4
    have hsl := slice_to8 (some ⟨g, 0, none⟩) (r.length + 1) r.length cap (by omega)
    have HD3 := hid' D3
    have HB3 : Hid (Below B W (W.setCell ⟨sb, 4, none⟩ (.slice (some ⟨g, 0, none⟩) r.length cap))) := hid' (Below.setCell (Below.refl B W) (p := ⟨sb, 4, none⟩) (by simp only; exact D.high) _)
    have HS := hid' D
    clear D D3 hx hso c0 c1 c2 c3
    simp only [closeOK, List.tail_cons]
    rcases Bool.eq_false_or_eq_true (t == b) with e | e
    · simp only [e, if_true]
      have hne : ((t.toNat : Int) != (b.toNat : Int)) = false := by rw [bne, ← hbt, e]; rfl
      clear hbt e
      go_enter Tryz.func144, Tryz.ntmps144
      go_wp2_with fail
      refine (H1.out _).mono ?_
      rintro e w1 ⟨rfl, rfl⟩
      go_wp2_with fail
      refine (H2.out _).mono ?_
      rintro e w1 ⟨rfl, rfl⟩
      go_wp2
      go_ret
      exact ⟨rfl, ⟨_, _, _, HD3.out⟩, HB3.out⟩
    · simp only [e, Bool.false_eq_true, if_false]
      have hne : ((t.toNat : Int) != (b.toNat : Int)) = true := by rw [bne, ← hbt, e]; rfl
      clear hbt e
      go_enter Tryz.func144, Tryz.ntmps144
      go_wp2_with fail
      refine (H1.out _).mono ?_
      rintro e w1 ⟨rfl, rfl⟩
      go_wp2_with fail
      refine (H2.out _).mono ?_
      rintro e w1 ⟨rfl, rfl⟩
      go_wp2
      go_ret
      exact ⟨rfl, ⟨_, _, _, by have h := HS.out; rw [show st = { st with op := t :: r } from by rw [← hop]] at h; exact h⟩, Below.refl _ _⟩
end
end Go.Proofs.YtpjjofdphlgeiaaGreatDoor

namespace Go.Proofs.YtpjjofdphlgeiaaGreatDoor
open Go.RowKit
open Lx

theorem signs_none (b : UInt8) : oneSigns.any (· == b) = false → Lib.indexByte oneSigns b = -1 :=
  all_u8 (P := fun b => oneSigns.any (· == b) = false → Lib.indexByte oneSigns b = -1) (by decide +kernel) b
theorem signs_some (b : UInt8) : oneSigns.any (· == b) = true → 0 ≤ Lib.indexByte oneSigns b :=
  all_u8 (P := fun b => oneSigns.any (· == b) = true → 0 ≤ Lib.indexByte oneSigns b) (by decide +kernel) b
/-- Two bytes that are one sign. -/
def twoB (b c : UInt8) : Bool := (b == 61 && c == 61) || (b == 33 && c == 61) || (b == 60 && c == 61) || (b == 62 && c == 61) || (b == 43 && c == 61) || (b == 47 && c == 47)
theorem signF_two (b c : UInt8) (r : List UInt8) : signF (b :: c :: r) = if twoB b c then 2 else if oneSigns.any (· == b) then 1 else 0 := rfl
theorem signF_one (b : UInt8) : signF [b] = if oneSigns.any (· == b) then 1 else 0 := rfl
def signsS : ByteArray := ⟨#[60, 62, 61, 43, 45, 42, 37, 40, 41, 91, 93, 123, 125, 44, 58, 46]⟩
theorem idx_signs (b : UInt8) : ∃ z : Int, (oneSigns.any (· == b) = true → ¬ z < 0) ∧ (oneSigns.any (· == b) = false → z < 0) ∧ ∀ w, Calls Tryz.prog 158 #[.string ⟨#[60, 62, 61, 43, 45, 42, 37, 40, 41, 91, 93, 123, 125, 44, 58, 46]⟩, .int .u8 (b.toNat : Int)] w fun e w' => e = .returned (.int .i64 z) ∧ w' = w :=
  ⟨Lib.indexByte oneSigns b, fun h => by have := signs_some b h; omega, fun h => by have := signs_none b h; omega, fun w => idx_any signsS b w⟩
set_option maxRecDepth 10000 in
set_option maxHeartbeats 1600000 in
/-- The last step of signOf: one byte. -/
theorem signOf_one (s : ByteArray) (h0 : 0 < s.size) (hs : s.size ≤ 1000000) (h1 : s.size = 1 ∨ (1 < s.size ∧ ((s.extract 0 2).toList == [61, 61]) = false ∧ ((s.extract 0 2).toList == [33, 61]) = false ∧ ((s.extract 0 2).toList == [60, 61]) = false ∧ ((s.extract 0 2).toList == [62, 61]) = false ∧ ((s.extract 0 2).toList == [43, 61]) = false ∧ ((s.extract 0 2).toList == [47, 47]) = false)) (w : World) :
    Calls Tryz.prog 143 #[.string s] w fun e w' => e = .returned (.string (if oneSigns.any (· == s[0]) then s.extract 0 1 else ⟨#[]⟩)) ∧ w' = w := by
  obtain ⟨b, hb⟩ : ∃ b, s[0] = b := ⟨_, rfl⟩
  have h0' : (0 : Int) < (s.size : Int) := by omega
  have hidx0 : ∀ W, (Instr.index 9 (.string s) (.int .i64 0)).run Tryz.prog W = .ok (.int .u8 (b.toNat : Int)) W := fun W => by
    rw [← hb]
    go_simp
  rw [hb]
  obtain ⟨z, z1, z2, HZ⟩ := idx_signs b
  have HZ := hid' HZ
  have hsl1 := slice_pre s 1 (by omega)
  rw [show (((1 : Nat)) : Int) = (1 : Int) from rfl] at hsl1
  clear hb
  rcases h1 with h1 | ⟨h1, n1, n2, n3, n4, n5, n6⟩
  · have h1' : ¬ (1 : Int) < (s.size : Int) := by omega
    generalize s.extract 0 1 = X at hsl1 ⊢
    clear h1
    rcases Bool.eq_false_or_eq_true (oneSigns.any (· == b)) with e | e
    · have hz := z1 e
      rw [e]
      clear e z1 z2
      go_enter Tryz.func143, Tryz.ntmps143
      go_wp2_with fail
      refine (HZ.out _).mono ?_
      rintro e w1 ⟨rfl, rfl⟩
      go_wp2
      go_ret
      exact ⟨rfl, rfl⟩
    · have hz := z2 e
      rw [e]
      clear e z1 z2
      go_enter Tryz.func143, Tryz.ntmps143
      go_wp2_with fail
      refine (HZ.out _).mono ?_
      rintro e w1 ⟨rfl, rfl⟩
      go_wp2
      go_ret
      exact ⟨rfl, rfl⟩
  · have h1' : (1 : Int) < (s.size : Int) := by omega
    have hsl2 := slice_pre s 2 (by omega)
    rw [show (((2 : Nat)) : Int) = (2 : Int) from rfl] at hsl2
    generalize s.extract 0 1 = X at hsl1 ⊢
    generalize s.extract 0 2 = Y at hsl2 n1 n2 n3 n4 n5 n6
    clear h1
    rcases Bool.eq_false_or_eq_true (oneSigns.any (· == b)) with e | e
    · have hz := z1 e
      rw [e]
      clear e z1 z2
      go_enter Tryz.func143, Tryz.ntmps143
      go_wp2_with fail
      refine (HZ.out _).mono ?_
      rintro e w1 ⟨rfl, rfl⟩
      go_wp2
      go_ret
      exact ⟨rfl, rfl⟩
    · have hz := z2 e
      rw [e]
      clear e z1 z2
      go_enter Tryz.func143, Tryz.ntmps143
      go_wp2_with fail
      refine (HZ.out _).mono ?_
      rintro e w1 ⟨rfl, rfl⟩
      go_wp2
      go_ret
      exact ⟨rfl, rfl⟩
set_option maxRecDepth 10000 in
set_option maxHeartbeats 1600000 in
theorem signOf_two (s : ByteArray) (h1 : 1 < s.size) (hs : s.size ≤ 1000000) (b c : UInt8) (hX : s.extract 0 2 = ⟨#[b, c]⟩) (hbc : (b = 61 ∧ c = 61) ∨ (b = 33 ∧ c = 61) ∨ (b = 60 ∧ c = 61) ∨ (b = 62 ∧ c = 61) ∨ (b = 43 ∧ c = 61) ∨ (b = 47 ∧ c = 47)) (w : World) :
    Calls Tryz.prog 143 #[.string s] w fun e w' => e = .returned (.string ⟨#[b, c]⟩) ∧ w' = w := by
  have h1' : (1 : Int) < (s.size : Int) := by omega
  have hsl2 := slice_pre s 2 (by omega)
  rw [show (((2 : Nat)) : Int) = (2 : Int) from rfl, hX] at hsl2
  clear hX h1
  rcases hbc with ⟨rfl, rfl⟩ | ⟨rfl, rfl⟩ | ⟨rfl, rfl⟩ | ⟨rfl, rfl⟩ | ⟨rfl, rfl⟩ | ⟨rfl, rfl⟩
  all_goals (
    go_enter Tryz.func143, Tryz.ntmps143
    go_wp2
    go_ret
    exact ⟨rfl, rfl⟩)
theorem twoB_cases (b c : UInt8) : (twoB b c = true ↔ (b = 61 ∧ c = 61) ∨ (b = 33 ∧ c = 61) ∨ (b = 60 ∧ c = 61) ∨ (b = 62 ∧ c = 61) ∨ (b = 43 ∧ c = 61) ∨ (b = 47 ∧ c = 47)) := by
  unfold twoB
  simp only [Bool.or_eq_true, Bool.and_eq_true, beq_iff_eq, or_assoc]
theorem signOf_any (s : ByteArray) (h0 : 0 < s.size) (hs : s.size ≤ 1000000) (w : World) : Calls Tryz.prog 143 #[.string s] w fun e w' => e = .returned (.string (txt (s.data.toList.take (signF s.data.toList)))) ∧ w' = w := by
  have hd0 := drop_at s 0 h0
  rw [List.drop_zero] at hd0
  have hone : ∀ (B : Bool), (if B then s.extract 0 1 else (⟨#[]⟩ : ByteArray)) = txt (s.data.toList.take (if B then 1 else 0)) := fun B => by
    cases B with
    | true => rw [if_pos rfl, if_pos rfl, ← ext_take, txt_data]
    | false => rfl
  by_cases h1 : s.size = 1
  · have h := signOf_one s h0 hs (.inl h1) w
    have hl : s.data.toList = [s[0]] := by rw [hd0, List.drop_eq_nil_of_le (by simp [h1])]
    rw [hone] at h
    have hsf : signF s.data.toList = if oneSigns.any (· == s[0]) then 1 else 0 := by rw [hl]; exact signF_one _
    rw [hsf]
    exact h
  · have hd1 := drop_at s 1 (by omega)
    rw [Nat.zero_add] at hd0
    rw [hd1] at hd0
    have hsf : signF s.data.toList = if twoB s[0] s[1] then 2 else if oneSigns.any (· == s[0]) then 1 else 0 := by rw [hd0]; exact signF_two _ _ _
    have hX2 := ext_take s 2
    have hl2 : (s.extract 0 2).data.toList = [s[0], s[1]] := by rw [hX2, hd0]; rfl
    rcases Bool.eq_false_or_eq_true (twoB s[0] s[1]) with e | e
    · have hX : s.extract 0 2 = ⟨#[s[0], s[1]]⟩ := ByteArray.ext (Array.toList_inj.1 hl2)
      have h := signOf_two s (by omega) hs s[0] s[1] hX ((twoB_cases _ _).1 e) w
      rw [hsf, e, if_pos rfl, ← ext_take, txt_data, hX]
      exact h
    · have hn : ∀ x y : UInt8, ¬ (s[0] = x ∧ s[1] = y) → ((s.extract 0 2).toList == [x, y]) = false := fun x y hxy => by
        rw [ByteArray.toList_eq, hl2, beq_eq_false_iff_ne]
        intro he
        simp at he
        exact hxy he
      have hnt : ¬ (twoB s[0] s[1] = true) := by rw [e]; simp
      rw [twoB_cases] at hnt
      have h := signOf_one s h0 hs (.inr ⟨by omega, hn _ _ (fun x => hnt (.inl x)), hn _ _ (fun x => hnt (.inr (.inl x))), hn _ _ (fun x => hnt (.inr (.inr (.inl x)))), hn _ _ (fun x => hnt (.inr (.inr (.inr (.inl x))))), hn _ _ (fun x => hnt (.inr (.inr (.inr (.inr (.inl x)))))), hn _ _ (fun x => hnt (.inr (.inr (.inr (.inr (.inr x))))))⟩) w
      rw [hone] at h
      rw [hsf, e]
      exact h
end Go.Proofs.YtpjjofdphlgeiaaGreatDoor

namespace Go.Proofs.YtpjjofdphlgeiaaGreatDoor
open Go.RowKit
open Lx

theorem signF_le (l : List UInt8) : signF l ≤ l.length := by
  match l with
  | [] => exact Nat.le_refl _
  | [b] => rw [signF_one]; split <;> simp
  | b :: c :: r =>
    rw [signF_two]
    split
    · simp
    · split <;> simp
theorem idx_zero (X : ByteArray) (b : UInt8) (r : List UInt8) (h : X.data.toList = b :: r) (W : World) : (Instr.index 9 (.string X) (.int .i64 0)).run Tryz.prog W = .ok (.int .u8 (b.toNat : Int)) W := by
  have hs : 0 < X.size := by
    have := congrArg List.length h
    rw [Array.length_toList, List.length_cons] at this
    show 0 < X.data.size
    omega
  have h1 := drop_at X 0 hs
  rw [List.drop_zero, h] at h1
  have hb : X[0] = b := (List.cons.inj h1).1.symm
  have h0 : (0 : Int) < (X.size : Int) := by omega
  rw [← hb]
  go_simp
section
variable {W : World} {B sb : Nat} {T : ByteArray} {p : Nat} {st : St}
theorem brk_any (h : ScanAt W B sb T p st) (hl : st.op.length ≤ 60) (b : UInt8) :
    Calls Tryz.prog 144 #[.pointer (some ⟨sb, 0, none⟩), .int .u8 (b.toNat : Int)] W fun e w' => e = .returned (.bool (brkF b st.op).isSome) ∧ (∃ op2, ScanAt w' B sb T p { st with op := op2 } ∧ ∀ op', brkF b st.op = some op' → op2 = op') ∧ Below B W w' := by
  by_cases h1 : b = 40 ∨ b = 91 ∨ b = 123
  · obtain ⟨c, hbc, hf⟩ : ∃ c, ((b = 40 ∧ c = 41) ∨ (b = 91 ∧ c = 93) ∨ (b = 123 ∧ c = 125)) ∧ brkF b st.op = if st.op.length < 60 then some (c :: st.op) else none := by
      rcases h1 with rfl | rfl | rfl
      · exact ⟨41, .inl ⟨rfl, rfl⟩, rfl⟩
      · exact ⟨93, .inr (.inl ⟨rfl, rfl⟩), rfl⟩
      · exact ⟨125, .inr (.inr ⟨rfl, rfl⟩), rfl⟩
    refine (brk_open h hl b c hbc).mono ?_
    rintro e w' ⟨he, hs, hb⟩
    rw [hf]
    refine ⟨by rw [he]; by_cases h60 : st.op.length < 60 <;> simp [h60], ⟨_, hs, fun op' ho => ?_⟩, hb⟩
    split at ho
    · simpa using ho
    · cases ho
  · by_cases h2 : b = 41 ∨ b = 93 ∨ b = 125
    · have hf : brkF b st.op = match st.op with | [] => none | t :: r => if t == b then some r else none := by
        rcases h2 with rfl | rfl | rfl <;> rfl
      refine (brk_close h (by omega) b h2).mono ?_
      rintro e w' ⟨he, hs, hb⟩
      rw [hf]
      cases hop : st.op with
      | nil =>
        rw [hop] at he hs
        exact ⟨he, ⟨_, hs, fun op' ho => by cases ho⟩, hb⟩
      | cons t r =>
        rw [hop] at he hs
        simp only [closeOK, List.tail_cons] at he hs ⊢
        rcases Bool.eq_false_or_eq_true (t == b) with e1 | e1
        · simp only [e1, if_true] at he hs ⊢
          exact ⟨he, ⟨_, hs, fun op' ho => by simpa using ho⟩, hb⟩
        · simp only [e1, Bool.false_eq_true, if_false] at he hs ⊢
          exact ⟨he, ⟨_, hs, fun op' ho => by cases ho⟩, hb⟩
    · have hf : brkF b st.op = some st.op := by
        unfold brkF
        simp only [not_or] at h1 h2
        simp [h1, h2]
      refine (brk_other b h1 h2 W).mono ?_
      rintro e w' ⟨he, rfl⟩
      rw [hf]
      exact ⟨he, ⟨st.op, h, fun op' ho => by simpa using ho⟩, Below.refl _ _⟩
/-- What sign finds. -/
def sgnF (op : List UInt8) (l : List UInt8) : Option (List UInt8) := if signF l = 0 then none else brkF (l.headD 0) op
set_option maxRecDepth 10000 in
set_option maxHeartbeats 3200000 in
theorem sign_any (A : Nat → Addr) (h : ScanAt W B sb T p st) (hp : p < T.size) (hT : T.size ≤ 800000) (hl : st.toks.length < 1000000) (hol : st.op.length ≤ 60) (hE : W.cell? ⟨4, 0, none⟩ = some (E A 0)) (hEB : 4 < B) :
    Calls Tryz.prog 121 #[.pointer (some ⟨sb, 0, none⟩)] W fun e w' => (sgnF st.op (T.data.toList.drop p) = none → ∃ v, e = .returned v ∧ FaultV A w' B v p ∧ Below B W w') ∧ (∀ op', sgnF st.op (T.data.toList.drop p) = some op' → e = .returned .nilIface ∧
      ScanAt w' B sb T (p + signF (T.data.toList.drop p)) { st with toks := st.toks ++ [⟨4, (T.data.toList.drop p).take (signF (T.data.toList.drop p)), p⟩], op := op' } ∧ Below B W w') := by
  obtain ⟨vt, vb, vo, D⟩ := h
  obtain ⟨c0, c1, c2, c3, c4⟩ := D.cells
  have hR := ext_drop T p
  have hRs : (T.extract p T.size).size = T.size - p := by rw [ByteArray.size_extract]; omega
  have hsl := slice_suf T p (by omega)
  have HC := hid' (fun W => signOf_any (T.extract p T.size) (by omega) (by omega) W)
  have hhead : (T.data.toList.drop p).headD 0 = T[p] := by rw [drop_at T p hp]; rfl
  have hne : T.data.toList.drop p = T[p] :: T.data.toList.drop (p + 1) := drop_at T p hp
  rw [hR] at HC
  generalize T.extract p T.size = R at hsl HC
  obtain ⟨sg, hsg⟩ : ∃ sg, sgnF st.op (T.data.toList.drop p) = sg := ⟨_, rfl⟩
  rw [hsg]
  unfold sgnF at hsg
  rw [hhead] at hsg
  obtain ⟨b, hb⟩ : ∃ b, T[p] = b := ⟨_, rfl⟩
  rw [hb] at hne hsg
  have hsle := signF_le (T.data.toList.drop p)
  have hlen : (T.data.toList.drop p).length = T.size - p := by rw [List.length_drop, Array.length_toList]; rfl
  rw [hlen] at hsle
  obtain ⟨n, hn⟩ : ∃ n, signF (T.data.toList.drop p) = n := ⟨_, rfl⟩
  rw [hn] at HC hsle hsg ⊢
  have HS := hid' D
  have hB := D.lt
  have hBW : B ≤ W.heap.size := by have := D.high; omega
  have HF := hid' (fun q => fault_any (B := B) A p (W.drewN q) hE hBW)
  have HE := hid' hE
  clear D c2 c3 c4 hR hRs hE hb hhead hlen
  cases n with
  | zero =>
    rw [List.take_zero] at HC
    have HC' : Hid (∀ W, Calls Tryz.prog 143 #[.string R] W fun e w' => e = .returned (.string ⟨#[]⟩) ∧ w' = W) := HC
    have HSG : Hid (sg = none) := hid' (by rw [← hsg]; rfl)
    clear hn hne HC hsg
    go_enter Tryz.func121, Tryz.ntmps121
    go_wp2_with fail
    go_quiet ((go_at_call 143; exact Calls.quiet_of_same (HC'.out _)))
    go_wp2_with fail
    refine (HF.out _).mono ?_
    rintro e w4 ⟨v, rfl, h4, b4⟩
    have HF4 := hid' h4
    have HB4 : Hid (Below B W w4) := hid' ⟨b4.os, b4.tape, b4.output, b4.size, fun k hk => b4.block k (by show k < W.heap.size; omega)⟩
    clear h4 b4
    go_wp2
    go_ret
    exact ⟨fun _ => ⟨v, rfl, HF4.out, HB4.out⟩, fun op' ho => by rw [HSG.out] at ho; cases ho⟩
  | succ n =>
    have hX : (T.data.toList.drop p).take (n + 1) = b :: (T.data.toList.drop (p + 1)).take n := by rw [hne, List.take_succ_cons]
    have hXl : (txt ((T.data.toList.drop p).take (n + 1))).size = n + 1 := by
      show ((T.data.toList.drop p).take (n + 1)).toArray.size = n + 1
      rw [List.size_toArray, List.length_take, List.length_drop, Array.length_toList]
      show min (n + 1) (T.size - p) = n + 1
      omega
    have hidx := idx_zero (txt ((T.data.toList.drop p).take (n + 1))) b _ (by rw [data_txt]; exact hX)
    have he1 : ((txt ((T.data.toList.drop p).take (n + 1))).toList == []) = false := by rw [toList_txt, hX]; rfl
    have he2 : (txt ((T.data.toList.drop p).take (n + 1))).toList.isEmpty = false := by rw [toList_txt, hX]; rfl
    have hdat := data_txt ((T.data.toList.drop p).take (n + 1))
    rw [← hdat]
    generalize txt ((T.data.toList.drop p).take (n + 1)) = X at HC hXl hidx he1 he2 ⊢
    have HBK := hid' (fun q => brk_any (W := W.drewN q) ((ScanAt.drewN ⟨_, _, _, HS.out⟩ q)) hol b)
    obtain ⟨br, hbr⟩ : ∃ br, brkF b st.op = br := ⟨_, rfl⟩
    rw [hbr] at HBK hsg
    have HSG : Hid (sg = br) := hid' (by rw [← hsg]; simp)
    clear hn hne hX hdat hbr hsg
    cases br with
    | none =>
      simp only [Option.isSome_none] at HBK
      go_enter Tryz.func121, Tryz.ntmps121
      go_wp2_with fail
      go_quiet ((go_at_call 143; exact Calls.quiet_of_same (HC.out _)))
      go_wp2_with fail
      refine (HBK.out _).mono ?_
      rintro e w2 ⟨rfl, ⟨op2, S2, _⟩, b2⟩
      obtain ⟨ut, ub, uo, D2⟩ := S2
      obtain ⟨d0, d1, d2, d3, d4⟩ := D2.cells
      have B2 : Below B W w2 := ⟨b2.os, b2.tape, b2.output, b2.size, b2.block⟩
      have E2 := (B2.cell (p := ⟨4, 0, none⟩) hEB).trans HE.out
      have hb2 := B2.size
      have HG := hid' (fault_any (B := B) A p w2 E2 (by omega))
      have HB2 := hid' B2
      clear b2 B2 E2 D2 d0 d2 d3 d4
      go_wp2_with fail
      refine (HG.out).mono ?_
      rintro e w4 ⟨v, rfl, h4, b4⟩
      have HF4 := hid' h4
      have HB4 := hid' (HB2.out.trans (b4.mono (by omega)))
      clear h4 b4
      go_wp2
      go_ret
      exact ⟨fun _ => ⟨v, rfl, HF4.out, HB4.out⟩, fun op' ho => by rw [HSG.out] at ho; cases ho⟩
    | some op1 =>
      simp only [Option.isSome_some] at HBK
      go_enter Tryz.func121, Tryz.ntmps121
      go_wp2_with fail
      go_quiet ((go_at_call 143; exact Calls.quiet_of_same (HC.out _)))
      go_wp2_with fail
      refine (HBK.out _).mono ?_
      rintro e w2 ⟨rfl, ⟨op2, S2, hop2⟩, b2⟩
      have hop3 := hop2 op1 rfl
      subst hop3
      have HB2 : Hid (Below B W w2) := hid' ⟨b2.os, b2.tape, b2.output, b2.size, b2.block⟩
      have HA := hid' (add_any S2 4 X (n + 1) (by omega) (by omega) hl)
      clear b2 S2 hop2
      go_wp2_with fail
      refine (HA.out).mono ?_
      rintro e w4 ⟨rfl, h4, b4⟩
      have HS4 := hid' h4
      have HB4 := hid' (HB2.out.trans b4)
      clear h4 b4
      go_wp2
      go_ret
      refine ⟨(fun h => by rw [HSG.out] at h; cases h), fun op' ho => ?_⟩
      rw [HSG.out] at ho
      cases ho
      exact ⟨rfl, HS4.out, HB4.out⟩
end
end Go.Proofs.YtpjjofdphlgeiaaGreatDoor

namespace Go.Proofs.YtpjjofdphlgeiaaGreatDoor
open Go.RowKit
open Lx

theorem tokF_name (op : List UInt8) (b : UInt8) (l : List UInt8) (h : lt b = true) : tokF op (b :: l) = .ok (if isWord ((b :: l).take (lenF nb (b :: l))) then 4 else 1) ((b :: l).take (lenF nb (b :: l))) (lenF nb (b :: l)) op := by
  rw [tokF, if_pos h]
theorem tokF_num (op : List UInt8) (b : UInt8) (l : List UInt8) (h : lt b = false) (hd : dg b = true) : tokF op (b :: l) = if badNum (b :: l) then .bad 0 else .ok 2 ((b :: l).take (lenF dg (b :: l))) (lenF dg (b :: l)) op := by
  rw [tokF, if_neg (by rw [h]; simp), if_pos hd]; rfl
theorem tokF_quo (op : List UInt8) (b : UInt8) (l : List UInt8) (h : lt b = false) (hd : dg b = false) (hq : b = 34 ∨ b = 39) : tokF op (b :: l) = match quoF b l with | .inr j => .bad j | .inl (said, n) => .ok 3 said n op := by
  rw [tokF, if_neg (by rw [h]; simp), if_neg (by rw [hd]; simp), if_pos (by rcases hq with rfl | rfl <;> rfl)]
  unfold quoF
  cases closedF b false l with
  | none => rfl
  | some n =>
    simp only []
    rcases unqF n (l.take n) with ⟨t, o⟩
    cases o <;> rfl
theorem tokF_sgn (op : List UInt8) (b : UInt8) (l : List UInt8) (h : lt b = false) (hd : dg b = false) (hq : ¬ (b = 34 ∨ b = 39)) : tokF op (b :: l) = match sgnF op (b :: l) with | none => .bad 0 | some op' => .ok 4 ((b :: l).take (signF (b :: l))) (signF (b :: l)) op' := by
  have hq' : (b == 34 || b == 39) = false := by
    simp only [not_or] at hq
    rw [beq_eq_false_iff_ne.2 hq.1, beq_eq_false_iff_ne.2 hq.2]; rfl
  rw [tokF, if_neg (by rw [h]; simp), if_neg (by rw [hd]; simp), if_neg (by rw [hq']; simp)]
  unfold sgnF
  rw [List.headD_cons]
  by_cases h0 : signF (b :: l) = 0
  · rw [if_pos h0, if_pos h0]
  · rw [if_neg h0, if_neg h0]; rfl
/-- What token leaves. -/
def TokPost (A : Nat → Addr) (W : World) (B sb : Nat) (T : ByteArray) (p : Nat) (st : St) (r : TR) (e : Ending) (w' : World) : Prop := match r with
  | .bad j => ∃ v, e = .returned v ∧ FaultV A w' B v (p + j) ∧ Below B W w'
  | .ok k t n op => e = .returned .nilIface ∧ ScanAt w' B sb T (p + n) { st with toks := st.toks ++ [⟨k, t, p⟩], op := op } ∧ Below B W w'
theorem letters (b : UInt8) : lt b = true → (b.toNat : Int) ≠ 34 ∧ (b.toNat : Int) ≠ 39 := by
  intro h
  rw [lt_iff] at h
  have := of_decide_eq_true h
  omega
section
variable {W : World} {B sb : Nat} {T : ByteArray} {p : Nat} {st : St}
set_option maxRecDepth 10000 in
set_option maxHeartbeats 3200000 in
theorem token_any (A : Nat → Addr) (h : ScanAt W B sb T p st) (hp : p < T.size) (hT : T.size ≤ 800000) (hl : st.toks.length < 1000000) (hol : st.op.length ≤ 60) (hw : WordsAt W) (hE : W.cell? ⟨4, 0, none⟩ = some (E A 0)) (hEB : 4 < B) :
    Calls Tryz.prog 96 #[.pointer (some ⟨sb, 0, none⟩)] W (TokPost A W B sb T p st (tokF st.op (T.data.toList.drop p))) := by
  have h0 := h
  obtain ⟨res, hres⟩ : ∃ r, tokF st.op (T.data.toList.drop p) = r := ⟨_, rfl⟩
  rw [hres]
  obtain ⟨vt, vb, vo, D⟩ := h
  obtain ⟨c0, c1, c2, c3, c4⟩ := D.cells
  have hne := drop_at T p hp
  obtain ⟨b, hb⟩ : ∃ b, T[p] = b := ⟨_, rfl⟩
  have hne' : T.data.toList.drop p = b :: T.data.toList.drop (p + 1) := by rw [← hb]; exact hne
  have hlt' : (p : Int) < (T.size : Int) := by omega
  have hidx : ∀ W, (Instr.index 9 (.string T) (.int .i64 (p : Int))).run Tryz.prog W = .ok (.int .u8 (b.toNat : Int)) W := fun W => by
    rw [← hb]
    go_simp
  have HL := hid' (isLetter_tells b)
  have HDG := hid' (isDigit_tells b)
  have HH := hid' h0
  have HW := hid' hw
  have HE := hid' hE
  clear D c2 c3 c4 h0 hw hE
  rcases Bool.eq_false_or_eq_true (lt b) with e1 | e1
  · have hr := tokF_name st.op b (T.data.toList.drop (p + 1)) e1
    rw [← hne'] at hr
    rw [hres] at hr
    have HR := hid' hr
    have HN := hid' (fun q => name_any (W := W.drewN q) (HH.out.drewN q) (by omega) (by omega) hl (fun j v hv => HW.out j v hv))
    have HL' : Hid (∀ w, Calls Tryz.prog 112 #[.int .u8 (b.toNat : Int)] w fun e w' => e = .returned (.bool true) ∧ w' = w) := hid' (fun w => by have := HL.out w; rwa [e1] at this)
    clear hr hres hb hne hne' e1 HL
    go_enter Tryz.func96, Tryz.ntmps96
    go_wp2_with fail
    go_quiet (fail)
    go_wp2_with fail
    refine (HL'.out _).mono ?_
    rintro e w1 ⟨rfl, rfl⟩
    go_wp2_with fail
    refine (HN.out _).mono ?_
    rintro e w4 ⟨rfl, h4, b4⟩
    have HS4 := hid' h4
    have HB4 : Hid (Below B W w4) := hid' ⟨b4.os, b4.tape, b4.output, b4.size, b4.block⟩
    clear h4 b4
    go_wp2
    go_ret
    rw [HR.out]; exact ⟨rfl, HS4.out, HB4.out⟩
  · have HL' : Hid (∀ w, Calls Tryz.prog 112 #[.int .u8 (b.toNat : Int)] w fun e w' => e = .returned (.bool false) ∧ w' = w) := hid' (fun w => by have := HL.out w; rwa [e1] at this)
    clear HL
    rcases Bool.eq_false_or_eq_true (dg b) with e2 | e2
    · have hr := tokF_num st.op b (T.data.toList.drop (p + 1)) e1 e2
      rw [← hne'] at hr
      rw [hres] at hr
      have HR := hid' hr
      have HN := hid' (fun q => number_any (W := W.drewN q) A (HH.out.drewN q) hp (by omega) hl HE.out)
      have HDG' : Hid (∀ w, Calls Tryz.prog 82 #[.int .u8 (b.toNat : Int)] w fun e w' => e = .returned (.bool true) ∧ w' = w) := hid' (fun w => by have := HDG.out w; rwa [e2] at this)
      clear hr hres hb hne hne' e1 e2 HDG
      generalize badNum (T.data.toList.drop p) = bad at HN HR
      go_enter Tryz.func96, Tryz.ntmps96
      go_wp2_with fail
      go_quiet (fail)
      go_wp2_with fail
      refine (HL'.out _).mono ?_
      rintro e w1 ⟨rfl, rfl⟩
      go_wp2_with fail
      refine (HDG'.out _).mono ?_
      rintro e w1 ⟨rfl, rfl⟩
      go_wp2_with fail
      refine (HN.out _).mono ?_
      rintro e w4 ⟨hbad, hok⟩
      have HBAD := hid' hbad
      have HOK := hid' hok
      clear hbad hok
      cases bad with
      | true =>
        obtain ⟨v, rfl, h4, b4⟩ := HBAD.out rfl
        have HS4 := hid' h4
        have HB4 : Hid (Below B W w4) := hid' ⟨b4.os, b4.tape, b4.output, b4.size, b4.block⟩
        clear h4 b4 HBAD HOK
        go_wp2
        go_ret
        rw [HR.out]; exact ⟨v, rfl, HS4.out, HB4.out⟩
      | false =>
        obtain ⟨rfl, h4, b4⟩ := HOK.out rfl
        have HS4 := hid' h4
        have HB4 : Hid (Below B W w4) := hid' ⟨b4.os, b4.tape, b4.output, b4.size, b4.block⟩
        clear h4 b4 HBAD HOK
        go_wp2
        go_ret
        rw [HR.out]; exact ⟨rfl, HS4.out, HB4.out⟩
    · have HDG' : Hid (∀ w, Calls Tryz.prog 82 #[.int .u8 (b.toNat : Int)] w fun e w' => e = .returned (.bool false) ∧ w' = w) := hid' (fun w => by have := HDG.out w; rwa [e2] at this)
      clear HDG
      have b34 := byte_eq b 34
      have b39 := byte_eq b 39
      rw [show (((34 : UInt8).toNat : Nat) : Int) = 34 from rfl] at b34
      rw [show (((39 : UInt8).toNat : Nat) : Int) = 39 from rfl] at b39
      by_cases hq : b = 34 ∨ b = 39
      · have hr := tokF_quo st.op b (T.data.toList.drop (p + 1)) e1 e2 hq
        rw [← hne'] at hr
        rw [hres] at hr
        have HR := hid' hr
        have HN := hid' (fun q => quoted_any (W := W.drewN q) A (HH.out.drewN q) hp hT hl HE.out hEB)
        rw [hb] at HN
        have hcase : ((b.toNat : Int) == 34) = true ∨ (((b.toNat : Int) == 34) = false ∧ ((b.toNat : Int) == 39) = true) := by
          rcases hq with rfl | rfl
          · exact .inl rfl
          · exact .inr ⟨rfl, rfl⟩
        clear hr hres hb hne hne' e1 e2 b34 b39 hq
        generalize quoF b (T.data.toList.drop (p + 1)) = qr at HN HR
        rcases hcase with h34 | ⟨h34, h39⟩
        all_goals (
          go_enter Tryz.func96, Tryz.ntmps96
          go_wp2_with fail
          go_quiet (fail)
          go_wp2_with fail
          refine (HL'.out _).mono ?_
          rintro e w1 ⟨rfl, rfl⟩
          go_wp2_with fail
          refine (HDG'.out _).mono ?_
          rintro e w1 ⟨rfl, rfl⟩
          go_wp2_with fail
          refine (HN.out _).mono ?_
          rintro e w4 ⟨hbad, hok⟩
          have HBAD := hid' hbad
          have HOK := hid' hok
          clear hbad hok
          cases qr with
          | inr j =>
            obtain ⟨v, rfl, h4, b4⟩ := HBAD.out j rfl
            have HS4 := hid' h4
            have HB4 : Hid (Below B W w4) := hid' ⟨b4.os, b4.tape, b4.output, b4.size, b4.block⟩
            clear h4 b4 HBAD HOK
            go_wp2
            go_ret
            rw [HR.out]; exact ⟨v, rfl, HS4.out, HB4.out⟩
          | inl sn =>
            obtain ⟨said, n⟩ := sn
            obtain ⟨rfl, h4, b4⟩ := HOK.out said n rfl
            have HS4 := hid' h4
            have HB4 : Hid (Below B W w4) := hid' ⟨b4.os, b4.tape, b4.output, b4.size, b4.block⟩
            clear h4 b4 HBAD HOK
            go_wp2
            go_ret
            rw [HR.out]; exact ⟨rfl, HS4.out, HB4.out⟩)
      · have hr := tokF_sgn st.op b (T.data.toList.drop (p + 1)) e1 e2 hq
        rw [← hne'] at hr
        rw [hres] at hr
        have HR := hid' hr
        have HN := hid' (fun q => sign_any (W := W.drewN q) A (HH.out.drewN q) hp hT hl hol HE.out hEB)
        simp only [not_or] at hq
        have h34 : ((b.toNat : Int) == 34) = false := by rw [← b34, beq_eq_false_iff_ne]; exact hq.1
        have h39 : ((b.toNat : Int) == 39) = false := by rw [← b39, beq_eq_false_iff_ne]; exact hq.2
        clear hr hres hb hne hne' e1 e2 b34 b39 hq
        generalize sgnF st.op (T.data.toList.drop p) = qr at HN HR
        go_enter Tryz.func96, Tryz.ntmps96
        go_wp2_with fail
        go_quiet (fail)
        go_wp2_with fail
        refine (HL'.out _).mono ?_
        rintro e w1 ⟨rfl, rfl⟩
        go_wp2_with fail
        refine (HDG'.out _).mono ?_
        rintro e w1 ⟨rfl, rfl⟩
        go_wp2_with fail
        refine (HN.out _).mono ?_
        rintro e w4 ⟨hbad, hok⟩
        have HBAD := hid' hbad
        have HOK := hid' hok
        clear hbad hok
        cases qr with
        | none =>
          obtain ⟨v, rfl, h4, b4⟩ := HBAD.out rfl
          have HS4 := hid' h4
          have HB4 : Hid (Below B W w4) := hid' ⟨b4.os, b4.tape, b4.output, b4.size, b4.block⟩
          clear h4 b4 HBAD HOK
          go_wp2
          go_ret
          rw [HR.out]; exact ⟨v, rfl, HS4.out, HB4.out⟩
        | some op' =>
          obtain ⟨rfl, h4, b4⟩ := HOK.out op' rfl
          have HS4 := hid' h4
          have HB4 : Hid (Below B W w4) := hid' ⟨b4.os, b4.tape, b4.output, b4.size, b4.block⟩
          clear h4 b4 HBAD HOK
          go_wp2
          go_ret
          rw [HR.out]; exact ⟨rfl, HS4.out, HB4.out⟩
end
end Go.Proofs.YtpjjofdphlgeiaaGreatDoor

namespace Go.Proofs.YtpjjofdphlgeiaaGreatDoor
open Go.RowKit
open Lx

/-- What the scanner's calls want of the world. -/
structure Env (A : Nat → Addr) (W : World) (B : Nat) : Prop where
  words : WordsAt W
  err : W.cell? ⟨4, 0, none⟩ = some (E A 0)
  wB : 17 < B
  eB : 4 < B
theorem Env.below {A : Nat → Addr} {W W' : World} {B : Nat} (h : Env A W B) (hb : Below B W W') : Env A W' B :=
  ⟨fun j v hv => (hb.cell (p := ⟨17, 0 + j, none⟩) h.wB).trans (h.words j v hv), (hb.cell (p := ⟨4, 0, none⟩) h.eB).trans h.err, h.wB, h.eB⟩
/-- The state is one of a scanner at place p, less than c beyond four a byte. -/
structure Good (c p : Nat) (st : St) : Prop where
  op : st.op.length ≤ 60
  bl : st.blocks.length ≤ 61
  last : st.blocks.getLast? = some 0
  cnt : st.toks.length + st.blocks.length ≤ 4 * p + c
theorem brkF_len {b : UInt8} {op op' : List UInt8} (h : brkF b op = some op') (hl : op.length ≤ 60) : op'.length ≤ 60 := by
  unfold brkF at h
  split at h
  · split at h
    · cases h; simp; omega
    · cases h
  · split at h
    · split at h
      · cases h; simp; omega
      · cases h
    · split at h
      · split at h
        · cases h; simp; omega
        · cases h
      · split at h
        · cases op with
          | nil => cases h
          | cons t r =>
            simp only at h
            split at h
            · cases h; simp at hl; omega
            · cases h
        · cases h; exact hl
theorem lenF_pos {p : UInt8 → Bool} {b : UInt8} {l : List UInt8} (h : p b = true) : 1 ≤ lenF p (b :: l) := by
  unfold lenF; rw [if_pos h]; omega
theorem tokF_ok {op : List UInt8} {l : List UInt8} {k n : Nat} {t : List UInt8} {op' : List UInt8} (h : tokF op l = .ok k t n op') (hl : op.length ≤ 60) : op'.length ≤ 60 ∧ 1 ≤ n ∧ n ≤ l.length := by
  cases l with
  | nil => cases h
  | cons b l =>
    rcases Bool.eq_false_or_eq_true (lt b) with e1 | e1
    · rw [tokF_name op b l e1] at h
      injection h with _ _ h3 h4
      subst h3 h4
      exact ⟨hl, lenF_pos (by unfold nb; rw [e1]; rfl), lenF_le _ _⟩
    · rcases Bool.eq_false_or_eq_true (dg b) with e2 | e2
      · rw [tokF_num op b l e1 e2] at h
        split at h
        · cases h
        · injection h with _ _ h3 h4
          subst h3 h4
          exact ⟨hl, lenF_pos e2, lenF_le _ _⟩
      · by_cases hq : b = 34 ∨ b = 39
        · rw [tokF_quo op b l e1 e2 hq] at h
          unfold quoF at h
          cases hc : closedF b false l with
          | none => rw [hc] at h; cases h
          | some m =>
            rw [hc] at h
            have hm := closedF_lt _ _ _ _ hc
            simp only at h
            rcases hu : unqF m (l.take m) with ⟨said, o⟩
            rw [hu] at h
            cases o with
            | none =>
              injection h with _ _ h3 h4
              subst h3 h4
              exact ⟨hl, by omega, by simp; omega⟩
            | some j => cases h
        · rw [tokF_sgn op b l e1 e2 hq] at h
          unfold sgnF at h
          by_cases h0 : signF (b :: l) = 0
          · rw [if_pos h0] at h; cases h
          · rw [if_neg h0, List.headD_cons] at h
            cases hb : brkF b op with
            | none => rw [hb] at h; cases h
            | some o2 =>
              rw [hb] at h
              injection h with _ _ h3 h4
              subst h3 h4
              exact ⟨brkF_len hb hl, by omega, signF_le _⟩
def endF (p : Nat) (st : St) : RR := if st.op = [] then .ok (st.toks ++ deds (st.blocks.takeWhile (0 < ·)).length p ++ [⟨8, [], p⟩]) else .bad p
def contF (n p : Nat) (st : St) : List UInt8 → RR
  | [] => endF p st
  | _ :: r => goF n false (p + 1) st r
def nlF (st : St) (p : Nat) : St := if st.op = [] then { st with toks := st.toks ++ [⟨5, [], p⟩] } else st
theorem goF_mid (n p : Nat) (st : St) (l : List UInt8) : goF (n + 1) true p st l = (if ends l then
        (match l with
        | [] => if st.op = [] then .ok ((st.toks ++ [⟨5, [], p⟩]) ++ List.replicate (st.blocks.takeWhile (0 < ·)).length ⟨7, [], p⟩ ++ [⟨8, [], p⟩]) else .bad p
        | _ :: r => goF n false (p + 1) (if st.op = [] then { st with toks := st.toks ++ [⟨5, [], p⟩] } else st) r)
      else match tokF st.op l with
        | .bad j => .bad (p + j)
        | .ok k t m op => goF n true (p + m + gapF (l.drop m)) { st with toks := st.toks ++ [⟨k, t, p⟩], op := op } ((l.drop m).drop (gapF (l.drop m)))) := rfl
theorem goF_new (n p : Nat) (st : St) (l : List UInt8) : goF (n + 1) false p st l = (if ends (l.drop (gapF l)) then
        (match l.drop (gapF l) with
        | [] => if st.op = [] then .ok (st.toks ++ List.replicate (st.blocks.takeWhile (0 < ·)).length ⟨7, [], p + gapF l⟩ ++ [⟨8, [], p + gapF l⟩]) else .bad (p + gapF l)
        | _ :: r => goF n false (p + gapF l + 1) st r)
      else if st.op = [] then
        (match indF (gapF l) (p + gapF l) st.toks st.blocks with
        | none => .bad (p + gapF l)
        | some (toks, bl) => goF n true (p + gapF l) { st with toks := toks, blocks := bl } (l.drop (gapF l)))
      else goF n true (p + gapF l) st (l.drop (gapF l))) := rfl
theorem goF_mid_end (n p : Nat) (st : St) (l : List UInt8) (h : ends l = true) : goF (n + 1) true p st l = contF n p (nlF st p) l := by
  rw [goF_mid, if_pos h]
  cases l with
  | nil =>
    show (if st.op = [] then _ else _) = endF p (nlF st p)
    unfold endF nlF
    by_cases e : st.op = []
    · rw [if_pos e, if_pos e, if_pos e]; rfl
    · rw [if_neg e, if_neg e, if_neg e]
  | cons b r => rfl
theorem goF_mid_tok (n p : Nat) (st : St) (l : List UInt8) (h : ends l = false) : goF (n + 1) true p st l = match tokF st.op l with
    | .bad j => .bad (p + j)
    | .ok k t m op => goF n true (p + m + gapF (l.drop m)) { st with toks := st.toks ++ [⟨k, t, p⟩], op := op } ((l.drop m).drop (gapF (l.drop m))) := by
  rw [goF_mid, if_neg (by rw [h]; simp)]
theorem goF_line_end (n p : Nat) (st : St) (l : List UInt8) (h : ends (l.drop (gapF l)) = true) : goF (n + 1) false p st l = contF n (p + gapF l) st (l.drop (gapF l)) := by
  rw [goF_new, if_pos h]
  cases l.drop (gapF l) with
  | nil => rfl
  | cons b r => rfl
theorem goF_line_open (n p : Nat) (st : St) (l : List UInt8) (h : ends (l.drop (gapF l)) = false) (ho : st.op ≠ []) : goF (n + 1) false p st l = goF n true (p + gapF l) st (l.drop (gapF l)) := by
  rw [goF_new, if_neg (by rw [h]; simp), if_neg ho]
theorem goF_line_ind (n p : Nat) (st : St) (l : List UInt8) (h : ends (l.drop (gapF l)) = false) (ho : st.op = []) : goF (n + 1) false p st l = match indF (gapF l) (p + gapF l) st.toks st.blocks with
    | none => .bad (p + gapF l)
    | some (toks, bl) => goF n true (p + gapF l) { st with toks := toks, blocks := bl } (l.drop (gapF l)) := by
  rw [goF_new, if_neg (by rw [h]; simp), if_pos ho]
theorem gapF_le (l : List UInt8) : gapF l ≤ l.length := by
  unfold gapF
  have h1 := lenF_le sp l
  split
  · exact h1
  · next b r hb =>
    have h2 := lenF_le tb (b :: r)
    rw [← hb, List.length_drop] at h2
    split
    · exact h1
    · split
      · rw [← hb] at *; omega
      · exact h1
end Go.Proofs.YtpjjofdphlgeiaaGreatDoor

namespace Go.Proofs.YtpjjofdphlgeiaaGreatDoor
open Go.RowKit
open Lx

def LinePost (A : Nat → Addr) (W : World) (B sb : Nat) (T : ByteArray) (R : RR) (p : Nat) (e : Ending) (w' : World) : Prop :=
  (∃ v pos, R = .bad pos ∧ e = .returned v ∧ FaultV A w' B v pos ∧ Below B W w') ∨
  (∃ q st' n', e = .returned .nilIface ∧ p ≤ q ∧ q ≤ T.size ∧ ends (T.data.toList.drop q) = true ∧ ScanAt w' B sb T q st' ∧ Good 4 q st' ∧ R = contF n' q st' (T.data.toList.drop q) ∧ 2 * (T.size - q) ≤ n' ∧ Below B W w')
theorem Good.more {c c' p p' : Nat} {st : St} (h : Good c p st) (hc : 4 * p + c ≤ 4 * p' + c') : Good c' p' st := ⟨h.op, h.bl, h.last, Nat.le_trans h.cnt hc⟩
theorem lenDrop (T : ByteArray) (p : Nat) : (T.data.toList.drop p).length = T.size - p := by rw [List.length_drop, Array.length_toList]; rfl
/-- In the midst of a line, at the loop's head. -/
def MidAt (W0 : World) (A : Nat → Addr) (B sb : Nat) (T : ByteArray) (R : RR) (p0 q : Nat) (st : St) (wr : World) : Prop :=
  p0 ≤ q ∧ q ≤ T.size ∧ ScanAt wr B sb T q st ∧ Good 3 q st ∧ (∃ n, R = goF n true q st (T.data.toList.drop q) ∧ 2 * (T.size - q) + 1 ≤ n) ∧ Env A wr B ∧ Below B W0 wr
section
variable {W : World} {B sb : Nat} {T : ByteArray} {p : Nat} {st : St}
set_option maxRecDepth 10000 in
set_option maxHeartbeats 6400000 in
theorem line_any (A : Nat → Addr) (h : ScanAt W B sb T p st) (hE : Env A W B) (hG : Good 1 p st) (hp : p ≤ T.size) (hT : T.size ≤ 200000) (R : RR) (n : Nat) (hR : R = goF n false p st (T.data.toList.drop p)) (hn : 2 * (T.size - p) + 2 ≤ n) :
    Calls Tryz.prog 70 #[.pointer (some ⟨sb, 0, none⟩)] W (LinePost A W B sb T R p) := by
  obtain ⟨m, rfl⟩ : ∃ m, n = m + 1 := ⟨n - 1, by omega⟩
  have hgl := gapF_le (T.data.toList.drop p)
  rw [lenDrop] at hgl
  have HGAP := hid' (gap_any h hp (by omega))
  have hdd : (T.data.toList.drop p).drop (gapF (T.data.toList.drop p)) = T.data.toList.drop (p + gapF (T.data.toList.drop p)) := List.drop_drop
  have hA := goF_line_end m p st (T.data.toList.drop p)
  have hB1 := goF_line_open m p st (T.data.toList.drop p)
  have hC := goF_line_ind m p st (T.data.toList.drop p)
  rw [hdd] at hA hB1 hC
  rw [← hR] at hA hB1 hC
  obtain ⟨g, hg⟩ : ∃ g, gapF (T.data.toList.drop p) = g := ⟨_, rfl⟩
  rw [hg] at hA hB1 hC hgl HGAP
  obtain ⟨q, hq⟩ : ∃ q, p + g = q := ⟨_, rfl⟩
  rw [hq] at hA hB1 hC HGAP
  have hqT : q ≤ T.size := by omega
  have hsub : (q : Int) - (p : Int) = (g : Int) := by omega
  have HSUB := hid' hsub
  have HA := hid' hA
  have HB1 := hid' hB1
  have HC := hid' hC
  have HG := hid' hG
  have HE := hid' hE
  have hpq : p ≤ q := by omega
  have hgq : g ≤ q := by omega
  obtain ⟨vt, vb, vo, D⟩ := h
  obtain ⟨c0, c1, c2, c3, c4⟩ := D.cells
  have hBW : B ≤ W.heap.size := by have := D.high; have := D.lt; omega
  clear D c0 c2 c3 c4 hA hB1 hC hG hE hR hg hdd hsub
  go_enter Tryz.func70, Tryz.ntmps70
  go_wp2_with fail
  refine (HGAP.out).mono ?_
  rintro e w1 ⟨rfl, S1, b1⟩
  have HS1 := hid' S1
  have HB := hid' b1
  have HLE := hid' (lineEnds_any S1 hqT)
  have hbw := b1.size
  clear S1 b1 HGAP c1
  go_wp2_with fail
  refine (HLE.out).mono ?_
  rintro e w2 ⟨rfl, k2, rfl⟩
  generalize hw : w1.drewN k2 = w3
  have S3 : ScanAt w3 B sb T q st := by rw [← hw]; exact HS1.out.drewN k2
  have B3 : Below B W w3 := by rw [← hw]; exact ⟨HB.out.os, HB.out.tape, HB.out.output, HB.out.size, HB.out.block⟩
  have E3 : Env A w3 B := HE.out.below B3
  have hs3 := B3.size
  clear hw HS1 HB HLE hbw
  rcases Bool.eq_false_or_eq_true (ends (T.data.toList.drop q)) with e1 | e1
  · have hres : LinePost A W B sb T R p (.returned .nilIface) w3 := .inr ⟨q, st, m, rfl, hpq, hqT, e1, S3, HG.out.more (by omega), HA.out e1, by omega, B3⟩
    have HRES := hid' hres
    rw [e1]
    clear S3 B3 E3 e1 hres HA HB1 HC
    go_wp2
    go_ret
    exact HRES.out
  · rw [e1]
    obtain ⟨ut, ub, uo, D3⟩ := S3
    obtain ⟨c0, c1, c2, c3, c4⟩ := D3.cells
    obtain ⟨ao, cap, eo, _⟩ := own_form D3.opn
    rw [eo] at c4
    have HS3 : Hid (ScanAt w3 B sb T q st) := hid' ⟨_, _, _, D3⟩
    have HB3 := hid' B3
    have HE3 := hid' E3
    have HO := hid' HG.out.op
    clear D3 B3 E3 eo c0 c2 c3
    by_cases ho : st.op = []
    · have hol : st.op.length = 0 := by rw [ho]; rfl
      rw [hol] at c4
      have hI := HC.out e1 ho
      have HOO := hid' ho
      clear HA HB1 HC e1 hol
      cases hbl : st.blocks with
      | nil => have := HG.out.last; rw [hbl] at this; cases this
      | cons b0 bs =>
        have HBL := hid' hbl
        have hbs : bs.length + 1 ≤ 61 := by have := HG.out.bl; rw [hbl] at this; simpa using this
        have HI := hid' hI
        have hcnt := HG.out.cnt
        clear hI hbl ho
        by_cases hlt : b0 < g
        · by_cases h60 : 60 < bs.length + 1
          · -- too deep
            have HD := hid' (indent_deep A HS3.out g b0 bs HBL.out hlt h60 (by omega) HE3.out.err)
            rw [← HSUB.out] at HD
            have hRb : Hid (R = .bad q) := hid' (by
              rw [HI.out]
              unfold indF
              rw [HBL.out, List.headD_cons, if_pos hlt, if_pos (by simpa using h60)])
            go_wp2_with fail
            refine (HD.out).mono ?_
            rintro e w7 ⟨v, rfl, hv, b7⟩
            obtain ⟨gb, rfl, hv2, hv3⟩ := hv
            have HRES : Hid (LinePost A W B sb T R p (.returned (.iface 67 (.pointer (some ⟨gb, 0, none⟩)))) w7) := hid' (.inl ⟨_, _, hRb.out, rfl, ⟨gb, rfl, hv2, hv3⟩, HB3.out.trans b7⟩)
            clear b7 hv2 hv3
            go_wp2
            go_ret
            exact HRES.out
          · have HU := hid' (indent_up HS3.out g b0 bs HBL.out hlt (by omega) (by omega) (by omega))
            rw [← HSUB.out] at HU
            have HRI : Hid (R = goF m true q { st with toks := st.toks ++ [⟨6, [], q⟩], blocks := g :: st.blocks } (T.data.toList.drop q)) := hid' (by
              rw [HI.out]
              unfold indF
              rw [HBL.out, List.headD_cons, if_pos hlt, if_neg (by simpa using h60)])
            go_wp2_with fail
            refine (HU.out).mono ?_
            rintro e w4 ⟨rfl, S4, b4⟩
            have HM : Hid (MidAt W A B sb T R p q { st with toks := st.toks ++ [⟨6, [], q⟩], blocks := g :: st.blocks } w4) := hid' ⟨hpq, hqT, S4, ⟨HG.out.op, by simp; rw [HBL.out]; simp; omega, by have := HG.out.last; rw [HBL.out] at this ⊢; simpa using this, by have := HG.out.cnt; simp; omega⟩, ⟨m, HRI.out, by omega⟩, HE3.out.below b4, HB3.out.trans b4⟩
            clear S4 b4 HU
            go_wp2_with fail
            go_loopg [] (T.size - q) (fun gk wr => ∃ (q2 : Nat) (s2 : St), T.size - q2 = gk ∧ Hid (MidAt W A B sb T R p q2 s2 wr))
            case atStart => exact ⟨q, _, rfl, HM⟩
            case round =>
              clear HM
              obtain ⟨q2, s2, hgk, hm⟩ := hrel
              obtain ⟨m1, m2, m3, m4, ⟨n2, m5, m6⟩, m7, m8⟩ := hm.out
              obtain ⟨n3, rfl⟩ : ∃ n3, n2 = n3 + 1 := ⟨n2 - 1, by omega⟩
              have HLE := hid' (lineEnds_any m3 m2)
              have HX := hid' (And.intro m3 (And.intro m4 (And.intro m5 (And.intro m7 m8))))
              have HEND := hid' (goF_mid_end n3 q2 s2 (T.data.toList.drop q2))
              have HTOK := hid' (goF_mid_tok n3 q2 s2 (T.data.toList.drop q2))
              clear m3 m4 m5 m7 m8 hm
              go_wp2_with fail
              refine (HLE.out).mono ?_
              rintro e w5 ⟨rfl, k5, rfl⟩
              generalize hw : wr.drewN k5 = w6
              obtain ⟨m3, m4, m5, m7, m8⟩ := HX.out
              have S6 : ScanAt w6 B sb T q2 s2 := by rw [← hw]; exact m3.drewN k5
              have B6 : Below B W w6 := by rw [← hw]; exact ⟨m8.os, m8.tape, m8.output, m8.size, m8.block⟩
              have E6 : Env A w6 B := by rw [← hw]; exact ⟨m7.words, m7.err, m7.wB, m7.eB⟩
              have HR := hid' m5
              have HG2 := hid' m4
              clear hw m3 m4 m5 m7 m8 HLE HX
              have hcnt : s2.toks.length < 1000000 := by have := HG2.out.cnt; omega
              rcases Bool.eq_false_or_eq_true (ends (T.data.toList.drop q2)) with e2 | e2
              · rw [e2]
                obtain ⟨ut, ub, uo, D6⟩ := S6
                obtain ⟨d0, d1, d2, d3, d4⟩ := D6.cells
                obtain ⟨ao6, cap6, eo, _⟩ := own_form D6.opn
                rw [eo] at d4
                have HS6 : Hid (ScanAt w6 B sb T q2 s2) := hid' ⟨_, _, _, D6⟩
                have HB6 := hid' B6
                have hop6 := HG2.out.op
                clear D6 B6 E6 eo d0 d2 d3
                by_cases ho2 : s2.op = []
                · have hol2 : s2.op.length = 0 := by rw [ho2]; rfl
                  rw [hol2] at d4
                  have HAD := hid' (add_any HS6.out 5 ⟨#[]⟩ 0 (by omega) (by omega) hcnt)
                  have HRR : Hid (R = contF n3 q2 { s2 with toks := s2.toks ++ [⟨5, [], q2⟩] } (T.data.toList.drop q2)) := hid' (by
                    rw [HR.out, HEND.out e2]; unfold nlF; rw [if_pos ho2])
                  have HE2 := hid' e2
                  clear hol2 ho2 e2 HR HEND HTOK
                  go_wp2_with fail
                  refine (HAD.out).mono ?_
                  rintro e w7 ⟨rfl, S7, b7⟩
                  have HRES : Hid (LinePost A W B sb T R p (.returned .nilIface) w7) := hid' (.inr ⟨q2, _, n3, rfl, m1, m2, HE2.out, S7, ⟨HG2.out.op, HG2.out.bl, HG2.out.last, by have := HG2.out.cnt; simp; omega⟩, HRR.out, by omega, HB6.out.trans b7⟩)
                  clear S7 b7
                  go_wp2
                  go_ret
                  exact HRES.out
                · have hol2 : ((s2.op.length : Int) == 0) = false := by
                    rw [beq_eq_false_iff_ne]
                    have : s2.op.length ≠ 0 := fun h0 => ho2 (List.eq_nil_of_length_eq_zero h0)
                    omega
                  have hol3 : (s2.op.length == 0) = false := by
                    rw [beq_eq_false_iff_ne]
                    exact fun h0 => ho2 (List.eq_nil_of_length_eq_zero h0)
                  have HRES : Hid (LinePost A W B sb T R p (.returned .nilIface) w6) := hid' (.inr ⟨q2, s2, n3, rfl, m1, m2, e2, HS6.out, HG2.out.more (by omega), by rw [HR.out, HEND.out e2]; unfold nlF; rw [if_neg ho2], by omega, HB6.out⟩)
                  clear ho2 e2 HR HEND HTOK
                  go_wp2
                  go_ret
                  exact HRES.out
              · have hq2 : q2 < T.size := by
                  rcases Nat.lt_or_ge q2 T.size with h | h
                  · exact h
                  · have : q2 = T.size := by omega
                    rw [this, ends_end] at e2
                    cases e2
                have HT := hid' (token_any A S6 hq2 (by omega) hcnt HG2.out.op E6.words E6.err E6.eB)
                have HRT := hid' (HR.out.trans (HTOK.out e2))
                have HB6 := hid' B6
                have HE6 := hid' E6
                rw [e2]
                clear S6 B6 E6 e2 HR HEND HTOK
                obtain ⟨res, hres⟩ : ∃ r, tokF s2.op (T.data.toList.drop q2) = r := ⟨_, rfl⟩
                have HOK : Hid (∀ k t n op', res = .ok k t n op' → op'.length ≤ 60 ∧ 1 ≤ n ∧ n ≤ (T.data.toList.drop q2).length) := hid' (fun k t n op' hh => tokF_ok (hres.trans hh) HG2.out.op)
                rw [hres] at HT HRT
                clear hres
                go_wp2_with fail
                refine (HT.out).mono ?_
                intro e w7 hpost
                cases res with
                | bad j =>
                  obtain ⟨v, rfl, hv, b7⟩ := hpost
                  obtain ⟨gb, rfl, hv2, hv3⟩ := hv
                  have HRES : Hid (LinePost A W B sb T R p (.returned (.iface 67 (.pointer (some ⟨gb, 0, none⟩)))) w7) := hid' (.inl ⟨_, _, HRT.out, rfl, ⟨gb, rfl, hv2, hv3⟩, HB6.out.trans b7⟩)
                  clear b7 hv2 hv3 HT
                  go_wp2
                  go_ret
                  exact HRES.out
                | ok k t n op' =>
                  obtain ⟨rfl, S7, b7⟩ := hpost
                  obtain ⟨o1, o2, o3⟩ := HOK.out k t n op' rfl
                  rw [lenDrop] at o3
                  have HGP := hid' (gap_any S7 (by omega) (by omega))
                  have hgl2 := gapF_le (T.data.toList.drop (q2 + n))
                  rw [lenDrop] at hgl2
                  have HB7 := hid' (HB6.out.trans b7)
                  have HE7 := hid' (HE6.out.below b7)
                  have HRR : Hid (R = goF n3 true (q2 + n + gapF (T.data.toList.drop (q2 + n))) { s2 with toks := s2.toks ++ [⟨k, t, q2⟩], op := op' } (T.data.toList.drop (q2 + n + gapF (T.data.toList.drop (q2 + n))))) := hid' (by
                    have h := HRT.out
                    simp only [List.drop_drop] at h
                    exact h)
                  generalize gapF (T.data.toList.drop (q2 + n)) = g2 at HGP hgl2 HRR
                  clear S7 b7 HT HRT HOK
                  go_wp2_with fail
                  refine (HGP.out).mono ?_
                  rintro e w8 ⟨rfl, S8, b8⟩
                  have HM2 : Hid (MidAt W A B sb T R p (q2 + n + g2) { s2 with toks := s2.toks ++ [⟨k, t, q2⟩], op := op' } w8) := hid' ⟨by omega, by omega, S8, ⟨o1, HG2.out.bl, HG2.out.last, by have := HG2.out.cnt; simp; omega⟩, ⟨n3, HRR.out, by omega⟩, HE7.out.below b8, HB7.out.trans b8⟩
                  clear S8 b8
                  go_wp2
                  go_roundg (T.size - (q2 + n + g2))
                  case rel => exact ⟨_, _, rfl, HM2⟩
                  case measure => omega
        · have HD := hid' (indent_down A HS3.out g b0 bs HBL.out hlt (by omega) (by omega) (by have := HG.out.bl; omega) (by have := HG.out.bl; omega) HG.out.last HE3.out.err HE3.out.eB)
          rw [← HSUB.out] at HD
          have hI2 : R = if (st.blocks.dropWhile (g < ·)).headD 0 = g then goF m true q { st with toks := st.toks ++ deds (st.blocks.takeWhile (g < ·)).length q, blocks := st.blocks.dropWhile (g < ·) } (T.data.toList.drop q) else .bad q := by
            rw [HI.out]
            unfold indF
            rw [if_neg (by rw [HBL.out, List.headD_cons]; exact hlt)]
            by_cases h : (st.blocks.dropWhile (g < ·)).headD 0 = g
            · rw [if_pos h, if_pos h]; rfl
            · rw [if_neg h, if_neg h]
          have HI2 := hid' hI2
          have hbl2 : (st.blocks.dropWhile (g < ·)).length + (st.blocks.takeWhile (g < ·)).length = st.blocks.length := by
            have := congrArg List.length (List.takeWhile_append_dropWhile (p := fun x => decide (g < x)) (l := st.blocks))
            rw [List.length_append] at this
            omega
          have hlast2 := dropWhile_last g st.blocks HG.out.last
          have HL2 := hid' (And.intro hbl2 hlast2)
          clear hI2 HI hlt hbl2 hlast2
          go_wp2_with fail
          refine (HD.out).mono ?_
          rintro e w4 ⟨hok, hbad⟩
          by_cases hh : (st.blocks.dropWhile (g < ·)).headD 0 = g
          · obtain ⟨rfl, S4, b4⟩ := hok hh
            have HRI := hid' (HI2.out.trans (if_pos hh))
            have HM : Hid (MidAt W A B sb T R p q { st with toks := st.toks ++ deds (st.blocks.takeWhile (g < ·)).length q, blocks := st.blocks.dropWhile (g < ·) } w4) := hid' ⟨hpq, hqT, S4, ⟨HG.out.op, by have := HL2.out.1; have := HG.out.bl; simp only; omega, HL2.out.2, by have := HL2.out.1; have := HG.out.cnt; simp [deds]; omega⟩, ⟨m, HRI.out, by omega⟩, HE3.out.below b4, HB3.out.trans b4⟩
            clear S4 b4 HD hok hbad hh HI2 HL2
            go_wp2_with fail
            go_loopg [] (T.size - q) (fun gk wr => ∃ (q2 : Nat) (s2 : St), T.size - q2 = gk ∧ Hid (MidAt W A B sb T R p q2 s2 wr))
            case atStart => exact ⟨q, _, rfl, HM⟩
            case round =>
              clear HM
              obtain ⟨q2, s2, hgk, hm⟩ := hrel
              obtain ⟨m1, m2, m3, m4, ⟨n2, m5, m6⟩, m7, m8⟩ := hm.out
              obtain ⟨n3, rfl⟩ : ∃ n3, n2 = n3 + 1 := ⟨n2 - 1, by omega⟩
              have HLE := hid' (lineEnds_any m3 m2)
              have HX := hid' (And.intro m3 (And.intro m4 (And.intro m5 (And.intro m7 m8))))
              have HEND := hid' (goF_mid_end n3 q2 s2 (T.data.toList.drop q2))
              have HTOK := hid' (goF_mid_tok n3 q2 s2 (T.data.toList.drop q2))
              clear m3 m4 m5 m7 m8 hm
              go_wp2_with fail
              refine (HLE.out).mono ?_
              rintro e w5 ⟨rfl, k5, rfl⟩
              generalize hw : wr.drewN k5 = w6
              obtain ⟨m3, m4, m5, m7, m8⟩ := HX.out
              have S6 : ScanAt w6 B sb T q2 s2 := by rw [← hw]; exact m3.drewN k5
              have B6 : Below B W w6 := by rw [← hw]; exact ⟨m8.os, m8.tape, m8.output, m8.size, m8.block⟩
              have E6 : Env A w6 B := by rw [← hw]; exact ⟨m7.words, m7.err, m7.wB, m7.eB⟩
              have HR := hid' m5
              have HG2 := hid' m4
              clear hw m3 m4 m5 m7 m8 HLE HX
              have hcnt : s2.toks.length < 1000000 := by have := HG2.out.cnt; omega
              rcases Bool.eq_false_or_eq_true (ends (T.data.toList.drop q2)) with e2 | e2
              · rw [e2]
                obtain ⟨ut, ub, uo, D6⟩ := S6
                obtain ⟨d0, d1, d2, d3, d4⟩ := D6.cells
                obtain ⟨ao6, cap6, eo, _⟩ := own_form D6.opn
                rw [eo] at d4
                have HS6 : Hid (ScanAt w6 B sb T q2 s2) := hid' ⟨_, _, _, D6⟩
                have HB6 := hid' B6
                have hop6 := HG2.out.op
                clear D6 B6 E6 eo d0 d2 d3
                by_cases ho2 : s2.op = []
                · have hol2 : s2.op.length = 0 := by rw [ho2]; rfl
                  rw [hol2] at d4
                  have HAD := hid' (add_any HS6.out 5 ⟨#[]⟩ 0 (by omega) (by omega) hcnt)
                  have HRR : Hid (R = contF n3 q2 { s2 with toks := s2.toks ++ [⟨5, [], q2⟩] } (T.data.toList.drop q2)) := hid' (by
                    rw [HR.out, HEND.out e2]; unfold nlF; rw [if_pos ho2])
                  have HE2 := hid' e2
                  clear hol2 ho2 e2 HR HEND HTOK
                  go_wp2_with fail
                  refine (HAD.out).mono ?_
                  rintro e w7 ⟨rfl, S7, b7⟩
                  have HRES : Hid (LinePost A W B sb T R p (.returned .nilIface) w7) := hid' (.inr ⟨q2, _, n3, rfl, m1, m2, HE2.out, S7, ⟨HG2.out.op, HG2.out.bl, HG2.out.last, by have := HG2.out.cnt; simp; omega⟩, HRR.out, by omega, HB6.out.trans b7⟩)
                  clear S7 b7
                  go_wp2
                  go_ret
                  exact HRES.out
                · have hol2 : ((s2.op.length : Int) == 0) = false := by
                    rw [beq_eq_false_iff_ne]
                    have : s2.op.length ≠ 0 := fun h0 => ho2 (List.eq_nil_of_length_eq_zero h0)
                    omega
                  have hol3 : (s2.op.length == 0) = false := by
                    rw [beq_eq_false_iff_ne]
                    exact fun h0 => ho2 (List.eq_nil_of_length_eq_zero h0)
                  have HRES : Hid (LinePost A W B sb T R p (.returned .nilIface) w6) := hid' (.inr ⟨q2, s2, n3, rfl, m1, m2, e2, HS6.out, HG2.out.more (by omega), by rw [HR.out, HEND.out e2]; unfold nlF; rw [if_neg ho2], by omega, HB6.out⟩)
                  clear ho2 e2 HR HEND HTOK
                  go_wp2
                  go_ret
                  exact HRES.out
              · have hq2 : q2 < T.size := by
                  rcases Nat.lt_or_ge q2 T.size with h | h
                  · exact h
                  · have : q2 = T.size := by omega
                    rw [this, ends_end] at e2
                    cases e2
                have HT := hid' (token_any A S6 hq2 (by omega) hcnt HG2.out.op E6.words E6.err E6.eB)
                have HRT := hid' (HR.out.trans (HTOK.out e2))
                have HB6 := hid' B6
                have HE6 := hid' E6
                rw [e2]
                clear S6 B6 E6 e2 HR HEND HTOK
                obtain ⟨res, hres⟩ : ∃ r, tokF s2.op (T.data.toList.drop q2) = r := ⟨_, rfl⟩
                have HOK : Hid (∀ k t n op', res = .ok k t n op' → op'.length ≤ 60 ∧ 1 ≤ n ∧ n ≤ (T.data.toList.drop q2).length) := hid' (fun k t n op' hh => tokF_ok (hres.trans hh) HG2.out.op)
                rw [hres] at HT HRT
                clear hres
                go_wp2_with fail
                refine (HT.out).mono ?_
                intro e w7 hpost
                cases res with
                | bad j =>
                  obtain ⟨v, rfl, hv, b7⟩ := hpost
                  obtain ⟨gb, rfl, hv2, hv3⟩ := hv
                  have HRES : Hid (LinePost A W B sb T R p (.returned (.iface 67 (.pointer (some ⟨gb, 0, none⟩)))) w7) := hid' (.inl ⟨_, _, HRT.out, rfl, ⟨gb, rfl, hv2, hv3⟩, HB6.out.trans b7⟩)
                  clear b7 hv2 hv3 HT
                  go_wp2
                  go_ret
                  exact HRES.out
                | ok k t n op' =>
                  obtain ⟨rfl, S7, b7⟩ := hpost
                  obtain ⟨o1, o2, o3⟩ := HOK.out k t n op' rfl
                  rw [lenDrop] at o3
                  have HGP := hid' (gap_any S7 (by omega) (by omega))
                  have hgl2 := gapF_le (T.data.toList.drop (q2 + n))
                  rw [lenDrop] at hgl2
                  have HB7 := hid' (HB6.out.trans b7)
                  have HE7 := hid' (HE6.out.below b7)
                  have HRR : Hid (R = goF n3 true (q2 + n + gapF (T.data.toList.drop (q2 + n))) { s2 with toks := s2.toks ++ [⟨k, t, q2⟩], op := op' } (T.data.toList.drop (q2 + n + gapF (T.data.toList.drop (q2 + n))))) := hid' (by
                    have h := HRT.out
                    simp only [List.drop_drop] at h
                    exact h)
                  generalize gapF (T.data.toList.drop (q2 + n)) = g2 at HGP hgl2 HRR
                  clear S7 b7 HT HRT HOK
                  go_wp2_with fail
                  refine (HGP.out).mono ?_
                  rintro e w8 ⟨rfl, S8, b8⟩
                  have HM2 : Hid (MidAt W A B sb T R p (q2 + n + g2) { s2 with toks := s2.toks ++ [⟨k, t, q2⟩], op := op' } w8) := hid' ⟨by omega, by omega, S8, ⟨o1, HG2.out.bl, HG2.out.last, by have := HG2.out.cnt; simp; omega⟩, ⟨n3, HRR.out, by omega⟩, HE7.out.below b8, HB7.out.trans b8⟩
                  clear S8 b8
                  go_wp2
                  go_roundg (T.size - (q2 + n + g2))
                  case rel => exact ⟨_, _, rfl, HM2⟩
                  case measure => omega
          · obtain ⟨v, rfl, hv, b7⟩ := hbad hh
            have hRb : Hid (R = .bad q) := hid' (HI2.out.trans (if_neg hh))
            obtain ⟨gb, rfl, hv2, hv3⟩ := hv
            have HRES : Hid (LinePost A W B sb T R p (.returned (.iface 67 (.pointer (some ⟨gb, 0, none⟩)))) w4) := hid' (.inl ⟨_, _, hRb.out, rfl, ⟨gb, rfl, hv2, hv3⟩, HB3.out.trans b7⟩)
            clear b7 hv2 hv3 HD hok hbad hh HI2 HL2
            go_wp2
            go_ret
            exact HRES.out
    · have hol : ((st.op.length : Int) == 0) = false := by
        rw [beq_eq_false_iff_ne]
        have : st.op.length ≠ 0 := fun h0 => ho (List.eq_nil_of_length_eq_zero h0)
        omega
      have hol2 : (st.op.length == 0) = false := by
        rw [beq_eq_false_iff_ne]
        exact fun h0 => ho (List.eq_nil_of_length_eq_zero h0)
      have HM : Hid (MidAt W A B sb T R p q st w3) := hid' ⟨hpq, hqT, HS3.out, HG.out.more (by omega), ⟨m, HB1.out e1 ho, by omega⟩, HE3.out, HB3.out⟩
      clear HA HB1 HC e1 ho
      go_wp2_with fail
      go_loopg [] (T.size - q) (fun gk wr => ∃ (q2 : Nat) (s2 : St), T.size - q2 = gk ∧ Hid (MidAt W A B sb T R p q2 s2 wr))
      case atStart => exact ⟨q, _, rfl, HM⟩
      case round =>
        clear HM
        obtain ⟨q2, s2, hgk, hm⟩ := hrel
        obtain ⟨m1, m2, m3, m4, ⟨n2, m5, m6⟩, m7, m8⟩ := hm.out
        obtain ⟨n3, rfl⟩ : ∃ n3, n2 = n3 + 1 := ⟨n2 - 1, by omega⟩
        have HLE := hid' (lineEnds_any m3 m2)
        have HX := hid' (And.intro m3 (And.intro m4 (And.intro m5 (And.intro m7 m8))))
        have HEND := hid' (goF_mid_end n3 q2 s2 (T.data.toList.drop q2))
        have HTOK := hid' (goF_mid_tok n3 q2 s2 (T.data.toList.drop q2))
        clear m3 m4 m5 m7 m8 hm
        go_wp2_with fail
        refine (HLE.out).mono ?_
        rintro e w5 ⟨rfl, k5, rfl⟩
        generalize hw : wr.drewN k5 = w6
        obtain ⟨m3, m4, m5, m7, m8⟩ := HX.out
        have S6 : ScanAt w6 B sb T q2 s2 := by rw [← hw]; exact m3.drewN k5
        have B6 : Below B W w6 := by rw [← hw]; exact ⟨m8.os, m8.tape, m8.output, m8.size, m8.block⟩
        have E6 : Env A w6 B := by rw [← hw]; exact ⟨m7.words, m7.err, m7.wB, m7.eB⟩
        have HR := hid' m5
        have HG2 := hid' m4
        clear hw m3 m4 m5 m7 m8 HLE HX
        have hcnt : s2.toks.length < 1000000 := by have := HG2.out.cnt; omega
        rcases Bool.eq_false_or_eq_true (ends (T.data.toList.drop q2)) with e2 | e2
        · rw [e2]
          obtain ⟨ut, ub, uo, D6⟩ := S6
          obtain ⟨d0, d1, d2, d3, d4⟩ := D6.cells
          obtain ⟨ao6, cap6, eo, _⟩ := own_form D6.opn
          rw [eo] at d4
          have HS6 : Hid (ScanAt w6 B sb T q2 s2) := hid' ⟨_, _, _, D6⟩
          have HB6 := hid' B6
          have hop6 := HG2.out.op
          clear D6 B6 E6 eo d0 d2 d3
          by_cases ho2 : s2.op = []
          · have hol2 : s2.op.length = 0 := by rw [ho2]; rfl
            rw [hol2] at d4
            have HAD := hid' (add_any HS6.out 5 ⟨#[]⟩ 0 (by omega) (by omega) hcnt)
            have HRR : Hid (R = contF n3 q2 { s2 with toks := s2.toks ++ [⟨5, [], q2⟩] } (T.data.toList.drop q2)) := hid' (by
              rw [HR.out, HEND.out e2]; unfold nlF; rw [if_pos ho2])
            have HE2 := hid' e2
            clear hol2 ho2 e2 HR HEND HTOK
            go_wp2_with fail
            refine (HAD.out).mono ?_
            rintro e w7 ⟨rfl, S7, b7⟩
            have HRES : Hid (LinePost A W B sb T R p (.returned .nilIface) w7) := hid' (.inr ⟨q2, _, n3, rfl, m1, m2, HE2.out, S7, ⟨HG2.out.op, HG2.out.bl, HG2.out.last, by have := HG2.out.cnt; simp; omega⟩, HRR.out, by omega, HB6.out.trans b7⟩)
            clear S7 b7
            go_wp2
            go_ret
            exact HRES.out
          · have hol2 : ((s2.op.length : Int) == 0) = false := by
              rw [beq_eq_false_iff_ne]
              have : s2.op.length ≠ 0 := fun h0 => ho2 (List.eq_nil_of_length_eq_zero h0)
              omega
            have hol3 : (s2.op.length == 0) = false := by
              rw [beq_eq_false_iff_ne]
              exact fun h0 => ho2 (List.eq_nil_of_length_eq_zero h0)
            have HRES : Hid (LinePost A W B sb T R p (.returned .nilIface) w6) := hid' (.inr ⟨q2, s2, n3, rfl, m1, m2, e2, HS6.out, HG2.out.more (by omega), by rw [HR.out, HEND.out e2]; unfold nlF; rw [if_neg ho2], by omega, HB6.out⟩)
            clear ho2 e2 HR HEND HTOK
            go_wp2
            go_ret
            exact HRES.out
        · have hq2 : q2 < T.size := by
            rcases Nat.lt_or_ge q2 T.size with h | h
            · exact h
            · have : q2 = T.size := by omega
              rw [this, ends_end] at e2
              cases e2
          have HT := hid' (token_any A S6 hq2 (by omega) hcnt HG2.out.op E6.words E6.err E6.eB)
          have HRT := hid' (HR.out.trans (HTOK.out e2))
          have HB6 := hid' B6
          have HE6 := hid' E6
          rw [e2]
          clear S6 B6 E6 e2 HR HEND HTOK
          obtain ⟨res, hres⟩ : ∃ r, tokF s2.op (T.data.toList.drop q2) = r := ⟨_, rfl⟩
          have HOK : Hid (∀ k t n op', res = .ok k t n op' → op'.length ≤ 60 ∧ 1 ≤ n ∧ n ≤ (T.data.toList.drop q2).length) := hid' (fun k t n op' hh => tokF_ok (hres.trans hh) HG2.out.op)
          rw [hres] at HT HRT
          clear hres
          go_wp2_with fail
          refine (HT.out).mono ?_
          intro e w7 hpost
          cases res with
          | bad j =>
            obtain ⟨v, rfl, hv, b7⟩ := hpost
            obtain ⟨gb, rfl, hv2, hv3⟩ := hv
            have HRES : Hid (LinePost A W B sb T R p (.returned (.iface 67 (.pointer (some ⟨gb, 0, none⟩)))) w7) := hid' (.inl ⟨_, _, HRT.out, rfl, ⟨gb, rfl, hv2, hv3⟩, HB6.out.trans b7⟩)
            clear b7 hv2 hv3 HT
            go_wp2
            go_ret
            exact HRES.out
          | ok k t n op' =>
            obtain ⟨rfl, S7, b7⟩ := hpost
            obtain ⟨o1, o2, o3⟩ := HOK.out k t n op' rfl
            rw [lenDrop] at o3
            have HGP := hid' (gap_any S7 (by omega) (by omega))
            have hgl2 := gapF_le (T.data.toList.drop (q2 + n))
            rw [lenDrop] at hgl2
            have HB7 := hid' (HB6.out.trans b7)
            have HE7 := hid' (HE6.out.below b7)
            have HRR : Hid (R = goF n3 true (q2 + n + gapF (T.data.toList.drop (q2 + n))) { s2 with toks := s2.toks ++ [⟨k, t, q2⟩], op := op' } (T.data.toList.drop (q2 + n + gapF (T.data.toList.drop (q2 + n))))) := hid' (by
              have h := HRT.out
              simp only [List.drop_drop] at h
              exact h)
            generalize gapF (T.data.toList.drop (q2 + n)) = g2 at HGP hgl2 HRR
            clear S7 b7 HT HRT HOK
            go_wp2_with fail
            refine (HGP.out).mono ?_
            rintro e w8 ⟨rfl, S8, b8⟩
            have HM2 : Hid (MidAt W A B sb T R p (q2 + n + g2) { s2 with toks := s2.toks ++ [⟨k, t, q2⟩], op := op' } w8) := hid' ⟨by omega, by omega, S8, ⟨o1, HG2.out.bl, HG2.out.last, by have := HG2.out.cnt; simp; omega⟩, ⟨n3, HRR.out, by omega⟩, HE7.out.below b8, HB7.out.trans b8⟩
            clear S8 b8
            go_wp2
            go_roundg (T.size - (q2 + n + g2))
            case rel => exact ⟨_, _, rfl, HM2⟩
            case measure => omega
end
end Go.Proofs.YtpjjofdphlgeiaaGreatDoor

namespace Go.Proofs.YtpjjofdphlgeiaaGreatDoor
open Go.RowKit
open Lx

section
variable {W : World} {B sb : Nat} {T : ByteArray} {p : Nat} {st : St}
set_option maxRecDepth 10000 in
set_option maxHeartbeats 1600000 in
theorem end_bad (A : Nat → Addr) (h : ScanAt W B sb T p st) (ho : st.op ≠ []) (hol : st.op.length ≤ 1000) (hE : Env A W B) :
    Calls Tryz.prog 71 #[.pointer (some ⟨sb, 0, none⟩)] W fun e w' => ∃ v, e = .returned v ∧ FaultV A w' B v p ∧ Below B W w' := by
  obtain ⟨vt, vb, vo, D⟩ := h
  obtain ⟨c0, c1, c2, c3, c4⟩ := D.cells
  obtain ⟨ao, cap, eo, _⟩ := own_form D.opn
  rw [eo] at c4
  have hpos : (0 : Int) < (st.op.length : Int) := by
    have : st.op.length ≠ 0 := fun h0 => ho (List.eq_nil_of_length_eq_zero h0)
    omega
  have hBW : B ≤ W.heap.size := by have := D.high; have := D.lt; omega
  have HF := hid' (fault_any (B := B) A p W hE.err hBW)
  clear D eo c0 c2 c3 ho hE
  go_enter Tryz.func71, Tryz.ntmps71
  go_wp2_with fail
  refine (HF.out).mono ?_
  rintro e w7 ⟨v, rfl, hv, b7⟩
  have HV := hid' hv
  have HB := hid' (b7.mono hBW)
  clear hv b7
  go_wp2
  go_ret
  exact ⟨v, rfl, HV.out, HB.out⟩
set_option maxRecDepth 10000 in
set_option maxHeartbeats 1600000 in
theorem end_ok (h : ScanAt W B sb T p st) (ho : st.op = []) (hG : Good 4 p st) (hp : p ≤ 200000) :
    Calls Tryz.prog 71 #[.pointer (some ⟨sb, 0, none⟩)] W fun e w' => e = .returned .nilIface ∧ (∃ st', ScanAt w' B sb T p st' ∧ endF p st = .ok st'.toks) ∧ Below B W w' := by
  have HH := hid' h
  have hb := hG.bl
  have hc := hG.cnt
  have HD := hid' (dedent_any h 0 (by omega) (by omega) (by omega) (by omega) hG.last)
  obtain ⟨vt, vb, vo, D⟩ := h
  obtain ⟨c0, c1, c2, c3, c4⟩ := D.cells
  obtain ⟨ao, cap, eo, _⟩ := own_form D.opn
  rw [eo, show st.op.length = 0 by rw [ho]; rfl] at c4
  have htl : (st.blocks.takeWhile (0 < ·)).length ≤ st.blocks.length := (List.takeWhile_prefix (fun x => decide (0 < x)) (l := st.blocks)).length_le
  have HEF : Hid (endF p st = .ok (st.toks ++ deds (st.blocks.takeWhile (0 < ·)).length p ++ [⟨8, [], p⟩])) := hid' (by unfold endF; rw [if_pos ho])
  rw [show ((0 : Nat) : Int) = 0 from rfl] at HD
  clear D eo c0 c2 c3 ho hG
  generalize (st.blocks.takeWhile (0 < ·)).length = kk at HD htl HEF
  go_enter Tryz.func71, Tryz.ntmps71
  go_wp2_with fail
  refine (HD.out).mono ?_
  rintro e w7 ⟨rfl, S7, b7⟩
  have HAD := hid' (add_any S7 8 ⟨#[]⟩ 0 (by omega) (by omega) (by simp [deds]; omega))
  have HB := hid' b7
  clear S7 b7 HD
  go_wp2_with fail
  refine (HAD.out).mono ?_
  rintro e w8 ⟨rfl, S8, b8⟩
  have HRES : Hid ((∃ st', ScanAt w8 B sb T p st' ∧ endF p st = .ok st'.toks) ∧ Below B W w8) := hid' ⟨⟨_, S8, HEF.out⟩, HB.out.trans b8⟩
  clear S8 b8
  go_wp2
  go_ret
  exact ⟨rfl, HRES.out⟩
def AllPost (A : Nat → Addr) (W : World) (B sb : Nat) (T : ByteArray) (R : RR) (e : Ending) (w' : World) : Prop :=
  (∃ v pos, R = .bad pos ∧ e = .returned v ∧ FaultV A w' B v pos ∧ Below B W w') ∨ (∃ q st', R = .ok st'.toks ∧ e = .returned .nilIface ∧ ScanAt w' B sb T q st' ∧ Below B W w')
set_option maxRecDepth 10000 in
set_option maxHeartbeats 3200000 in
theorem all_any (A : Nat → Addr) (h : ScanAt W B sb T 0 ⟨[], [0], []⟩) (hE : Env A W B) (hT : T.size ≤ 100000) (R : RR) (hR : R = goF (2 * T.size + 2) false 0 ⟨[], [0], []⟩ T.data.toList) :
    Calls Tryz.prog 50 #[.pointer (some ⟨sb, 0, none⟩)] W (AllPost A W B sb T R) := by
  have HH := hid' h
  have HE := hid' hE
  have HR := hid' hR
  clear h hE hR
  go_enter Tryz.func50, Tryz.ntmps50
  go_wp2
  go_loopg [] (T.size + 1) (fun gk wr => ∃ (q : Nat) (st : St) (n : Nat), T.size + 1 - q = gk ∧ q ≤ T.size ∧ Hid (ScanAt wr B sb T q st) ∧ Hid (Good 1 q st) ∧ Hid (R = goF n false q st (T.data.toList.drop q)) ∧ 2 * (T.size - q) + 2 ≤ n ∧ Hid (Env A wr B) ∧ Hid (Below B W wr))
  case atStart => exact ⟨0, _, _, rfl, Nat.zero_le _, HH, hid' ⟨by simp, by simp, rfl, by simp⟩, hid' (by rw [List.drop_zero]; exact HR.out), by omega, HE, hid' (Below.refl _ _)⟩
  case round =>
    clear HH HE HR
    obtain ⟨q, st, n, hgk, hq, hs, hg, hr, hn, he, hb⟩ := hrel
    have HL := hid' (line_any A hs.out he.out hg.out hq (by omega) R n hr.out hn)
    clear hs hg hr
    go_wp2_with fail
    refine (HL.out).mono ?_
    intro e w7 hpost
    clear HL
    rcases hpost with ⟨v, pos, hRb, rfl, hv, b7⟩ | ⟨q2, st2, n2, rfl, h1, h2, h3, S7, hG7, hR7, hn7, b7⟩
    · obtain ⟨gb, rfl, hv2, hv3⟩ := hv
      have HRES : Hid (AllPost A W B sb T R (.returned (.iface 67 (.pointer (some ⟨gb, 0, none⟩)))) w7) := hid' (.inl ⟨_, _, hRb, rfl, ⟨gb, rfl, hv2, hv3⟩, hb.out.trans b7⟩)
      clear b7 hv2 hv3 hRb
      go_wp2
      go_ret
      exact HRES.out
    · obtain ⟨vt, vb, vo, D⟩ := S7
      obtain ⟨c0, c1, c2, c3, c4⟩ := D.cells
      have HD := hid' D
      have HG := hid' hG7
      have HR7 := hid' hR7
      have HB := hid' (hb.out.trans b7)
      have HE := hid' (he.out.below b7)
      have H3 := hid' h3
      clear D hG7 hR7 b7 c2 c3 c4 h3
      by_cases hq2 : q2 = T.size
      · subst hq2
        have hRe : R = endF T.size st2 := by
          rw [HR7.out, List.drop_eq_nil_of_le (by simp)]; rfl
        have HRe := hid' hRe
        clear hRe HR7 H3
        go_wp2_with fail
        go_quiet (fail)
        generalize hw : w7.drewN nq = w8
        have S8 : ScanAt w8 B sb T T.size st2 := by rw [← hw]; exact ⟨_, _, _, HD.out.keep fun _ _ _ => rfl⟩
        have B8 : Below B W w8 := by rw [← hw]; exact ⟨HB.out.os, HB.out.tape, HB.out.output, HB.out.size, HB.out.block⟩
        have E8 : Env A w8 B := by rw [← hw]; exact ⟨HE.out.words, HE.out.err, HE.out.wB, HE.out.eB⟩
        have HB8 := hid' B8
        by_cases ho : st2.op = []
        · have HEN := hid' (end_ok S8 ho HG.out (by omega))
          clear hw S8 B8 E8 HD HB HE c0 c1 ho
          go_wp2_with fail
          refine (HEN.out).mono ?_
          rintro e w9 ⟨rfl, ⟨st', S9, hef⟩, b9⟩
          have HRES : Hid (AllPost A W B sb T R (.returned .nilIface) w9) := hid' (.inr ⟨_, st', HRe.out.trans hef, rfl, S9, HB8.out.trans b9⟩)
          clear S9 b9 hef HEN
          go_wp2
          go_ret
          exact HRES.out
        · have HEN := hid' (end_bad A S8 ho (by have := HG.out.op; omega) E8)
          have hRb : Hid (R = .bad T.size) := hid' (by rw [HRe.out]; unfold endF; rw [if_neg ho])
          clear hw S8 B8 E8 HD HB HE c0 c1 ho
          go_wp2_with fail
          refine (HEN.out).mono ?_
          rintro e w9 ⟨v, rfl, hv, b9⟩
          have HRES : Hid (AllPost A W B sb T R (.returned v) w9) := hid' (.inl ⟨v, _, hRb.out, rfl, hv, HB8.out.trans b9⟩)
          clear hv b9 HEN
          go_wp2
          go_ret
          exact HRES.out
      · have hlt : q2 < T.size := by omega
        have hne : ((q2 : Int) == (T.size : Int)) = false := by rw [beq_eq_false_iff_ne]; omega
        have hne2 : (q2 == T.size) = false := by rw [beq_eq_false_iff_ne]; exact hq2
        have hRn : Hid (R = goF n2 false (q2 + 1) st2 (T.data.toList.drop (q2 + 1))) := hid' (by
          rw [HR7.out, drop_at T q2 hlt]; rfl)
        clear hq2 HR7 H3
        go_wp2_with fail
        go_quiet (fail)
        generalize hw : w7.drewN nq = w8
        have D8 : ScanV w8 B sb T q2 st2 vt vb vo := by rw [← hw]; exact HD.out.keep fun _ _ _ => rfl
        have B8 : Below B W w8 := by rw [← hw]; exact ⟨HB.out.os, HB.out.tape, HB.out.output, HB.out.size, HB.out.block⟩
        have E8 : Env A w8 B := by rw [← hw]; exact ⟨HE.out.words, HE.out.err, HE.out.wB, HE.out.eB⟩
        have bs : Below B w8 (w8.setCell ⟨sb, 1, none⟩ (.int .i64 ((q2 : Int) + 1))) := Below.setCell (Below.refl _ _) (p := ⟨sb, 1, none⟩) (by simp only; exact D8.high) _
        have HS9 : Hid (ScanAt (w8.setCell ⟨sb, 1, none⟩ (.int .i64 ((q2 : Int) + 1))) B sb T (q2 + 1) st2) := hid' (by
          rw [show (q2 : Int) + 1 = ((q2 + 1 : Nat) : Int) by omega]
          exact ⟨_, _, _, D8.setPos (q2 + 1)⟩)
        have HB9 := hid' (B8.trans bs)
        have HE9 := hid' (E8.below bs)
        have f1 := D8.open_ 1
        have d1 := D8.cells.2.1
        have HG9 : Hid (Good 1 (q2 + 1) st2) := hid' (HG.out.more (by omega))
        clear hw D8 B8 E8 bs HD HB HE c0 c1 HG
        go_wp2
        go_roundg (T.size + 1 - (q2 + 1))
        case rel => exact ⟨q2 + 1, st2, n2, rfl, by omega, HS9, HG9, hRn, by omega, HE9, HB9⟩
        case measure => omega
end
end Go.Proofs.YtpjjofdphlgeiaaGreatDoor

namespace Go.Proofs.YtpjjofdphlgeiaaGreatDoor
open Go.RowKit
open Lx

/-- A list of tokens in memory. -/
def ToksAt (W : World) (ao : Option Addr) (ts : List Tok) : Prop := ts = [] ∨ ∃ g, ao = some ⟨g, 0, none⟩ ∧ g < W.heap.size ∧ ∀ (j : Nat) t, ts[j]? = some t →
  W.cell? ⟨g, j * 3, none⟩ = some (.int .i64 (t.kind : Int)) ∧ W.cell? ⟨g, j * 3 + 1, none⟩ = some (.string (txt t.text)) ∧ W.cell? ⟨g, j * 3 + 2, none⟩ = some (.int .i64 (t.pos : Int))
theorem ToksAt.below {W W' : World} {ao : Option Addr} {ts : List Tok} (h : ToksAt W ao ts) (hb : Below W.heap.size W W') : ToksAt W' ao ts := by
  rcases h with h | ⟨g, h1, h2, h3⟩
  · exact .inl h
  · refine .inr ⟨g, h1, Nat.lt_of_lt_of_le h2 hb.size, fun j t ht => ?_⟩
    obtain ⟨a, b, c⟩ := h3 j t ht
    exact ⟨(hb.cell (p := ⟨g, j * 3, none⟩) h2).trans a, (hb.cell (p := ⟨g, j * 3 + 1, none⟩) h2).trans b, (hb.cell (p := ⟨g, j * 3 + 2, none⟩) h2).trans c⟩
theorem flat_tok : ∀ (ts : List Tok) (j : Nat) (t : Tok), ts[j]? = some t → (ts.flatMap tokC)[j * 3]? = some (.int .i64 (t.kind : Int)) ∧ (ts.flatMap tokC)[j * 3 + 1]? = some (.string (txt t.text)) ∧ (ts.flatMap tokC)[j * 3 + 2]? = some (.int .i64 (t.pos : Int))
  | [], j, t, h => by simp at h
  | a :: ts, 0, t, h => by
    obtain rfl : a = t := by simpa using h
    exact ⟨rfl, rfl, rfl⟩
  | a :: ts, j + 1, t, h => by
    have := flat_tok ts j t (by simpa using h)
    rw [List.flatMap_cons, show (j + 1) * 3 = j * 3 + 3 by omega]
    exact this
theorem toks_of {W : World} {B : Nat} {v : Value} {ts : List Tok} (h : W.ownsRow B 71 3 v ts.length (ts.flatMap tokC)) : ∃ ao cap, v = .slice ao ts.length cap ∧ ToksAt W ao ts := by
  by_cases h0 : ts = []
  · obtain ⟨ao, cap, e, _⟩ := own_form h
    exact ⟨ao, cap, e, .inl h0⟩
  · have hp : 0 < ts.length := List.length_pos_iff.2 h0
    obtain ⟨g, cap, e, _, _, hg, hx⟩ := own_some h hp
    refine ⟨_, cap, e, .inr ⟨g, rfl, hg, fun j t ht => ?_⟩⟩
    obtain ⟨a, b, c⟩ := flat_tok ts j t ht
    exact ⟨hx _ _ a, hx _ _ b, hx _ _ c⟩
def ScanPost (A : Nat → Addr) (W : World) (R : RR) (e : Ending) (w' : World) : Prop := Below W.heap.size W w' ∧ match R with
  | .bad pos => ∃ v, e = .returned (.tuple #[.slice none 0 0, v]) ∧ FaultV A w' W.heap.size v pos
  | .ok ts => ∃ ao cap, e = .returned (.tuple #[.slice ao ts.length cap, .nilIface]) ∧ ToksAt w' ao ts
/-- What the scanner's calls want of the world ahead of a call. -/
structure Vars (A : Nat → Addr) (W : World) : Prop where
  words : WordsAt W
  err : W.cell? ⟨4, 0, none⟩ = some (E A 0)
theorem Vars.below {A : Nat → Addr} {W W' : World} (h : Vars A W) (hb : Below W.heap.size W W') : Vars A W' := ⟨h.words.below hb, (hb.cell (World.block_lt_of_cell? W _ h.err)).trans h.err⟩
theorem Vars.env {A : Nat → Addr} {W : World} (h : Vars A W) : Env A W W.heap.size := ⟨h.words, h.err, World.block_lt_of_cell? W ⟨17, 0 + 0, none⟩ (h.words 0 _ rfl), World.block_lt_of_cell? W _ h.err⟩
theorem scan_start (W : World) (T : ByteArray) : ScanAt ((W.alloc (.cells #[.int .i64 0] 3)).alloc (.cells #[.string T, .int .i64 0, .slice none 0 0, .slice (some ⟨W.heap.size, 0, none⟩) 1 1, .slice none 0 0] 99)) W.heap.size (W.heap.size + 1) T 0 ⟨[], [0], []⟩ := by
  have h0 : ((W.alloc (.cells #[.int .i64 0] 3)).alloc (.cells #[.string T, .int .i64 0, .slice none 0 0, .slice (some ⟨W.heap.size, 0, none⟩) 1 1, .slice none 0 0] 99)).heap[W.heap.size]? = some (.cells #[.int .i64 0] 3 (0, 0)) := by
    rw [Below.heap_alloc _ _ _ (by simp)]
    exact heap_alloc_new W _
  refine ⟨.slice none 0 0, .slice (some ⟨W.heap.size, 0, none⟩) 1 1, .slice none 0 0, ⟨?_, ⟨rfl, .inl ⟨rfl, rfl⟩⟩, ⟨rfl, .inr ⟨W.heap.size, 1, #[.int .i64 0], rfl, Nat.le_refl _, h0, by simp, by unfold maxLen; simp, by simp, by simp [iv]⟩⟩, ⟨rfl, .inl ⟨rfl, rfl⟩⟩, by omega⟩⟩
  rw [show W.heap.size + 1 = (W.alloc (.cells #[.int .i64 0] 3)).heap.size by simp]
  exact heap_alloc_new _ _
set_option maxRecDepth 10000 in
set_option maxHeartbeats 1600000 in
theorem scan_any (A : Nat → Addr) (T : ByteArray) (hT : T.size ≤ 65536) (W : World) (hV : Vars A W) :
    Calls Tryz.prog 31 #[.string T] W (ScanPost A W (scanF T.data.toList)) := by
  obtain ⟨R, hR⟩ : ∃ R, scanF T.data.toList = R := ⟨_, rfl⟩
  rw [hR]
  unfold scanF at hR
  rw [show T.data.toList.length = T.size from by rw [Array.length_toList]; rfl] at hR
  have hb2 : Below W.heap.size W ((W.alloc (.cells #[.int .i64 0] 3)).alloc (.cells #[.string T, .int .i64 0, .slice none 0 0, .slice (some ⟨W.heap.size, 0, none⟩) 1 1, .slice none 0 0] 99)) := ((Below.refl _ _).alloc (Nat.le_refl _) _).alloc (by simp) _
  have HA := hid' (all_any A (scan_start W T) (hV.env.below hb2) (by omega) R hR.symm)
  have HB2 := hid' hb2
  have hT' : ¬ (65536 : Int) < (T.size : Int) := by omega
  clear hR hV hb2
  go_enter Tryz.func31, Tryz.ntmps31
  go_wp2_with fail
  refine (HA.out).mono ?_
  intro e w7 hpost
  clear HA
  rcases hpost with ⟨v, pos, rfl, rfl, hv, b7⟩ | ⟨q, st', rfl, rfl, S7, b7⟩
  · obtain ⟨gb, rfl, hv2, hv3⟩ := hv
    have HRES : Hid (ScanPost A W (.bad pos) (.returned (.tuple #[.slice none 0 0, .iface 67 (.pointer (some ⟨gb, 0, none⟩))])) w7) := hid' ⟨HB2.out.trans b7, _, rfl, ⟨gb, rfl, hv2, hv3⟩⟩
    clear b7 hv2 hv3 HB2
    go_wp2
    go_ret2
    exact HRES.out
  · obtain ⟨vt, vb, vo, D⟩ := S7
    obtain ⟨ao, cap, e, hts⟩ := toks_of D.toks
    obtain ⟨c0, c1, c2, c3, c4⟩ := D.cells
    rw [e] at c2
    have HRES : Hid (ScanPost A W (.ok st'.toks) (.returned (.tuple #[.slice ao st'.toks.length cap, .nilIface])) w7) := hid' ⟨HB2.out.trans b7, ao, cap, rfl, hts⟩
    clear b7 HB2 D e hts c0 c1 c3 c4
    go_wp2
    go_ret2
    exact HRES.out
end Go.Proofs.YtpjjofdphlgeiaaGreatDoor
