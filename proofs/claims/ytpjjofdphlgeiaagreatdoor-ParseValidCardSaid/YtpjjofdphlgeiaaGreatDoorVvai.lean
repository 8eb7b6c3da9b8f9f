/- Parts of the proof, together. What dedent and indent make of a scanner. Conditions: its blocks lie from block B on; short texts; the outermost block has no spaces. What indent makes of a scanner. Conditions: its blocks lie from block B on; short texts; the outermost block has no spaces; the error of api lies in its variable. What name and number make of a scanner. Conditions: its blocks lie from block B on; short texts; the words and the error of api lie in their variables. What number makes of a scanner. Conditions: its blocks lie from block B on; short texts; the error of api lies in its variable. What closed, hexDigit, hexPiece and pieceOf answer. Conditions: short texts. What hexDigit and hexPiece answer. Conditions: short texts. What pieceOf answers. Conditions: short texts. -/
import Derived.Deep.LoopGhost
import Derived.BigRegion
import Derived.Test.YtpjjofdphlgeiaaGreatDoorVvah
namespace Go.Proofs.YtpjjofdphlgeiaaGreatDoor
open Go.RowKit
open Lx

theorem slice_to (ao : Option Addr) (n m cap : Nat) (hm : m ≤ cap) (W : World) : (Instr.sliceAt 30 (.slice ao n cap) none (some (.int .i64 (m : Int))) none).run Tryz.prog W = .ok (.slice ao m cap) W := by
  have h : (m : Int) ≤ (cap : Int) := by omega
  go_simp
theorem slice_to8 (ao : Option Addr) (n m cap : Nat) (hm : m ≤ cap) (W : World) : (Instr.sliceAt 97 (.slice ao n cap) none (some (.int .i64 (m : Int))) none).run Tryz.prog W = .ok (.slice ao m cap) W := by
  have h : (m : Int) ≤ (cap : Int) := by omega
  go_simp
/-- Tokens that end k blocks. -/
def deds (k p : Nat) : List Tok := List.replicate k ⟨7, [], p⟩
theorem deds_succ (k p : Nat) : deds (k + 1) p = ⟨7, [], p⟩ :: deds k p := rfl
theorem deds_snoc (k p : Nat) : deds (k + 1) p = deds k p ++ [⟨7, [], p⟩] := List.replicate_succ'
section
variable {W : World} {B sb : Nat} {T : ByteArray} {p : Nat} {st : St}
theorem blks_cut {W : World} {B sb : Nat} {T : ByteArray} {p : Nat} {st : St} {vt vo : Value} {g n cap : Nat} (h : ScanV W B sb T p st vt (.slice (some ⟨g, 0, none⟩) n cap) vo) (b0 : Nat) (bs : List Nat) (hb : st.blocks = b0 :: bs) (hn : n = bs.length + 1) :
    ScanV (W.setCell ⟨sb, 3, none⟩ (.slice (some ⟨g, 0, none⟩) bs.length cap)) B sb T p { st with blocks := bs } vt (.slice (some ⟨g, 0, none⟩) bs.length cap) vo := by
  have h1 := h.blks
  rw [hb] at h1
  subst hn
  have h2 := own_less (m := bs.length) h1 (by omega)
  refine (h.setBlks (W' := W) (l := bs) ?_ (fun _ _ _ => rfl)).2.2
  rw [List.reverse_cons, List.map_append, List.take_append_of_le_length (by simp), List.take_of_length_le (by simp)] at h2
  exact h2
set_option maxRecDepth 10000 in
set_option maxHeartbeats 3200000 in
theorem dedent_any (h : ScanAt W B sb T p st) (n : Nat) (hn : n ≤ 1000000) (hp : p ≤ 1000000) (hl : st.toks.length + st.blocks.length < 1000000) (hbl : st.blocks.length ≤ 100) (hlast : st.blocks.getLast? = some 0) :
    Calls Tryz.prog 99 #[.pointer (some ⟨sb, 0, none⟩), .int .i64 (n : Int)] W fun e w' => e = .returned (.tuple #[]) ∧
      ScanAt w' B sb T p { st with toks := st.toks ++ deds (st.blocks.takeWhile (n < ·)).length p, blocks := st.blocks.dropWhile (n < ·) } ∧ Below B W w' := by
  have HH := hid' h
  have HL := hid' hlast
  have hB := h.lt
  clear h hlast
  go_enter Tryz.func99, Tryz.ntmps99
  go_wp2
  go_loopg [] st.blocks.length (fun gk wr => ∃ (k : Nat) (bs : List Nat), bs.length = gk ∧ st.blocks.dropWhile (n < ·) = bs.dropWhile (n < ·) ∧ k + (bs.takeWhile (n < ·)).length = (st.blocks.takeWhile (n < ·)).length ∧ bs.getLast? = some 0 ∧ k + bs.length ≤ st.blocks.length ∧ Hid (ScanAt wr B sb T p { st with toks := st.toks ++ deds k p, blocks := bs }) ∧ Hid (Below B W wr))
  case atStart => exact ⟨0, st.blocks, rfl, rfl, by omega, HL.out, by omega, by simpa [deds] using HH, hid' (Below.refl _ _)⟩
  case round =>
    obtain ⟨k, bs, hgk, e1, e2, e3, hbs, hs, hb⟩ := hrel
    cases bs with
    | nil => cases e3
    | cons b0 bs =>
      have HB := hid' (block_any hs.out b0 bs rfl (by simp at hbs; omega))
      have HE1 := hid' e1
      have HE2 := hid' e2
      have HE3 := hid' e3
      clear e1 e2 e3
      go_wp2_with fail
      refine (HB.out).mono ?_
      rintro e w1 ⟨rfl, m, rfl⟩
      obtain ⟨vt, vb, vo, D0⟩ := hs.out
      generalize hw2 : wr.drewN m = w2
      have D2 : ScanV w2 B sb T p { st with toks := st.toks ++ deds k p, blocks := b0 :: bs } vt vb vo := by rw [← hw2]; exact D0.keep fun _ _ _ => rfl
      have B2 : Below B W w2 := by rw [← hw2]; exact ⟨hb.out.os, hb.out.tape, hb.out.output, hb.out.size, hb.out.block⟩
      clear hw2 D0 hs hb HB
      by_cases hlt : n < b0
      · have hlt' : (n : Int) < (b0 : Int) := by omega
        obtain ⟨g, cap, rfl, hcap, _, _, _⟩ := own_some D2.blks (by simp)
        rw [List.length_cons] at D2 hcap
        have D3 := blks_cut D2 b0 bs rfl rfl
        obtain ⟨c0, c1, c2, c3, c4⟩ := D2.cells
        have f3 := D2.open_ 3
        have hsl := slice_to (some ⟨g, 0, none⟩) (bs.length + 1) bs.length cap (by omega)
        have hlb : bs.length ≤ 1000 := by have := hbs; simp at this; omega
        have HA := hid' (add_any (W := (w2.setCell ⟨sb, 3, none⟩ (.slice (some ⟨g, 0, none⟩) bs.length cap)).drew) ⟨_, _, _, D3.keep fun _ _ _ => rfl⟩ 7 ⟨#[]⟩ 0 hp (by omega) (by have := hbs; simp [deds] at this ⊢; omega))
        have HB3 : Hid (Below B W (w2.setCell ⟨sb, 3, none⟩ (.slice (some ⟨g, 0, none⟩) bs.length cap)).drew) := hid' (Below.setCell B2 (p := ⟨sb, 3, none⟩) (by simp only; exact hB.1) _).drew
        have HM : Hid ((b0 :: bs).dropWhile (n < ·) = bs.dropWhile (n < ·) ∧ ((b0 :: bs).takeWhile (n < ·)).length = (bs.takeWhile (n < ·)).length + 1) := hid' (by simp [hlt])
        have HN : Hid (bs.getLast? = some 0) := hid' (by
          cases bs with
          | nil => have h := HE3.out; simp at h; omega
          | cons b1 bs => have h := HE3.out; simpa using h)
        clear D2 D3 B2 c0 c1 c2 c4
        go_wp2_with fail
        go_region
        all_goals (
          go_wp2_with fail
          refine (HA.out).mono ?_
          rintro e w4 ⟨rfl, h4, b4⟩
          have HS4 : Hid (ScanAt w4 B sb T p { st with toks := st.toks ++ deds (k + 1) p, blocks := bs }) := hid' (by
            rw [deds_snoc, ← List.append_assoc]; exact h4)
          have HB4 := hid' (HB3.out.trans b4)
          clear h4 b4
          go_wp2
          go_roundg bs.length
          case rel => exact ⟨k + 1, bs, rfl, by rw [HE1.out, HM.out.1], by have := HE2.out; have := HM.out.2; omega, HN.out, by have := hbs; simp at this; omega, HS4, HB4⟩
          case measure => simp at hgk; omega)
      · have hlt' : ¬ (n : Int) < (b0 : Int) := by omega
        have HM : Hid ((b0 :: bs).dropWhile (n < ·) = b0 :: bs ∧ ((b0 :: bs).takeWhile (n < ·)).length = 0) := hid' (by simp [hlt])
        have HD2 := hid' D2
        have HB2 := hid' B2
        clear D2 B2
        go_wp2
        go_end0
        refine ⟨rfl, ?_, HB2.out⟩
        rw [HE1.out, HM.out.1, ← HE2.out, HM.out.2]
        exact ⟨_, _, _, HD2.out⟩
end
end Go.Proofs.YtpjjofdphlgeiaaGreatDoor

namespace Go.Proofs.YtpjjofdphlgeiaaGreatDoor
open Go.RowKit
open Lx

theorem dropWhile_last (n : Nat) : ∀ l : List Nat, l.getLast? = some 0 → (l.dropWhile (n < ·)).getLast? = some 0
  | [], h => by cases h
  | b :: l, h => by
    rw [List.dropWhile_cons]
    split
    · next hb =>
      cases l with
      | nil => simp at h hb; omega
      | cons c l => exact dropWhile_last n (c :: l) (by simpa using h)
    · exact h
/-- An append of one block's spaces in a plain region. -/
theorem blk_plain {ops : Array Oper} {rest : List Oper} {o : Oper} {a : Act} {Q : Exit → Act → World → Prop} {W : World} {B sb : Nat} {T : ByteArray} {p : Nat} {st : St} {vt vb vo : Value} (h : ScanV W B sb T p st vt vb vo) (n : Nat) (hl : st.blocks.length < 1000000) (hgd : o.guard = none) (x y : Operand)
    (ho : o.op = .call { callee := .builtin .append, args := #[x, y], argTypes := #[30, 30] }) (hx : a.eval x = vb) (hy : a.eval y = .slice (some ⟨W.heap.size, 0, none⟩) 1 1)
    (hK : ∀ g m cap w', w'.cell? ⟨sb, 3, none⟩ = some vb → w'.frozen? ⟨sb, 3, none⟩ = false → ScanV (w'.setCell ⟨sb, 3, none⟩ (.slice (some ⟨g, 0, none⟩) m cap)) B sb T p { st with blocks := n :: st.blocks } vt (.slice (some ⟨g, 0, none⟩) m cap) vo →
      Below B W (w'.setCell ⟨sb, 3, none⟩ (.slice (some ⟨g, 0, none⟩) m cap)) → wpList Tryz.prog ops Q rest (a.put o.dst (.slice (some ⟨g, 0, none⟩) m cap)) w') : wpList Tryz.prog ops Q (o :: rest) a (W.alloc (.cells #[.int .i64 (n : Int)] 3)) := by
  refine wpList_plain hgd fun K hKK => ?_
  obtain ⟨i0, hi, hz, hz1, hz2⟩ := info_parts info_int
  have hB : B ≤ W.heap.size := by have := h.high; have := h.lt; omega
  obtain ⟨u, w', hr, h1, h2, _, h4⟩ := run_append_own_at (P := Tryz.prog) (W.alloc (.cells #[.int .i64 (n : Int)] 3)) B 30 o.type 3 i0 _ 1 8 Tryz.underlying30 hi hz hz1 hz2 rfl (by decide) vb st.blocks.length (st.blocks.reverse.map iv)
    (h.blks.alloc _) ⟨W.heap.size, 0, none⟩ 1 1 [iv n] rfl (cell_one_new W _ _) (fun u hu => by simp at hu; subst hu; rfl) (by unfold maxLen; omega) (by omega) (by simp; omega)
  have hb : ∀ j, j < W.heap.size → vb.ownBlock ≠ some j → w'.heap[j]? = W.heap[j]? := fun j hj hne => (h2.block j (by simp; omega) (Ne.symm hne)).trans (Below.heap_alloc W _ j hj)
  obtain ⟨p1, p2, p3⟩ := h.setBlks (l := n :: st.blocks) (by rw [List.length_cons, List.reverse_cons, List.map_append]; exact h1) hb
  obtain ⟨g, cap, e, _⟩ := own_some p3.blks (by simp)
  subst e
  unfold Oper.wp execOp
  simp only [ho, resolve, invoke, builtin, Sem.run_bind, Sem.run_pure, Result.andThen_ok, List.map_toArray, List.map_cons, List.map_nil, hx, hy, hr]
  refine hKK _ _ (hK g _ cap w' p1 p2 p3 ?_)
  refine Below.setCell ?_ (by simp only; exact h.high) _
  exact ((Below.refl B W).alloc hB _).grown h2 (by simp; omega) fun j hj => (h.blks.lt j hj).1
section
variable {W : World} {B sb : Nat} {T : ByteArray} {p : Nat} {st : St}
set_option maxRecDepth 10000 in
set_option maxHeartbeats 3200000 in
theorem indent_up (h : ScanAt W B sb T p st) (n b0 : Nat) (bs : List Nat) (hb : st.blocks = b0 :: bs) (hlt : b0 < n) (hp : p ≤ 1000000) (hl : st.toks.length < 1000000) (hbl : bs.length + 1 ≤ 60) :
    Calls Tryz.prog 95 #[.pointer (some ⟨sb, 0, none⟩), .int .i64 (n : Int)] W fun e w' => e = .returned .nilIface ∧ ScanAt w' B sb T p { st with toks := st.toks ++ [⟨6, [], p⟩], blocks := n :: st.blocks } ∧ Below B W w' := by
  have HB := hid' (block_any h b0 bs hb (by omega))
  have HH := hid' h
  have HBL := hid' hb
  have hlt' : (b0 : Int) < (n : Int) := by omega
  clear h hb
  go_enter Tryz.func95, Tryz.ntmps95
  go_wp2_with fail
  refine (HB.out).mono ?_
  rintro e w1 ⟨rfl, m, rfl⟩
  obtain ⟨vt, vb, vo, D0⟩ := HH.out
  generalize hw2 : W.drewN m = w2
  have D2 : ScanV w2 B sb T p st vt vb vo := by rw [← hw2]; exact D0.keep fun _ _ _ => rfl
  have B2 : Below B W w2 := by rw [← hw2]; exact ⟨rfl, rfl, rfl, Nat.le_refl _, fun _ _ => rfl⟩
  obtain ⟨ao, cap, e, hcap⟩ := own_form D2.blks
  rw [HBL.out, List.length_cons] at e
  obtain ⟨c0, c1, c2, c3, c4⟩ := D2.cells
  have HV := hid' e
  rw [e] at c3
  have h60 : ¬ (60 : Int) < ((bs.length : Int) + 1) := by omega
  have hll : st.blocks.length < 1000000 := by rw [HBL.out]; simp; omega
  have HD2 := hid' D2
  have HB2 := hid' B2
  have HLL := hid' hll
  have HLT := hid' hl
  clear hw2 D0 D2 B2 HB e hcap c0 c1 c2 c4 hl hll
  go_wp2_with (at_builtin; refine blk_plain HD2.out n HLL.out rfl (.tmp 24) (.tmp 26) (by rfl) (by exact HV.out.symm) (by rfl) ?_; intro g2 n2 c2' w9 p1 p2 p3 p4; rw [HV.out] at p1; have HP3 := hid' p3; have HP4 := hid' p4; clear p3 p4)
  have HA := hid' (add_any ⟨_, _, _, HP3.out⟩ 6 ⟨#[]⟩ 0 hp (by omega) HLT.out)
  refine (HA.out).mono ?_
  rintro e w4 ⟨rfl, h4, b4⟩
  have HS4 := hid' h4
  have HB4 := hid' (HB2.out.trans (HP4.out.trans b4))
  clear h4 b4
  go_wp2
  go_ret
  exact ⟨rfl, HS4.out, HB4.out⟩
set_option maxRecDepth 10000 in
set_option maxHeartbeats 1600000 in
theorem indent_deep (A : Nat → Addr) (h : ScanAt W B sb T p st) (n b0 : Nat) (bs : List Nat) (hb : st.blocks = b0 :: bs) (hlt : b0 < n) (hbl : 60 < bs.length + 1) (hbl2 : bs.length ≤ 1000) (hE : W.cell? ⟨4, 0, none⟩ = some (E A 0)) :
    Calls Tryz.prog 95 #[.pointer (some ⟨sb, 0, none⟩), .int .i64 (n : Int)] W fun e w' => ∃ v, e = .returned v ∧ FaultV A w' B v p ∧ Below B W w' := by
  have HB := hid' (block_any h b0 bs hb hbl2)
  have HH := hid' h
  have HBL := hid' hb
  have HE := hid' hE
  have hlt' : (b0 : Int) < (n : Int) := by omega
  have hB := h.lt
  clear h hb hE
  go_enter Tryz.func95, Tryz.ntmps95
  go_wp2_with fail
  refine (HB.out).mono ?_
  rintro e w1 ⟨rfl, m, rfl⟩
  obtain ⟨vt, vb, vo, D0⟩ := HH.out
  generalize hw2 : W.drewN m = w2
  have D2 : ScanV w2 B sb T p st vt vb vo := by rw [← hw2]; exact D0.keep fun _ _ _ => rfl
  have B2 : Below B W w2 := by rw [← hw2]; exact ⟨rfl, rfl, rfl, Nat.le_refl _, fun _ _ => rfl⟩
  have E2 : w2.cell? ⟨4, 0, none⟩ = some (E A 0) := by rw [← hw2]; exact HE.out
  obtain ⟨ao, cap, e, hcap⟩ := own_form D2.blks
  rw [HBL.out, List.length_cons] at e
  obtain ⟨c0, c1, c2, c3, c4⟩ := D2.cells
  rw [e] at c3
  have h60 : (60 : Int) < ((bs.length : Int) + 1) := by omega
  have HF := hid' (fault_any (B := B) A p w2 E2 (by have := D2.lt; omega))
  have HB2 := hid' B2
  have hsz := D2.lt
  clear hw2 D0 D2 B2 E2 HB e hcap c0 c2 c4
  go_wp2_with fail
  refine (HF.out).mono ?_
  rintro e w4 ⟨v, rfl, h4, b4⟩
  have HF4 := hid' h4
  have HB4 := hid' (HB2.out.trans (b4.mono (by omega)))
  clear h4 b4
  go_wp2
  go_ret
  exact ⟨v, rfl, HF4.out, HB4.out⟩
set_option maxRecDepth 10000 in
set_option maxHeartbeats 1600000 in
theorem indent_down (A : Nat → Addr) (h : ScanAt W B sb T p st) (n b0 : Nat) (bs : List Nat) (hb : st.blocks = b0 :: bs) (hlt : ¬ b0 < n) (hn : n ≤ 1000000) (hp : p ≤ 1000000) (hl : st.toks.length + st.blocks.length < 1000000) (hbl : st.blocks.length ≤ 100) (hlast : st.blocks.getLast? = some 0) (hE : W.cell? ⟨4, 0, none⟩ = some (E A 0)) (hEB : 4 < B) :
    Calls Tryz.prog 95 #[.pointer (some ⟨sb, 0, none⟩), .int .i64 (n : Int)] W fun e w' => ((st.blocks.dropWhile (n < ·)).headD 0 = n → e = .returned .nilIface ∧ ScanAt w' B sb T p { st with toks := st.toks ++ deds (st.blocks.takeWhile (n < ·)).length p, blocks := st.blocks.dropWhile (n < ·) } ∧ Below B W w') ∧
      ((st.blocks.dropWhile (n < ·)).headD 0 ≠ n → ∃ v, e = .returned v ∧ FaultV A w' B v p ∧ Below B W w') := by
  have HB := hid' (block_any h b0 bs hb (by rw [hb] at hbl; simp at hbl; omega))
  have hlt' : ¬ (b0 : Int) < (n : Int) := by omega
  have HDD := hid' (fun m => dedent_any (W := W.drewN m) (h.drewN m) n hn hp hl hbl hlast)
  have HE := hid' hE
  have hB := h.lt
  obtain ⟨d0, ds, hd, hdl⟩ : ∃ d0 ds, st.blocks.dropWhile (n < ·) = d0 :: ds ∧ ds.length ≤ 1000 := by
    have hne : st.blocks.dropWhile (n < ·) ≠ [] := fun h0 => by
      have := dropWhile_last n _ hlast
      rw [h0] at this
      cases this
    obtain ⟨d0, ds, e⟩ := List.exists_cons_of_ne_nil hne
    have := (List.dropWhile_suffix (fun x => decide (n < x)) (l := st.blocks)).length_le
    rw [e] at this
    simp at this
    exact ⟨d0, ds, e, by omega⟩
  rw [hd] at HDD ⊢
  have HBS : Hid (∀ (w2 : World), ScanAt w2 B sb T p { st with toks := st.toks ++ deds (st.blocks.takeWhile (n < ·)).length p, blocks := d0 :: ds } → Calls Tryz.prog 117 #[.pointer (some ⟨sb, 0, none⟩)] w2 fun e w' => e = .returned (.int .i64 (d0 : Int)) ∧ ∃ n, w' = w2.drewN n) := hid' (fun w2 hw => block_any hw d0 ds rfl hdl)
  clear h hb hE hlast hd
  generalize (st.blocks.takeWhile (n < ·)).length = kk at HDD HBS ⊢
  go_enter Tryz.func95, Tryz.ntmps95
  go_wp2_with fail
  refine (HB.out).mono ?_
  rintro e w1 ⟨rfl, m, rfl⟩
  go_wp2_with fail
  refine (HDD.out m).mono ?_
  rintro e w3 ⟨rfl, S3, B3⟩
  have HB3 : Hid (Below B W w3) := hid' ⟨B3.os, B3.tape, B3.output, B3.size, B3.block⟩
  have HS3 := hid' S3
  have HBK := hid' (HBS.out w3 S3)
  clear S3 B3 HDD HB HBS
  go_wp2_with fail
  refine (HBK.out).mono ?_
  rintro e w4 ⟨rfl, m2, rfl⟩
  generalize hw5 : w3.drewN m2 = w5
  have S5 : ScanAt w5 B sb T p { st with toks := st.toks ++ deds kk p, blocks := d0 :: ds } := by rw [← hw5]; exact HS3.out.drewN _
  have B5 : Below B W w5 := by rw [← hw5]; exact ⟨HB3.out.os, HB3.out.tape, HB3.out.output, HB3.out.size, HB3.out.block⟩
  clear hw5 HB3 HS3 HBK
  by_cases hd0 : d0 = n
  · subst hd0
    have HS5 := hid' S5
    have HB5 := hid' B5
    clear S5 B5
    go_wp2
    go_ret
    exact ⟨fun _ => ⟨rfl, HS5.out, HB5.out⟩, fun h => absurd rfl h⟩
  · have hne : ((n : Int) == (d0 : Int)) = false := by rw [beq_eq_false_iff_ne]; omega
    have hne3 : ((n : Int) != (d0 : Int)) = true := by simp; omega
    have hne2 : (n == d0) = false := by rw [beq_eq_false_iff_ne]; omega
    have HNE := hid' hd0
    have E5 := (B5.cell (p := ⟨4, 0, none⟩) hEB).trans HE.out
    obtain ⟨vt, vb, vo, D5⟩ := S5
    obtain ⟨c0, c1, c2, c3, c4⟩ := D5.cells
    have HF := hid' (fault_any (B := B) A p w5 E5 (by have := D5.lt; omega))
    have HB5 := hid' B5
    have hsz := D5.lt
    clear D5 B5 E5 hd0 c0 c2 c3 c4
    go_wp2_with fail
    refine (HF.out).mono ?_
    rintro e w6 ⟨v, rfl, h6, b6⟩
    have HF6 := hid' h6
    have HB6 := hid' (HB5.out.trans (b6.mono (by omega)))
    clear h6 b6
    go_wp2
    go_ret
    exact ⟨fun h => absurd h HNE.out, fun _ => ⟨v, rfl, HF6.out, HB6.out⟩⟩
end
end Go.Proofs.YtpjjofdphlgeiaaGreatDoor

namespace Go.Proofs.YtpjjofdphlgeiaaGreatDoor
open Go.RowKit
open Lx

theorem ext_take (R : ByteArray) (n : Nat) : (R.extract 0 n).data.toList = R.data.toList.take n := by
  rw [ByteArray.data_extract, Array.toList_extract]
  simp [List.extract]
theorem slice_pre (R : ByteArray) (n : Nat) (h : n ≤ R.size) (W : World) : (Instr.sliceAt 9 (.string R) none (some (.int .i64 (n : Int))) none).run Tryz.prog W = .ok (.string (R.extract 0 n)) W := by
  have h1 : (n : Int) ≤ (R.size : Int) := by omega
  go_simp
theorem slice_suf (T : ByteArray) (p : Nat) (h : p ≤ T.size) (W : World) : (Instr.sliceAt 9 (.string T) (some (.int .i64 (p : Int))) none none).run Tryz.prog W = .ok (.string (T.extract p T.size)) W := by
  have h1 : (p : Int) ≤ (T.size : Int) := by omega
  go_simp
section
variable {W : World} {B sb : Nat} {T : ByteArray} {p : Nat} {st : St}
set_option maxRecDepth 10000 in
set_option maxHeartbeats 1600000 in
theorem name_any (h : ScanAt W B sb T p st) (hp : p ≤ T.size) (hT : T.size ≤ 1000000) (hl : st.toks.length < 1000000) (hw : WordsAt W) :
    Calls Tryz.prog 118 #[.pointer (some ⟨sb, 0, none⟩)] W fun e w' => e = .returned (.tuple #[]) ∧
      ScanAt w' B sb T (p + lenF nb (T.data.toList.drop p)) { st with toks := st.toks ++ [⟨if isWord ((T.data.toList.drop p).take (lenF nb (T.data.toList.drop p))) then 4 else 1, (T.data.toList.drop p).take (lenF nb (T.data.toList.drop p)), p⟩] } ∧ Below B W w' := by
  obtain ⟨vt, vb, vo, D⟩ := h
  obtain ⟨c0, c1, c2, c3, c4⟩ := D.cells
  have hR := ext_drop T p
  have hRs : (T.extract p T.size).size = T.size - p := by rw [ByteArray.size_extract]; omega
  obtain ⟨R, hRe⟩ : ∃ R, T.extract p T.size = R := ⟨_, rfl⟩
  rw [hRe] at hR hRs
  rw [← hR]
  have HL := hid' (fun W => length_nb R (by omega) W)
  have hnle := lenF_le nb R.data.toList
  rw [show R.data.toList.length = R.size from by simp] at hnle
  generalize lenF nb R.data.toList = n at HL hnle ⊢
  have hX := ext_take R n
  have hXs : (R.extract 0 n).size = n := by rw [ByteArray.size_extract]; omega
  rw [← hX]
  have HWD := hid' (fun m => isWord_any (R.extract 0 n) (W.drewN m) (fun j v hv => hw j v hv))
  have hsl := slice_pre R n (by omega)
  have hsl0 := slice_suf T p hp
  rw [hRe] at hsl0
  generalize R.extract 0 n = X at HWD hXs hsl ⊢
  have HS := hid' D
  have HB := D.lt
  have hpn : p + n ≤ 1000000 := by omega
  clear D c2 c3 c4 hR hRe hX hw
  cases hwd : isWord X.data.toList with
  | true =>
    rw [hwd] at HWD
    clear hwd
    go_enter Tryz.func118, Tryz.ntmps118
    go_wp2
    go_quiet (fail)
    have HA := hid' (add_any (W := W.drewN nq) ⟨_, _, _, HS.out.keep fun _ _ _ => rfl⟩ 4 X n (by omega) (by omega) hl)
    go_wp2_with fail
    refine (HL.out _).mono ?_
    rintro e w1 ⟨rfl, rfl⟩
    go_wp2_with fail
    refine (HWD.out _).mono ?_
    rintro e w1 ⟨rfl, rfl⟩
    go_wp2_with fail
    refine (HA.out).mono ?_
    rintro e w4 ⟨rfl, h4, b4⟩
    have HS4 := hid' h4
    have HB4 : Hid (Below B W w4) := hid' ⟨b4.os, b4.tape, b4.output, b4.size, b4.block⟩
    clear h4 b4
    go_wp2
    go_end0
    exact ⟨rfl, HS4.out, HB4.out⟩
  | false =>
    rw [hwd] at HWD
    clear hwd
    go_enter Tryz.func118, Tryz.ntmps118
    go_wp2
    go_quiet (fail)
    have HA := hid' (add_any (W := W.drewN nq) ⟨_, _, _, HS.out.keep fun _ _ _ => rfl⟩ 1 X n (by omega) (by omega) hl)
    go_wp2_with fail
    refine (HL.out _).mono ?_
    rintro e w1 ⟨rfl, rfl⟩
    go_wp2_with fail
    refine (HWD.out _).mono ?_
    rintro e w1 ⟨rfl, rfl⟩
    go_wp2_with fail
    refine (HA.out).mono ?_
    rintro e w4 ⟨rfl, h4, b4⟩
    have HS4 := hid' h4
    have HB4 : Hid (Below B W w4) := hid' ⟨b4.os, b4.tape, b4.output, b4.size, b4.block⟩
    clear h4 b4
    go_wp2
    go_end0
    exact ⟨rfl, HS4.out, HB4.out⟩
end
end Go.Proofs.YtpjjofdphlgeiaaGreatDoor

namespace Go.Proofs.YtpjjofdphlgeiaaGreatDoor
open Go.RowKit
open Lx

section
variable {W : World} {B sb : Nat} {T : ByteArray} {p : Nat} {st : St}
/-- What number finds wrong. -/
def badNum (l : List UInt8) : Bool := 600 < lenF dg l || ((1 < lenF dg l && l.headD 0 == 48) || 0 < lenF lt (l.drop (lenF dg l)))
set_option maxRecDepth 10000 in
set_option maxHeartbeats 3200000 in
theorem number_any (A : Nat → Addr) (h : ScanAt W B sb T p st) (hp : p < T.size) (hT : T.size ≤ 1000000) (hl : st.toks.length < 1000000) (hE : W.cell? ⟨4, 0, none⟩ = some (E A 0)) :
    Calls Tryz.prog 119 #[.pointer (some ⟨sb, 0, none⟩)] W fun e w' => (badNum (T.data.toList.drop p) = true → ∃ v, e = .returned v ∧ FaultV A w' B v p ∧ Below B W w') ∧ (badNum (T.data.toList.drop p) = false → e = .returned .nilIface ∧
      ScanAt w' B sb T (p + lenF dg (T.data.toList.drop p)) { st with toks := st.toks ++ [⟨2, (T.data.toList.drop p).take (lenF dg (T.data.toList.drop p)), p⟩] } ∧ Below B W w') := by
  obtain ⟨vt, vb, vo, D⟩ := h
  obtain ⟨c0, c1, c2, c3, c4⟩ := D.cells
  have hR := ext_drop T p
  have hRs : (T.extract p T.size).size = T.size - p := by rw [ByteArray.size_extract]; omega
  obtain ⟨R, hRe⟩ : ∃ R, T.extract p T.size = R := ⟨_, rfl⟩
  rw [hRe] at hR hRs
  rw [← hR]
  have hRp : 0 < R.size := by omega
  have hRb : R.size ≤ 1000000 := by omega
  unfold badNum
  have HL := hid' (fun W => length_dg R (by omega) W)
  have hnle := lenF_le dg R.data.toList
  rw [show R.data.toList.length = R.size from by simp] at hnle
  have hhead : R.data.toList.headD 0 = R[0] := by
    have := drop_at R 0 hRp
    rw [List.drop_zero] at this
    rw [this]; rfl
  rw [hhead]
  generalize lenF dg R.data.toList = n at HL hnle ⊢
  have hX := ext_take R n
  have hXs : (R.extract 0 n).size = n := by rw [ByteArray.size_extract]; omega
  have hY := ext_drop R n
  rw [← hX, ← hY]
  have HLT := hid' (fun W => length_lt (R.extract n R.size) (by rw [ByteArray.size_extract]; omega) W)
  generalize lenF lt (R.extract n R.size).data.toList = m at HLT ⊢
  have hsl := slice_pre R n (by omega)
  have hsl2 := slice_suf R n (by omega)
  have hsl0 := slice_suf T p (by omega)
  rw [hRe] at hsl0
  generalize R.extract n R.size = Y at HLT hsl2
  generalize R.extract 0 n = X at hXs hsl ⊢
  have HS := hid' D
  have HB := D.lt
  have hBW : B ≤ W.heap.size := by have := D.high; omega
  have HF := hid' (fun q => fault_any (B := B) A p (W.drewN q) hE (by show B ≤ W.heap.size; omega))
  have hb48 := byte_eq R[0] 48
  rw [show (((48 : UInt8).toNat : Nat) : Int) = 48 from rfl] at hb48
  have h0s : (0 : Int) < (R.size : Int) := by omega
  rw [hb48]
  have hbn := byte_lt R[0]
  obtain ⟨bad, hbad⟩ : ∃ bad, (decide (600 < n) || ((decide (1 < n) && ((R[0].toNat : Int) == 48)) || decide (0 < m))) = bad := ⟨_, rfl⟩
  rw [hbad]
  have HBAD := hid' hbad
  clear D c2 c3 c4 hR hRe hX hY hhead hE hb48 hbad hbn
  by_cases h1 : 600 < n
  · have hb : bad = true := by rw [← HBAD.out, decide_eq_true h1]; rfl
    have h1' : (600 : Int) < (n : Int) := by omega
    subst hb
    clear h1
    go_enter Tryz.func119, Tryz.ntmps119
    go_wp2
    go_quiet (fail)
    go_wp2_with fail
    refine (HL.out _).mono ?_
    rintro e w1 ⟨rfl, rfl⟩
    go_wp2_with fail
    refine (HF.out _).mono ?_
    rintro e w4 ⟨v, rfl, h4, b4⟩
    have HF4 := hid' h4
    have HB4 : Hid (Below B W w4) := hid' ⟨b4.os, b4.tape, b4.output, b4.size, fun k hk => b4.block k (by show k < W.heap.size; omega)⟩
    clear h4 b4
    go_wp2
    go_ret
    exact ⟨fun _ => ⟨v, rfl, HF4.out, HB4.out⟩, fun h => by cases h⟩
  · have h1' : ¬ (600 : Int) < (n : Int) := by omega
    by_cases h2 : 1 < n ∧ (R[0].toNat : Int) = 48
    · obtain ⟨h2, h3⟩ := h2
      have h2' : (1 : Int) < (n : Int) := by omega
      have h3' : ((R[0].toNat : Int) == 48) = true := by rw [h3]; rfl
      have hb : bad = true := by rw [← HBAD.out, decide_eq_true h2, h3']; simp
      subst hb
      clear h1 h2 h3
      go_enter Tryz.func119, Tryz.ntmps119
      go_wp2
      go_quiet (fail)
      go_wp2_with fail
      refine (HL.out _).mono ?_
      rintro e w1 ⟨rfl, rfl⟩
      go_wp2_with fail
      refine (HF.out _).mono ?_
      rintro e w4 ⟨v, rfl, h4, b4⟩
      have HF4 := hid' h4
      have HB4 : Hid (Below B W w4) := hid' ⟨b4.os, b4.tape, b4.output, b4.size, fun k hk => b4.block k (by show k < W.heap.size; omega)⟩
      clear h4 b4
      go_wp2
      go_ret
      exact ⟨fun _ => ⟨v, rfl, HF4.out, HB4.out⟩, fun h => by cases h⟩
    · have hm : bad = decide (0 < m) := by
        rw [← HBAD.out, decide_eq_false h1]
        have : (decide (1 < n) && ((R[0].toNat : Int) == 48)) = false := by
          rw [Bool.and_eq_false_iff]
          by_cases e : 1 < n
          · exact .inr (by rw [beq_eq_false_iff_ne]; exact fun e2 => h2 ⟨e, e2⟩)
          · exact .inl (decide_eq_false e)
        rw [this]; rfl
      have hcase : ¬ (1 : Int) < (n : Int) ∨ ((1 : Int) < (n : Int) ∧ ((R[0].toNat : Int) == 48) = false) := by
        by_cases e : 1 < n
        · exact .inr ⟨by omega, by rw [beq_eq_false_iff_ne]; exact fun e2 => h2 ⟨e, e2⟩⟩
        · exact .inl (by omega)
      clear h1 h2
      by_cases h3 : 0 < m
      · have hb : bad = true := by rw [hm, decide_eq_true h3]
        have h3' : (0 : Int) < (m : Int) := by omega
        subst hb
        clear hm h3
        rcases hcase with h4 | ⟨h4, h5⟩
        all_goals (
          go_enter Tryz.func119, Tryz.ntmps119
          go_wp2
          go_quiet (fail)
          go_wp2_with fail
          refine (HL.out _).mono ?_
          rintro e w1 ⟨rfl, rfl⟩
          go_wp2_with fail
          refine (HLT.out _).mono ?_
          rintro e w1 ⟨rfl, rfl⟩
          go_wp2_with fail
          refine (HF.out _).mono ?_
          rintro e w4 ⟨v, rfl, h4, b4⟩
          have HF4 := hid' h4
          have HB4 : Hid (Below B W w4) := hid' ⟨b4.os, b4.tape, b4.output, b4.size, fun k hk => b4.block k (by show k < W.heap.size; omega)⟩
          clear h4 b4
          go_wp2
          go_ret
          exact ⟨fun _ => ⟨v, rfl, HF4.out, HB4.out⟩, fun h => by cases h⟩)
      · have hb : bad = false := by rw [hm, decide_eq_false h3]
        obtain rfl : m = 0 := by omega
        subst hb
        clear hm h3
        rcases hcase with h4 | ⟨h4, h5⟩
        all_goals (
          go_enter Tryz.func119, Tryz.ntmps119
          go_wp2
          go_quiet (fail)
          have HA := hid' (add_any (W := W.drewN nq) ⟨_, _, _, HS.out.keep fun _ _ _ => rfl⟩ 2 X n (by omega) (by omega) hl)
          go_wp2_with fail
          refine (HL.out _).mono ?_
          rintro e w1 ⟨rfl, rfl⟩
          go_wp2_with fail
          refine (HLT.out _).mono ?_
          rintro e w1 ⟨rfl, rfl⟩
          go_wp2_with fail
          refine (HA.out).mono ?_
          rintro e w4 ⟨rfl, h4, b4⟩
          have HS4 := hid' h4
          have HB4 : Hid (Below B W w4) := hid' ⟨b4.os, b4.tape, b4.output, b4.size, b4.block⟩
          clear h4 b4
          go_wp2
          go_ret
          exact ⟨(fun h => by cases h), fun _ => ⟨rfl, HS4.out, HB4.out⟩⟩)
end
end Go.Proofs.YtpjjofdphlgeiaaGreatDoor

namespace Go.Proofs.YtpjjofdphlgeiaaGreatDoor
open Go.RowKit
open Lx

/-- What closed answers. -/
def closedV : Option Nat → Value
  | none => .tuple #[.int .i64 0, .bool false]
  | some n => .tuple #[.int .i64 (n : Int), .bool true]
theorem closedF_at (q : UInt8) (held : Bool) (s : ByteArray) (k : Nat) (h : k < s.size) : closedF q held (s.data.toList.drop k) = if s[k] == 10 then none else if held then (closedF q false (s.data.toList.drop (k + 1))).map (· + 1) else if s[k] == 92 then (closedF q true (s.data.toList.drop (k + 1))).map (· + 1) else if s[k] == q then some 0 else (closedF q false (s.data.toList.drop (k + 1))).map (· + 1) := by
  rw [drop_at s k h]; cases held <;> rfl
theorem map_add_succ (o : Option Nat) (k : Nat) : (o.map (· + 1)).map (· + k) = o.map (· + (k + 1)) := by
  cases o with
  | none => rfl
  | some n => simp; omega
theorem ret_v {a b : Value} (h : a = b) : Ending.returned a = .returned b := by rw [h]
set_option maxRecDepth 10000 in
set_option maxHeartbeats 1600000 in
theorem closed_any (s : ByteArray) (hs : s.size ≤ 1000000) (q : UInt8) (w : World) :
    Calls Tryz.prog 141 #[.string s, .int .u8 (q.toNat : Int)] w fun e w' => e = .returned (closedV (closedF q false s.data.toList)) ∧ w' = w := by
  obtain ⟨r, hr⟩ : ∃ r, closedF q false s.data.toList = r := ⟨_, rfl⟩
  rw [hr]
  have HR := hid' hr
  clear hr
  go_enter Tryz.func141, Tryz.ntmps141
  go_wp2
  go_loop [6, 11] (fun hd i => ∃ (k : Nat) (held : Bool), k ≤ s.size ∧ hd = .bool held ∧ i = .int .i64 k ∧ Hid (r = (closedF q held (s.data.toList.drop k)).map (· + k))) (fun _ i => s.size - (intOf i).toNat)
  case atStart => exact ⟨0, false, Nat.zero_le _, rfl, rfl, hid' (by rw [← HR.out]; simp)⟩
  case round =>
    obtain ⟨k, held, hk, rfl, rfl, hrest⟩ := hrel
    by_cases hlt : k < s.size
    · have hat := closedF_at q held s k hlt
      have b10 := byte_eq s[k] 10
      have b92 := byte_eq s[k] 92
      have bq := byte_eq s[k] q
      rw [show (((10 : UInt8).toNat : Nat) : Int) = 10 from rfl] at b10
      rw [show (((92 : UInt8).toNat : Nat) : Int) = 92 from rfl] at b92
      rw [b10, b92, bq] at hat
      clear b10 b92 bq
      have hlt' : (k : Int) < (s.size : Int) := by omega
      cases e10 : ((s[k].toNat : Int) == 10) with
      | true =>
        have hend : Hid (r = none) := hid' (by rw [hrest.out, hat, e10]; rfl)
        clear hrest hat
        go_wp2
        go_ret2
        exact ⟨ret_v (by rw [hend.out]; rfl), rfl⟩
      | false =>
        rw [e10] at hat
        cases held with
        | true =>
          have hrest' : Hid (r = (closedF q false (s.data.toList.drop (k + 1))).map (· + (k + 1))) := hid' (by rw [hrest.out, hat]; exact map_add_succ _ k)
          clear hrest hat
          go_wp2
          go_round
          case rel => exact ⟨k + 1, false, by omega, rfl, by go_num, hrest'⟩
          case measure => simp [intOf]; omega
        | false =>
          cases e92 : ((s[k].toNat : Int) == 92) with
          | true =>
            rw [e92] at hat
            have hrest' : Hid (r = (closedF q true (s.data.toList.drop (k + 1))).map (· + (k + 1))) := hid' (by rw [hrest.out, hat]; exact map_add_succ _ k)
            clear hrest hat
            go_wp2
            go_round
            case rel => exact ⟨k + 1, true, by omega, rfl, by go_num, hrest'⟩
            case measure => simp [intOf]; omega
          | false =>
            rw [e92] at hat
            cases eq : ((s[k].toNat : Int) == (q.toNat : Int)) with
            | true =>
              rw [eq] at hat
              have hend : Hid (r = some k) := hid' (by rw [hrest.out, hat]; simp)
              clear hrest hat
              go_wp2
              go_ret2
              exact ⟨ret_v (by rw [hend.out]; rfl), rfl⟩
            | false =>
              rw [eq] at hat
              have hrest' : Hid (r = (closedF q false (s.data.toList.drop (k + 1))).map (· + (k + 1))) := hid' (by rw [hrest.out, hat]; exact map_add_succ _ k)
              clear hrest hat
              go_wp2
              go_round
              case rel => exact ⟨k + 1, false, by omega, rfl, by go_num, hrest'⟩
              case measure => simp [intOf]; omega
    · obtain rfl : k = s.size := by omega
      have hend : Hid (r = none) := hid' (by
        rw [hrest.out, List.drop_eq_nil_of_le (by simp)]
        cases held <;> rfl)
      clear hrest
      go_wp2
      go_ret2
      exact ⟨ret_v (by rw [hend.out]; rfl), rfl⟩
end Go.Proofs.YtpjjofdphlgeiaaGreatDoor

namespace Go.Proofs.YtpjjofdphlgeiaaGreatDoor
open Go.RowKit
open Lx

def hexOut : Option UInt8 → Value
  | none => .tuple #[.int .u8 0, .bool false]
  | some d => .tuple #[.int .u8 (d.toNat : Int), .bool true]
theorem all_u8 {P : UInt8 → Prop} (h : ∀ n : Fin 256, P (UInt8.ofNat n.val)) (b : UInt8) : P b := by
  have := h ⟨b.toNat, b.toNat_lt⟩
  simpa using this
theorem hexV_iff (b : UInt8) : hexV b = if 48 ≤ (b.toNat : Int) ∧ (b.toNat : Int) ≤ 57 then some (b - 48) else if 97 ≤ (b.toNat : Int) ∧ (b.toNat : Int) ≤ 102 then some (b - 97 + 10) else if 65 ≤ (b.toNat : Int) ∧ (b.toNat : Int) ≤ 70 then some (b - 65 + 10) else none :=
  all_u8 (P := fun b => hexV b = if 48 ≤ (b.toNat : Int) ∧ (b.toNat : Int) ≤ 57 then some (b - 48) else if 97 ≤ (b.toNat : Int) ∧ (b.toNat : Int) ≤ 102 then some (b - 97 + 10) else if 65 ≤ (b.toNat : Int) ∧ (b.toNat : Int) ≤ 70 then some (b - 65 + 10) else none) (by decide +kernel) b
theorem hex_small (b d : UInt8) (h : hexV b = some d) : d.toNat < 16 := by
  have := all_u8 (P := fun b => ((hexV b).getD 0).toNat < 16) (by decide +kernel) b
  simpa [h] using this
theorem sub48 (b : UInt8) : 48 ≤ (b.toNat : Int) → (b.toNat : Int) ≤ 57 → ((b - 48).toNat : Int) = (b.toNat : Int) - 48 :=
  all_u8 (P := fun b => 48 ≤ (b.toNat : Int) → (b.toNat : Int) ≤ 57 → ((b - 48).toNat : Int) = (b.toNat : Int) - 48) (by decide +kernel) b
theorem sub97 (b : UInt8) : 97 ≤ (b.toNat : Int) → (b.toNat : Int) ≤ 102 → ((b - 97 + 10).toNat : Int) = (b.toNat : Int) - 97 + 10 :=
  all_u8 (P := fun b => 97 ≤ (b.toNat : Int) → (b.toNat : Int) ≤ 102 → ((b - 97 + 10).toNat : Int) = (b.toNat : Int) - 97 + 10) (by decide +kernel) b
theorem sub65 (b : UInt8) : 65 ≤ (b.toNat : Int) → (b.toNat : Int) ≤ 70 → ((b - 65 + 10).toNat : Int) = (b.toNat : Int) - 65 + 10 :=
  all_u8 (P := fun b => 65 ≤ (b.toNat : Int) → (b.toNat : Int) ≤ 70 → ((b - 65 + 10).toNat : Int) = (b.toNat : Int) - 65 + 10) (by decide +kernel) b
set_option maxHeartbeats 1600000 in
theorem hexDigit_any (b : UInt8) (w : World) : Calls Tryz.prog 180 #[.int .u8 (b.toNat : Int)] w fun e w' => e = .returned (hexOut (hexV b)) ∧ w' = w := by
  rw [hexV_iff]
  have hlt := byte_lt b
  have hcases : (b.toNat : Int) < 48 ∨ (48 ≤ (b.toNat : Int) ∧ (b.toNat : Int) ≤ 57) ∨ (57 < (b.toNat : Int) ∧ (b.toNat : Int) < 65) ∨ (65 ≤ (b.toNat : Int) ∧ (b.toNat : Int) ≤ 70) ∨ (70 < (b.toNat : Int) ∧ (b.toNat : Int) < 97) ∨ (97 ≤ (b.toNat : Int) ∧ (b.toNat : Int) ≤ 102) ∨ 102 < (b.toNat : Int) := by omega
  rcases hcases with h | ⟨h, h2⟩ | ⟨h, h2⟩ | ⟨h, h2⟩ | ⟨h, h2⟩ | ⟨h, h2⟩ | h
  · rw [if_neg (by omega), if_neg (by omega), if_neg (by omega)]
    generalize (b.toNat : Int) = n at h hlt ⊢
    have h3 : ¬ 48 ≤ n := by omega
    have h4 : ¬ 97 ≤ n := by omega
    have h5 : ¬ 65 ≤ n := by omega
    go_enter Tryz.func180, Tryz.ntmps180
    go_wp2
    go_ret2
    exact ⟨rfl, rfl⟩
  · have hv := sub48 b h h2
    rw [if_pos ⟨h, h2⟩, hexOut, hv]
    clear hv
    generalize (b.toNat : Int) = n at h h2 hlt ⊢
    go_enter Tryz.func180, Tryz.ntmps180
    go_wp2
    go_ret2
    exact ⟨rfl, rfl⟩
  · rw [if_neg (by omega), if_neg (by omega), if_neg (by omega)]
    generalize (b.toNat : Int) = n at h h2 hlt ⊢
    have h3 : ¬ n ≤ 57 := by omega
    have h4 : ¬ 97 ≤ n := by omega
    have h5 : ¬ 65 ≤ n := by omega
    have h6 : 48 ≤ n := by omega
    go_enter Tryz.func180, Tryz.ntmps180
    go_wp2
    go_ret2
    exact ⟨rfl, rfl⟩
  · have hv := sub65 b h h2
    rw [if_neg (by omega), if_neg (by omega), if_pos ⟨h, h2⟩, hexOut, hv]
    clear hv
    generalize (b.toNat : Int) = n at h h2 hlt ⊢
    have h3 : ¬ n ≤ 57 := by omega
    have h4 : ¬ 97 ≤ n := by omega
    have h6 : 48 ≤ n := by omega
    go_enter Tryz.func180, Tryz.ntmps180
    go_wp2
    go_ret2
    exact ⟨rfl, rfl⟩
  · rw [if_neg (by omega), if_neg (by omega), if_neg (by omega)]
    generalize (b.toNat : Int) = n at h h2 hlt ⊢
    have h3 : ¬ n ≤ 57 := by omega
    have h4 : ¬ 97 ≤ n := by omega
    have h5 : ¬ n ≤ 70 := by omega
    have h6 : 48 ≤ n := by omega
    have h7 : 65 ≤ n := by omega
    go_enter Tryz.func180, Tryz.ntmps180
    go_wp2
    go_ret2
    exact ⟨rfl, rfl⟩
  · have hv := sub97 b h h2
    rw [if_neg (by omega), if_pos ⟨h, h2⟩, hexOut, hv]
    clear hv
    generalize (b.toNat : Int) = n at h h2 hlt ⊢
    have h3 : ¬ n ≤ 57 := by omega
    have h6 : 48 ≤ n := by omega
    go_enter Tryz.func180, Tryz.ntmps180
    go_wp2
    go_ret2
    exact ⟨rfl, rfl⟩
  · rw [if_neg (by omega), if_neg (by omega), if_neg (by omega)]
    generalize (b.toNat : Int) = n at h hlt ⊢
    have h3 : ¬ n ≤ 57 := by omega
    have h4 : ¬ n ≤ 102 := by omega
    have h5 : ¬ n ≤ 70 := by omega
    have h6 : 48 ≤ n := by omega
    have h7 : 65 ≤ n := by omega
    have h8 : 97 ≤ n := by omega
    go_enter Tryz.func180, Tryz.ntmps180
    go_wp2
    go_ret2
    exact ⟨rfl, rfl⟩
theorem or_hex (a b : UInt8) (ha : a.toNat < 16) (hb : b.toNat < 16) : bits BinOp.or IntKind.u8 ((a.toNat : Int) * 16) (b.toNat : Int) = (((a <<< 4 ||| b).toNat : Nat) : Int) := by
  have h : ∀ m n : Fin 16, bits BinOp.or IntKind.u8 (((UInt8.ofNat m.val).toNat : Int) * 16) ((UInt8.ofNat n.val).toNat : Int) = ((((UInt8.ofNat m.val) <<< 4 ||| (UInt8.ofNat n.val)).toNat : Nat) : Int) := by decide +kernel
  have := h ⟨a.toNat, ha⟩ ⟨b.toNat, hb⟩
  simpa using this
def pieceV : Option (UInt8 × Nat) → Value
  | none => .tuple #[.int .u8 0, .int .i64 0]
  | some (c, n) => .tuple #[.int .u8 (c.toNat : Int), .int .i64 (n : Int)]
def hexF : List UInt8 → Option (UInt8 × Nat)
  | x :: y :: _ => match hexV x, hexV y with
    | some a, some b => some (a <<< 4 ||| b, 4)
    | _, _ => none
  | _ => none
theorem two_at (s : ByteArray) (h : 4 ≤ s.size) : s.data.toList.drop 2 = s[2] :: s[3] :: s.data.toList.drop 4 := by
  rw [drop_at s 2 (by omega), drop_at s 3 (by omega)]
set_option maxHeartbeats 1600000 in
theorem hexPiece_any (s : ByteArray) (hs : s.size ≤ 1000000) (w : World) : Calls Tryz.prog 168 #[.string s] w fun e w' => e = .returned (pieceV (hexF (s.data.toList.drop 2))) ∧ w' = w := by
  by_cases h4 : s.size < 4
  · have hn : hexF (s.data.toList.drop 2) = none := by
      have hl : (s.data.toList.drop 2).length < 2 := by rw [List.length_drop, Array.length_toList]; show s.size - 2 < 2; omega
      generalize s.data.toList.drop 2 = l at hl ⊢
      match l, hl with
      | [], _ => rfl
      | [_], _ => rfl
      | _ :: _ :: _, hl => simp at hl; omega
    rw [hn]
    have h4' : (s.size : Int) < 4 := by omega
    go_enter Tryz.func168, Tryz.ntmps168
    go_wp2
    go_ret2
    exact ⟨rfl, rfl⟩
  · rw [two_at s (by omega)]
    have h4' : ¬ (s.size : Int) < 4 := by omega
    have h2 : (2 : Int) < (s.size : Int) := by omega
    have h3 : (3 : Int) < (s.size : Int) := by omega
    have H1 := hid' (hexDigit_any s[2])
    have H2 := hid' (hexDigit_any s[3])
    obtain ⟨r, hr⟩ : ∃ r, hexF (s[2] :: s[3] :: s.data.toList.drop 4) = r := ⟨_, rfl⟩
    rw [hr]
    simp only [hexF] at hr
    have h0s : (0 : Int) ≤ (s.size : Int) := by omega
    cases e1 : hexV s[2] with
    | none =>
      have HR : Hid (r = none) := hid' (by rw [← hr, e1])
      rw [e1] at H1
      cases e2 : hexV s[3] with
      | none =>
        rw [e2] at H2
        clear e1 e2 hr
        unfold hexOut at H1 H2
        go_enter Tryz.func168, Tryz.ntmps168
        go_wp2_with fail
        refine (H1.out _).mono ?_
        rintro e w1 ⟨rfl, rfl⟩
        go_wp2_with fail
        refine (H2.out _).mono ?_
        rintro e w1 ⟨rfl, rfl⟩
        go_wp2
        go_ret2
        exact ⟨ret_v (by rw [HR.out]; rfl), rfl⟩
      | some b =>
        rw [e2] at H2
        clear e1 e2 hr
        unfold hexOut at H1 H2
        go_enter Tryz.func168, Tryz.ntmps168
        go_wp2_with fail
        refine (H1.out _).mono ?_
        rintro e w1 ⟨rfl, rfl⟩
        go_wp2_with fail
        refine (H2.out _).mono ?_
        rintro e w1 ⟨rfl, rfl⟩
        go_wp2
        go_ret2
        exact ⟨ret_v (by rw [HR.out]; rfl), rfl⟩
    | some a =>
      have ha := hex_small _ _ e1
      rw [e1] at H1
      cases e2 : hexV s[3] with
      | none =>
        have HR : Hid (r = none) := hid' (by rw [← hr, e1, e2])
        rw [e2] at H2
        clear e1 e2 hr
        unfold hexOut at H1 H2
        go_enter Tryz.func168, Tryz.ntmps168
        go_wp2_with fail
        refine (H1.out _).mono ?_
        rintro e w1 ⟨rfl, rfl⟩
        go_wp2_with fail
        refine (H2.out _).mono ?_
        rintro e w1 ⟨rfl, rfl⟩
        go_wp2
        go_ret2
        exact ⟨ret_v (by rw [HR.out]; rfl), rfl⟩
      | some b =>
        have hb := hex_small _ _ e2
        have HR : Hid (r = some (a <<< 4 ||| b, 4)) := hid' (by rw [← hr, e1, e2])
        have HO := hid' (or_hex a b ha hb)
        rw [e2] at H2
        clear e1 e2 hr
        unfold hexOut at H1 H2
        have ha' : (a.toNat : Int) < 16 := by omega
        have hb' : (b.toNat : Int) < 16 := by omega
        go_enter Tryz.func168, Tryz.ntmps168
        go_wp2_with fail
        refine (H1.out _).mono ?_
        rintro e w1 ⟨rfl, rfl⟩
        go_wp2_with fail
        refine (H2.out _).mono ?_
        rintro e w1 ⟨rfl, rfl⟩
        go_wp2
        go_ret2
        exact ⟨ret_v (by rw [HR.out, pieceV, ← HO.out]; rfl), rfl⟩
end Go.Proofs.YtpjjofdphlgeiaaGreatDoor

namespace Go.Proofs.YtpjjofdphlgeiaaGreatDoor
open Go.RowKit
open Lx

theorem pieceF_plain (b : UInt8) (l : List UInt8) (h : b ≠ 92) : pieceF (b :: l) = if tb b then some (b, 1) else none := by
  have e : (b != 92) = true := by simpa using h
  simp only [pieceF, e, if_true]
theorem pieceF_one : pieceF [92] = none := rfl
theorem pieceF_two (c : UInt8) (r : List UInt8) : pieceF (92 :: c :: r) = if c == 110 then some (10, 2) else if c == 116 then some (9, 2) else if c == 92 || c == 34 || c == 39 then some (c, 2) else if c == 120 then hexF r else none := by
  cases r with
  | nil => rfl
  | cons x r => cases r <;> rfl
theorem pair_eq (X : ByteArray) (c d : UInt8) (hX : X.toList = [92, c]) : (X.toList == [92, d]) = (c == d) := by
  rw [hX]; simp
set_option maxRecDepth 10000 in
set_option maxHeartbeats 3200000 in
theorem pieceOf_any (s : ByteArray) (hs : s.size ≤ 1000000) (h0 : 0 < s.size) (w : World) : Calls Tryz.prog 157 #[.string s] w fun e w' => e = .returned (pieceV (pieceF s.data.toList)) ∧ w' = w := by
  have hd0 := drop_at s 0 h0
  rw [List.drop_zero] at hd0
  have h0' : (0 : Int) < (s.size : Int) := by omega
  have b92 := byte_eq s[0] 92
  rw [show (((92 : UInt8).toNat : Nat) : Int) = 92 from rfl] at b92
  obtain ⟨r, hr⟩ : ∃ r, pieceF s.data.toList = r := ⟨_, rfl⟩
  rw [hr]
  by_cases e92 : s[0] = 92
  · have hidx0 : ∀ W, (Instr.index 9 (.string s) (.int .i64 0)).run Tryz.prog W = .ok (.int .u8 92) W := fun W => by
      have e2 : (s[0].toNat : Int) = 92 := by rw [e92]; rfl
      go_simp
    by_cases h1 : s.size = 1
    · have HR : Hid (r = none) := hid' (by rw [← hr, hd0, e92, List.drop_eq_nil_of_le (by simp [h1])]; rfl)
      have hL : s.data.toList = [92] := by rw [hd0, e92, List.drop_eq_nil_of_le (by simp [h1])]
      have hX := ext_take s 1
      rw [hL] at hX
      have hsl := slice_pre s 1 (by omega)
      rw [show (((1 : Nat)) : Int) = (1 : Int) from rfl] at hsl
      have hXX : s.extract 0 1 = ⟨#[92]⟩ := ByteArray.ext (Array.toList_inj.1 hX)
      rw [hXX] at hsl
      have h1' : (s.size : Int) = 1 := by omega
      have hmin : (s.size : Int) < 2 := by omega
      clear hd0 hr b92 e92 hL hX hXX h1
      go_enter Tryz.func157, Tryz.ntmps157
      go_wp2
      go_ret2
      exact ⟨ret_v (by rw [HR.out]; rfl), rfl⟩
    · have h1' : (1 : Int) < (s.size : Int) := by omega
      have hd1 := drop_at s 1 (by omega)
      rw [Nat.zero_add] at hd0
      have hL : s.data.toList = (92 : UInt8) :: s[1] :: s.data.toList.drop 2 := by rw [hd1, e92] at hd0; exact hd0
      rw [hL, pieceF_two] at hr
      have hX := ext_take s 2
      rw [hL] at hX
      have hsl := slice_pre s 2 (by omega)
      have hXl : (s.extract 0 2).toList = ([(92 : UInt8), s[1]] : List UInt8) := by rw [ByteArray.toList_eq]; exact hX
      obtain ⟨c, hc⟩ : ∃ c, s[1] = c := ⟨_, rfl⟩
      have hidx : ∀ W, (Instr.index 9 (.string s) (.int .i64 1)).run Tryz.prog W = .ok (.int .u8 (c.toNat : Int)) W := fun W => by
        rw [← hc]
        go_simp
      rw [hc] at hr hXl
      have hmin : ¬ (s.size : Int) < 2 := by omega
      rw [show (((2 : Nat)) : Int) = (2 : Int) from rfl] at hsl
      generalize s.extract 0 2 = X at hsl hXl
      clear hd0 hd1 hL hX b92 e92 h1 hc
      generalize hrest : s.data.toList.drop 2 = rest at hr
      have HREST := hid' hrest
      clear hrest
      by_cases c110 : c = 110
      · subst c110
        have HR : Hid (r = some (10, 2)) := hid' (by rw [← hr]; simp)
        have hXX : X = ⟨#[92, 110]⟩ := ByteArray.ext (Array.toList_inj.1 (by rw [← ByteArray.toList_eq]; exact hXl))
        subst hXX
        clear hXl hr
        go_enter Tryz.func157, Tryz.ntmps157
        go_wp2
        go_ret2
        exact ⟨ret_v (by rw [HR.out]; rfl), rfl⟩
      · have n110 : (X.toList == [92, 110]) = false := by rw [hXl]; simpa using c110
        by_cases c116 : c = 116
        · subst c116
          have HR : Hid (r = some (9, 2)) := hid' (by rw [← hr]; simp)
          have hXX : X = ⟨#[92, 116]⟩ := ByteArray.ext (Array.toList_inj.1 (by rw [← ByteArray.toList_eq]; exact hXl))
          subst hXX
          clear hXl hr n110
          go_enter Tryz.func157, Tryz.ntmps157
          go_wp2
          go_ret2
          exact ⟨ret_v (by rw [HR.out]; rfl), rfl⟩
        · have n116 : (X.toList == [92, 116]) = false := by rw [hXl]; simpa using c116
          by_cases c92 : c = 92
          · subst c92
            have HR : Hid (r = some (92, 2)) := hid' (by rw [← hr]; simp)
            have hXX : X = ⟨#[92, 92]⟩ := ByteArray.ext (Array.toList_inj.1 (by rw [← ByteArray.toList_eq]; exact hXl))
            subst hXX
            clear hXl hr n110 n116
            go_enter Tryz.func157, Tryz.ntmps157
            go_wp2
            go_ret2
            exact ⟨ret_v (by rw [HR.out]; rfl), rfl⟩
          · have n92 : (X.toList == [92, 92]) = false := by rw [hXl]; simpa using c92
            by_cases c34 : c = 34
            · subst c34
              have HR : Hid (r = some (34, 2)) := hid' (by rw [← hr]; simp)
              have hXX : X = ⟨#[92, 34]⟩ := ByteArray.ext (Array.toList_inj.1 (by rw [← ByteArray.toList_eq]; exact hXl))
              subst hXX
              clear hXl hr n110 n116 n92
              go_enter Tryz.func157, Tryz.ntmps157
              go_wp2
              go_ret2
              exact ⟨ret_v (by rw [HR.out]; rfl), rfl⟩
            · have n34 : (X.toList == [92, 34]) = false := by rw [hXl]; simpa using c34
              by_cases c39 : c = 39
              · subst c39
                have HR : Hid (r = some (39, 2)) := hid' (by rw [← hr]; simp)
                have hXX : X = ⟨#[92, 39]⟩ := ByteArray.ext (Array.toList_inj.1 (by rw [← ByteArray.toList_eq]; exact hXl))
                subst hXX
                clear hXl hr n110 n116 n92 n34
                go_enter Tryz.func157, Tryz.ntmps157
                go_wp2
                go_ret2
                exact ⟨ret_v (by rw [HR.out]; rfl), rfl⟩
              · have n39 : (X.toList == [92, 39]) = false := by rw [hXl]; simpa using c39
                by_cases c120 : c = 120
                · subst c120
                  have HR : Hid (r = hexF rest) := hid' (by rw [← hr]; simp)
                  have hXX : X = ⟨#[92, 120]⟩ := ByteArray.ext (Array.toList_inj.1 (by rw [← ByteArray.toList_eq]; exact hXl))
                  subst hXX
                  have HH := hid' (hexPiece_any s hs)
                  rw [HREST.out, ← HR.out] at HH
                  clear hXl hr n110 n116 n92 n34 n39
                  cases r with
                  | none =>
                    unfold pieceV at HH ⊢
                    go_enter Tryz.func157, Tryz.ntmps157
                    go_wp2_with fail
                    refine (HH.out _).mono ?_
                    rintro e w1 ⟨rfl, rfl⟩
                    go_wp2
                    go_ret2
                    exact ⟨rfl, rfl⟩
                  | some cn =>
                    obtain ⟨c1, n1⟩ := cn
                    unfold pieceV at HH ⊢
                    go_enter Tryz.func157, Tryz.ntmps157
                    go_wp2_with fail
                    refine (HH.out _).mono ?_
                    rintro e w1 ⟨rfl, rfl⟩
                    go_wp2
                    go_ret2
                    exact ⟨rfl, rfl⟩
                · have n120 : (X.toList == [92, 120]) = false := by rw [hXl]; simpa using c120
                  have HR : Hid (r = none) := hid' (by rw [← hr]; simp [c110, c116, c92, c34, c39, c120])
                  clear hXl hr c110 c116 c92 c34 c39 c120
                  go_enter Tryz.func157, Tryz.ntmps157
                  go_wp2
                  go_ret2
                  exact ⟨ret_v (by rw [HR.out]; rfl), rfl⟩
  · obtain ⟨b, hb⟩ : ∃ b, s[0] = b := ⟨_, rfl⟩
    have hidx0 : ∀ W, (Instr.index 9 (.string s) (.int .i64 0)).run Tryz.prog W = .ok (.int .u8 (b.toNat : Int)) W := fun W => by
      rw [← hb]
      go_simp
    rw [hb] at e92 hd0 b92
    have n92 : ((b.toNat : Int) != 92) = true := by
      rw [bne, ← b92]
      simpa using e92
    rw [hd0, pieceF_plain b _ e92] at hr
    have HT := hid' (isTextByte_tells b)
    cases ht : tb b with
    | true =>
      rw [ht] at hr HT
      have HR : Hid (r = some (b, 1)) := hid' (by rw [← hr]; rfl)
      clear hd0 hr b92 e92 hb ht
      go_enter Tryz.func157, Tryz.ntmps157
      go_wp2_with fail
      refine (HT.out _).mono ?_
      rintro e w1 ⟨rfl, rfl⟩
      go_wp2
      go_ret2
      exact ⟨ret_v (by rw [HR.out]; rfl), rfl⟩
    | false =>
      rw [ht] at hr HT
      have HR : Hid (r = none) := hid' (by rw [← hr]; rfl)
      clear hd0 hr b92 e92 hb ht
      go_enter Tryz.func157, Tryz.ntmps157
      go_wp2_with fail
      refine (HT.out _).mono ?_
      rintro e w1 ⟨rfl, rfl⟩
      go_wp2
      go_ret2
      exact ⟨ret_v (by rw [HR.out]; rfl), rfl⟩
end Go.Proofs.YtpjjofdphlgeiaaGreatDoor
