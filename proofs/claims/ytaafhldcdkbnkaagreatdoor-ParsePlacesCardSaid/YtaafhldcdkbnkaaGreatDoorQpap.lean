/- Parts of the proof, together. What indent makes of a scanner. Conditions: its blocks lie from block B on; short texts; the outermost block has no spaces; the error of api lies in its variable. -/
import Derived.Test.YtaafhldcdkbnkaaGreatDoorQpao
namespace Go.Proofs.YtaafhldcdkbnkaaGreatDoor
open Go.RowKit
open Lx

theorem dropWhile_last (n : Nat) : ∀ l : List Nat, l.getLast? = some 0 → (l.dropWhile (n < ·)).getLast? = some 0
  | [], h => by cases h
  | b :: l, h => by
    rw [List.dropWhile_cons]
    split
    · next hb =>
      cases l with
      | nil => simp at h hb; omega
      | cons c l => exact dropWhile_last n (c :: l) (by simpa using h)
    · exact h
/-- An append of one block's spaces in a plain region. -/
theorem blk_plain {ops : Array Oper} {rest : List Oper} {o : Oper} {a : Act} {Q : Exit → Act → World → Prop} {W : World} {B sb : Nat} {T : ByteArray} {p : Nat} {st : St} {vt vb vo : Value} (h : ScanV W B sb T p st vt vb vo) (n : Nat) (hl : st.blocks.length < 1000000) (hgd : o.guard = none) (x y : Operand)
    (ho : o.op = .call { callee := .builtin .append, args := #[x, y], argTypes := #[30, 30] }) (hx : a.eval x = vb) (hy : a.eval y = .slice (some ⟨W.heap.size, 0, none⟩) 1 1)
    (hK : ∀ g m cap w', w'.cell? ⟨sb, 3, none⟩ = some vb → w'.frozen? ⟨sb, 3, none⟩ = false → ScanV (w'.setCell ⟨sb, 3, none⟩ (.slice (some ⟨g, 0, none⟩) m cap)) B sb T p { st with blocks := n :: st.blocks } vt (.slice (some ⟨g, 0, none⟩) m cap) vo →
      Below B W (w'.setCell ⟨sb, 3, none⟩ (.slice (some ⟨g, 0, none⟩) m cap)) → wpList Tryz.prog ops Q rest (a.put o.dst (.slice (some ⟨g, 0, none⟩) m cap)) w') : wpList Tryz.prog ops Q (o :: rest) a (W.alloc (.cells #[.int .i64 (n : Int)] 3)) := by
  refine wpList_plain hgd fun K hKK => ?_
  obtain ⟨i0, hi, hz, hz1, hz2⟩ := info_parts info_int
  have hB : B ≤ W.heap.size := by have := h.high; have := h.lt; omega
  obtain ⟨u, w', hr, h1, h2, _, h4⟩ := run_append_own_at (P := Tryz.prog) (W.alloc (.cells #[.int .i64 (n : Int)] 3)) B 30 o.type 3 i0 _ 1 8 Tryz.underlying30 hi hz hz1 hz2 rfl (by decide) vb st.blocks.length (st.blocks.reverse.map iv)
    (h.blks.alloc _) ⟨W.heap.size, 0, none⟩ 1 1 [iv n] rfl (cell_one_new W _ _) (fun u hu => by simp at hu; subst hu; rfl) (by unfold maxLen; omega) (by omega) (by simp; omega)
  have hb : ∀ j, j < W.heap.size → vb.ownBlock ≠ some j → w'.heap[j]? = W.heap[j]? := fun j hj hne => (h2.block j (by simp; omega) (Ne.symm hne)).trans (Below.heap_alloc W _ j hj)
  obtain ⟨p1, p2, p3⟩ := h.setBlks (l := n :: st.blocks) (by rw [List.length_cons, List.reverse_cons, List.map_append]; exact h1) hb
  obtain ⟨g, cap, e, _⟩ := own_some p3.blks (by simp)
  subst e
  unfold Oper.wp execOp
  simp only [ho, resolve, invoke, builtin, Sem.run_bind, Sem.run_pure, Result.andThen_ok, List.map_toArray, List.map_cons, List.map_nil, hx, hy, hr]
  refine hKK _ _ (hK g _ cap w' p1 p2 p3 ?_)
  refine Below.setCell ?_ (by simp only; exact h.high) _
  exact ((Below.refl B W).alloc hB _).grown h2 (by simp; omega) fun j hj => (h.blks.lt j hj).1
section
variable {W : World} {B sb : Nat} {T : ByteArray} {p : Nat} {st : St}
set_option maxRecDepth 10000 in
set_option maxHeartbeats 3200000 in
theorem indent_up (h : ScanAt W B sb T p st) (n b0 : Nat) (bs : List Nat) (hb : st.blocks = b0 :: bs) (hlt : b0 < n) (hp : p ≤ 1000000) (hl : st.toks.length < 1000000) (hbl : bs.length + 1 ≤ 60) :
    Calls Tryz.prog 95 #[.pointer (some ⟨sb, 0, none⟩), .int .i64 (n : Int)] W fun e w' => e = .returned .nilIface ∧ ScanAt w' B sb T p { st with toks := st.toks ++ [⟨6, [], p⟩], blocks := n :: st.blocks } ∧ Below B W w' := by
  have HB := hid' (block_any h b0 bs hb (by omega))
  have HH := hid' h
  have HBL := hid' hb
  have hlt' : (b0 : Int) < (n : Int) := by omega
  clear h hb
  go_enter Tryz.func95, Tryz.ntmps95
  go_wp2_with fail
  refine (HB.out).mono ?_
  rintro e w1 ⟨rfl, m, rfl⟩
  obtain ⟨vt, vb, vo, D0⟩ := HH.out
  generalize hw2 : W.drewN m = w2
  have D2 : ScanV w2 B sb T p st vt vb vo := by rw [← hw2]; exact D0.keep fun _ _ _ => rfl
  have B2 : Below B W w2 := by rw [← hw2]; exact ⟨rfl, rfl, rfl, Nat.le_refl _, fun _ _ => rfl⟩
  obtain ⟨ao, cap, e, hcap⟩ := own_form D2.blks
  rw [HBL.out, List.length_cons] at e
  obtain ⟨c0, c1, c2, c3, c4⟩ := D2.cells
  have HV := hid' e
  rw [e] at c3
  have h60 : ¬ (60 : Int) < ((bs.length : Int) + 1) := by omega
  have hll : st.blocks.length < 1000000 := by rw [HBL.out]; simp; omega
  have HD2 := hid' D2
  have HB2 := hid' B2
  have HLL := hid' hll
  have HLT := hid' hl
  clear hw2 D0 D2 B2 HB e hcap c0 c1 c2 c4 hl hll
  go_wp2_with (at_builtin; refine blk_plain HD2.out n HLL.out rfl (.tmp 24) (.tmp 26) (by rfl) (by exact HV.out.symm) (by rfl) ?_; intro g2 n2 c2' w9 p1 p2 p3 p4; rw [HV.out] at p1; have HP3 := hid' p3; have HP4 := hid' p4; clear p3 p4)
  have HA := hid' (add_any ⟨_, _, _, HP3.out⟩ 6 ⟨#[]⟩ 0 hp (by omega) HLT.out)
  refine (HA.out).mono ?_
  rintro e w4 ⟨rfl, h4, b4⟩
  have HS4 := hid' h4
  have HB4 := hid' (HB2.out.trans (HP4.out.trans b4))
  clear h4 b4
  go_wp2
  go_ret
  exact ⟨rfl, HS4.out, HB4.out⟩
set_option maxRecDepth 10000 in
set_option maxHeartbeats 1600000 in
theorem indent_deep (A : Nat → Addr) (h : ScanAt W B sb T p st) (n b0 : Nat) (bs : List Nat) (hb : st.blocks = b0 :: bs) (hlt : b0 < n) (hbl : 60 < bs.length + 1) (hbl2 : bs.length ≤ 1000) (hE : W.cell? ⟨4, 0, none⟩ = some (E A 0)) :
    Calls Tryz.prog 95 #[.pointer (some ⟨sb, 0, none⟩), .int .i64 (n : Int)] W fun e w' => ∃ v, e = .returned v ∧ FaultV A w' B v p ∧ Below B W w' := by
  have HB := hid' (block_any h b0 bs hb hbl2)
  have HH := hid' h
  have HBL := hid' hb
  have HE := hid' hE
  have hlt' : (b0 : Int) < (n : Int) := by omega
  have hB := h.lt
  clear h hb hE
  go_enter Tryz.func95, Tryz.ntmps95
  go_wp2_with fail
  refine (HB.out).mono ?_
  rintro e w1 ⟨rfl, m, rfl⟩
  obtain ⟨vt, vb, vo, D0⟩ := HH.out
  generalize hw2 : W.drewN m = w2
  have D2 : ScanV w2 B sb T p st vt vb vo := by rw [← hw2]; exact D0.keep fun _ _ _ => rfl
  have B2 : Below B W w2 := by rw [← hw2]; exact ⟨rfl, rfl, rfl, Nat.le_refl _, fun _ _ => rfl⟩
  have E2 : w2.cell? ⟨4, 0, none⟩ = some (E A 0) := by rw [← hw2]; exact HE.out
  obtain ⟨ao, cap, e, hcap⟩ := own_form D2.blks
  rw [HBL.out, List.length_cons] at e
  obtain ⟨c0, c1, c2, c3, c4⟩ := D2.cells
  rw [e] at c3
  have h60 : (60 : Int) < ((bs.length : Int) + 1) := by omega
  have HF := hid' (fault_any (B := B) A p w2 E2 (by have := D2.lt; omega))
  have HB2 := hid' B2
  have hsz := D2.lt
  clear hw2 D0 D2 B2 E2 HB e hcap c0 c2 c4
  go_wp2_with fail
  refine (HF.out).mono ?_
  rintro e w4 ⟨v, rfl, h4, b4⟩
  have HF4 := hid' h4
  have HB4 := hid' (HB2.out.trans (b4.mono (by omega)))
  clear h4 b4
  go_wp2
  go_ret
  exact ⟨v, rfl, HF4.out, HB4.out⟩
set_option maxRecDepth 10000 in
set_option maxHeartbeats 1600000 in
theorem indent_down (A : Nat → Addr) (h : ScanAt W B sb T p st) (n b0 : Nat) (bs : List Nat) (hb : st.blocks = b0 :: bs) (hlt : ¬ b0 < n) (hn : n ≤ 1000000) (hp : p ≤ 1000000) (hl : st.toks.length + st.blocks.length < 1000000) (hbl : st.blocks.length ≤ 100) (hlast : st.blocks.getLast? = some 0) (hE : W.cell? ⟨4, 0, none⟩ = some (E A 0)) (hEB : 4 < B) :
    Calls Tryz.prog 95 #[.pointer (some ⟨sb, 0, none⟩), .int .i64 (n : Int)] W fun e w' => ((st.blocks.dropWhile (n < ·)).headD 0 = n → e = .returned .nilIface ∧ ScanAt w' B sb T p { st with toks := st.toks ++ deds (st.blocks.takeWhile (n < ·)).length p, blocks := st.blocks.dropWhile (n < ·) } ∧ Below B W w') ∧
      ((st.blocks.dropWhile (n < ·)).headD 0 ≠ n → ∃ v, e = .returned v ∧ FaultV A w' B v p ∧ Below B W w') := by
  have HB := hid' (block_any h b0 bs hb (by rw [hb] at hbl; simp at hbl; omega))
  have hlt' : ¬ (b0 : Int) < (n : Int) := by omega
  have HDD := hid' (fun m => dedent_any (W := W.drewN m) (h.drewN m) n hn hp hl hbl hlast)
  have HE := hid' hE
  have hB := h.lt
  obtain ⟨d0, ds, hd, hdl⟩ : ∃ d0 ds, st.blocks.dropWhile (n < ·) = d0 :: ds ∧ ds.length ≤ 1000 := by
    have hne : st.blocks.dropWhile (n < ·) ≠ [] := fun h0 => by
      have := dropWhile_last n _ hlast
      rw [h0] at this
      cases this
    obtain ⟨d0, ds, e⟩ := List.exists_cons_of_ne_nil hne
    have := (List.dropWhile_suffix (fun x => decide (n < x)) (l := st.blocks)).length_le
    rw [e] at this
    simp at this
    exact ⟨d0, ds, e, by omega⟩
  rw [hd] at HDD ⊢
  have HBS : Hid (∀ (w2 : World), ScanAt w2 B sb T p { st with toks := st.toks ++ deds (st.blocks.takeWhile (n < ·)).length p, blocks := d0 :: ds } → Calls Tryz.prog 117 #[.pointer (some ⟨sb, 0, none⟩)] w2 fun e w' => e = .returned (.int .i64 (d0 : Int)) ∧ ∃ n, w' = w2.drewN n) := hid' (fun w2 hw => block_any hw d0 ds rfl hdl)
  clear h hb hE hlast hd
  generalize (st.blocks.takeWhile (n < ·)).length = kk at HDD HBS ⊢
  go_enter Tryz.func95, Tryz.ntmps95
  go_wp2_with fail
  refine (HB.out).mono ?_
  rintro e w1 ⟨rfl, m, rfl⟩
  go_wp2_with fail
  refine (HDD.out m).mono ?_
  rintro e w3 ⟨rfl, S3, B3⟩
  have HB3 : Hid (Below B W w3) := hid' ⟨B3.os, B3.tape, B3.output, B3.size, B3.block⟩
  have HS3 := hid' S3
  have HBK := hid' (HBS.out w3 S3)
  clear S3 B3 HDD HB HBS
  go_wp2_with fail
  refine (HBK.out).mono ?_
  rintro e w4 ⟨rfl, m2, rfl⟩
  generalize hw5 : w3.drewN m2 = w5
  have S5 : ScanAt w5 B sb T p { st with toks := st.toks ++ deds kk p, blocks := d0 :: ds } := by rw [← hw5]; exact HS3.out.drewN _
  have B5 : Below B W w5 := by rw [← hw5]; exact ⟨HB3.out.os, HB3.out.tape, HB3.out.output, HB3.out.size, HB3.out.block⟩
  clear hw5 HB3 HS3 HBK
  by_cases hd0 : d0 = n
  · subst hd0
    have HS5 := hid' S5
    have HB5 := hid' B5
    clear S5 B5
    go_wp2
    go_ret
    exact ⟨fun _ => ⟨rfl, HS5.out, HB5.out⟩, fun h => absurd rfl h⟩
  · have hne : ((n : Int) == (d0 : Int)) = false := by rw [beq_eq_false_iff_ne]; omega
    have hne3 : ((n : Int) != (d0 : Int)) = true := by simp; omega
    have hne2 : (n == d0) = false := by rw [beq_eq_false_iff_ne]; omega
    have HNE := hid' hd0
    have E5 := (B5.cell (p := ⟨4, 0, none⟩) hEB).trans HE.out
    obtain ⟨vt, vb, vo, D5⟩ := S5
    obtain ⟨c0, c1, c2, c3, c4⟩ := D5.cells
    have HF := hid' (fault_any (B := B) A p w5 E5 (by have := D5.lt; omega))
    have HB5 := hid' B5
    have hsz := D5.lt
    clear D5 B5 E5 hd0 c0 c2 c3 c4
    go_wp2_with fail
    refine (HF.out).mono ?_
    rintro e w6 ⟨v, rfl, h6, b6⟩
    have HF6 := hid' h6
    have HB6 := hid' (HB5.out.trans (b6.mono (by omega)))
    clear h6 b6
    go_wp2
    go_ret
    exact ⟨fun h => absurd h HNE.out, fun _ => ⟨v, rfl, HF6.out, HB6.out⟩⟩
end
end Go.Proofs.YtaafhldcdkbnkaaGreatDoor
