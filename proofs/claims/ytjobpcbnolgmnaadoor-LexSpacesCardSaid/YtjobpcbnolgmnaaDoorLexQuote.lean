/- What lex.Quote answers. Conditions: short texts. -/
import Derived.Test.YtjobpcbnolgmnaaDoorLexFirst
namespace Go.Proofs.YtjobpcbnolgmnaaDoor
open Go.RowKit
open Lx

def hexc (n : UInt8) : UInt8 := if n < 10 then n + 48 else n + 87
def pieceQ (b : UInt8) : List UInt8 := if b = 10 then [92, 110] else if b = 9 then [92, 116] else if b = 92 ∨ b = 34 then [92, b] else if tb b then [b] else [92, 120, hexc (b >>> 4), hexc (b &&& 15)]
def quoteF (s : List UInt8) : List UInt8 := 34 :: (s.flatMap pieceQ ++ [34])
theorem digit_at (x : Nat) (hx : x < 16) (W : World) : (Instr.index 9 (.string ⟨#[48, 49, 50, 51, 52, 53, 54, 55, 56, 57, 97, 98, 99, 100, 101, 102]⟩) (.int .u8 (x : Int))).run Tryd.prog W = .ok (.int .u8 ((hexc (UInt8.ofNat x)).toNat : Int)) W := by
  have h' : x = 0 ∨ x = 1 ∨ x = 2 ∨ x = 3 ∨ x = 4 ∨ x = 5 ∨ x = 6 ∨ x = 7 ∨ x = 8 ∨ x = 9 ∨ x = 10 ∨ x = 11 ∨ x = 12 ∨ x = 13 ∨ x = 14 ∨ x = 15 := by omega
  rcases h' with rfl | rfl | rfl | rfl | rfl | rfl | rfl | rfl | rfl | rfl | rfl | rfl | rfl | rfl | rfl | rfl <;> rfl
theorem shr_u8 (b : UInt8) : b >>> 4 = UInt8.ofNat (b.toNat / 16) := all_u8 (P := fun b => b >>> 4 = UInt8.ofNat (b.toNat / 16)) (by decide +kernel) b
theorem and_u8 (b : UInt8) : b &&& 15 = UInt8.ofNat (b.toNat % 16) := all_u8 (P := fun b => b &&& 15 = UInt8.ofNat (b.toNat % 16)) (by decide +kernel) b
theorem bits_and (b : UInt8) : bits BinOp.and IntKind.u8 (b.toNat : Int) 15 = ((b.toNat % 16 : Nat) : Int) := all_u8 (P := fun b => bits BinOp.and IntKind.u8 (b.toNat : Int) 15 = ((b.toNat % 16 : Nat) : Int)) (by decide +kernel) b
theorem cells_new (w : World) (xs : List Value) (t : TypeId) : ∀ j u, xs[j]? = some u → (w.alloc (.cells xs.toArray t)).cell? ((⟨w.heap.size, 0, none⟩ : Addr).add j) = some u := by
  intro j u hj
  rw [Go.WideShapes.add_plain, cell_of_row _ w.heap.size (0 + j) _ _ _ (heap_alloc_new _ _), Nat.zero_add]
  simpa using hj
theorem run_byts {W : World} {B : Nat} {v : Value} {bs : List UInt8} (h : OwnB W B v bs) (ys : List UInt8) (hB : B ≤ W.heap.size) (hl : bs.length + ys.length < 1000000) (ty : TypeId) :
    ∃ u w', (Builtin.append_ #[49, 49] ty #[v, .slice (some ⟨W.heap.size, 0, none⟩) ys.length ys.length]).run Tryd.prog (W.alloc (.cells (ys.map bv).toArray 5)) = .ok u w' ∧ OwnB w' B u (bs ++ ys) ∧ Below B W w' := by
  obtain ⟨i0, hi, hz, hz1, hz2⟩ := info_parts info_u8
  obtain ⟨u, w', hr, h1, h2, _, h4⟩ := run_append_own_at (P := Tryd.prog) (W.alloc (.cells (ys.map bv).toArray 5)) B 49 ty 5 i0 _ 1 1 Tryd.underlying49 hi hz hz1 hz2 rfl (by decide) v bs.length (bs.map bv)
    (h.alloc _) ⟨W.heap.size, 0, none⟩ ys.length ys.length (ys.map bv) (by simp) (cells_new W _ _) (fun u hu => by obtain ⟨x, _, rfl⟩ := List.mem_map.1 hu; rfl) (by unfold maxLen; omega) (by omega) (by simp; omega)
  exact ⟨u, w', hr, by unfold OwnB; rw [List.length_append, List.map_append]; exact h1, ((Below.refl B W).alloc hB _).grown h2 (by simp; omega) fun j hj => (h.lt j hj).1⟩
theorem byts_plain {ops : Array Oper} {rest : List Oper} {o : Oper} {a : Act} {Q : Exit → Act → World → Prop} {W : World} {B : Nat} {v : Value} {bs : List UInt8} {C : Array Value} {m : Nat} (h : OwnB W B v bs) (ys : List UInt8) (hB : B ≤ W.heap.size) (hl : bs.length + ys.length < 1000000) (hC : C = (ys.map bv).toArray) (hm : m = ys.length) (hgd : o.guard = none) (x y : Operand)
    (ho : o.op = .call { callee := .builtin .append, args := #[x, y], argTypes := #[49, 49] }) (hx : a.eval x = v) (hy : a.eval y = .slice (some ⟨W.heap.size, 0, none⟩) m m)
    (hK : ∀ u w', OwnB w' B u (bs ++ ys) → Below B W w' → wpList Tryd.prog ops Q rest (a.put o.dst u) w') : wpList Tryd.prog ops Q (o :: rest) a (W.alloc (.cells C 5)) := by
  subst hC hm
  refine wpList_plain hgd fun K hKK => ?_
  obtain ⟨u, w', hr, h1, h2⟩ := run_byts h ys hB hl o.type
  unfold Oper.wp execOp
  simp only [ho, resolve, invoke, builtin, Sem.run_bind, Sem.run_pure, Result.andThen_ok, List.map_toArray, List.map_cons, List.map_nil, hx, hy, hr]
  exact hKK _ _ (hK u w' h1 h2)
theorem byts_drawn {ops : Array Oper} {o : Oper} {a : Act} {K : Act → World → Prop} {Q : Exit → Act → World → Prop} {E : Prop} {W : World} {B : Nat} {v : Value} {bs : List UInt8} {C : Array Value} {m : Nat} (h : OwnB W B v bs) (ys : List UInt8) (hB : B ≤ W.heap.size) (hl : bs.length + ys.length < 1000000) (hC : C = (ys.map bv).toArray) (hm : m = ys.length) (hgd : o.guard = none) (x y : Operand)
    (ho : o.op = .call { callee := .builtin .append, args := #[x, y], argTypes := #[49, 49] }) (hx : a.eval x = v) (hy : a.eval y = .slice (some ⟨W.heap.size, 0, none⟩) m m)
    (hK : ∀ u w', OwnB w' B u (bs ++ ys) → Below B W w' → K (a.put o.dst u) w') :
    if Region.wanted o (yielded ops a.tmps) = true then Oper.wp Tryd.prog o a (W.alloc (.cells C 5)) K Q else E := by
  subst hC hm
  rw [if_pos (by simp [Region.wanted, hgd])]
  obtain ⟨u, w', hr, h1, h2⟩ := run_byts h ys hB hl o.type
  unfold Oper.wp execOp
  simp only [ho, resolve, invoke, builtin, Sem.run_bind, Sem.run_pure, Result.andThen_ok, List.map_toArray, List.map_cons, List.map_nil, hx, hy, hr]
  exact hK u w' h1 h2
section
variable {w : World} {B : Nat} {v : Value} {xs : List UInt8}
set_option maxRecDepth 10000 in
set_option maxHeartbeats 1600000 in
theorem piece_any (h : OwnB w B v xs) (b : UInt8) (hB : B ≤ w.heap.size) (hl : xs.length < 900000) :
    Calls Tryd.prog 44 #[v, .int .u8 (b.toNat : Int)] w fun e w' => ∃ u, e = .returned u ∧ OwnB w' B u (xs ++ pieceQ b) ∧ Below B w w' := by
  have HO := hid' h
  clear h
  by_cases e10 : b = 10
  · subst e10
    have HP : Hid (pieceQ 10 = [92, 110]) := hid' (by decide)
    go_enter Tryd.func44, Tryd.ntmps44
    go_wp2_with (at_builtin; refine byts_plain HO.out [92, 110] hB (by simp; omega) (by rfl) (by rfl) rfl (.tmp 8) (.tmp 9) (by rfl) (by rfl) (by rfl) ?_; intro u w' h1 h2; have H1 := hid' h1; have H2 := hid' h2; clear h1 h2)
    go_ret
    exact ⟨u, rfl, by rw [HP.out]; exact H1.out, H2.out⟩
  · by_cases e9 : b = 9
    · subst e9
      have HP : Hid (pieceQ 9 = [92, 116]) := hid' (by decide)
      go_enter Tryd.func44, Tryd.ntmps44
      go_wp2_with (at_builtin; refine byts_plain HO.out [92, 116] hB (by simp; omega) (by rfl) (by rfl) rfl (.tmp 14) (.tmp 15) (by rfl) (by rfl) (by rfl) ?_; intro u w' h1 h2; have H1 := hid' h1; have H2 := hid' h2; clear h1 h2)
      go_ret
      exact ⟨u, rfl, by rw [HP.out]; exact H1.out, H2.out⟩
    · by_cases e92 : b = 92 ∨ b = 34
      · rcases e92 with rfl | rfl
        · have HP : Hid (pieceQ 92 = [92, 92]) := hid' (by decide)
          go_enter Tryd.func44, Tryd.ntmps44
          go_wp2_with (at_builtin; refine byts_plain HO.out [92, 92] hB (by simp; omega) (by rfl) (by rfl) rfl (.tmp 24) (.tmp 26) (by rfl) (by rfl) (by rfl) ?_; intro u w' h1 h2; have H1 := hid' h1; have H2 := hid' h2; clear h1 h2)
          go_ret
          exact ⟨u, rfl, by rw [HP.out]; exact H1.out, H2.out⟩
        · have HP : Hid (pieceQ 34 = [92, 34]) := hid' (by decide)
          go_enter Tryd.func44, Tryd.ntmps44
          go_wp2_with (at_builtin; refine byts_plain HO.out [92, 34] hB (by simp; omega) (by rfl) (by rfl) rfl (.tmp 24) (.tmp 26) (by rfl) (by rfl) (by rfl) ?_; intro u w' h1 h2; have H1 := hid' h1; have H2 := hid' h2; clear h1 h2)
          go_ret
          exact ⟨u, rfl, by rw [HP.out]; exact H1.out, H2.out⟩
      · have b10 := byte_eq b 10
        have b9 := byte_eq b 9
        have b92 := byte_eq b 92
        have b34 := byte_eq b 34
        rw [show (((10 : UInt8).toNat : Nat) : Int) = 10 from rfl, beq_eq_false_iff_ne.2 e10] at b10
        rw [show (((9 : UInt8).toNat : Nat) : Int) = 9 from rfl, beq_eq_false_iff_ne.2 e9] at b9
        rw [show (((92 : UInt8).toNat : Nat) : Int) = 92 from rfl, beq_eq_false_iff_ne.2 (fun e => e92 (.inl e))] at b92
        rw [show (((34 : UInt8).toNat : Nat) : Int) = 34 from rfl, beq_eq_false_iff_ne.2 (fun e => e92 (.inr e))] at b34
        replace b10 := b10.symm
        replace b9 := b9.symm
        replace b92 := b92.symm
        replace b34 := b34.symm
        have HT := hid' (isTextByte_tells b)
        have hpq : pieceQ b = if tb b then [b] else [92, 120, hexc (b >>> 4), hexc (b &&& 15)] := by unfold pieceQ; rw [if_neg e10, if_neg e9, if_neg e92]
        rcases Bool.eq_false_or_eq_true (tb b) with e | e
        · have HT' : Hid (∀ w, Calls Tryd.prog 51 #[.int .u8 (b.toNat : Int)] w fun e w' => e = .returned (.bool true) ∧ w' = w) := hid' (fun w => by have := HT.out w; rwa [e] at this)
          have HP : Hid (pieceQ b = [b]) := hid' (by rw [hpq, e]; rfl)
          clear HT e hpq e10 e9 e92
          go_enter Tryd.func44, Tryd.ntmps44
          go_wp2_with fail
          refine (HT'.out _).mono ?_
          rintro e w1 ⟨rfl, rfl⟩
          go_wp2_with (at_builtin; refine byts_plain HO.out [b] hB (by simp; omega) (by rfl) (by rfl) rfl (.tmp 41) (.tmp 43) (by rfl) (by rfl) (by rfl) ?_; intro u w' h1 h2; have H1 := hid' h1; have H2 := hid' h2; clear h1 h2)
          go_ret
          exact ⟨u, rfl, by rw [HP.out]; exact H1.out, H2.out⟩
        · have HT' : Hid (∀ w, Calls Tryd.prog 51 #[.int .u8 (b.toNat : Int)] w fun e w' => e = .returned (.bool false) ∧ w' = w) := hid' (fun w => by have := HT.out w; rwa [e] at this)
          have HP : Hid (pieceQ b = [92, 120, hexc (b >>> 4), hexc (b &&& 15)]) := hid' (by rw [hpq, e]; rfl)
          clear HT e hpq e10 e9 e92
          have hix1 := digit_at (b.toNat / 16) (by have := b.toNat_lt; omega)
          have hix2 := digit_at (b.toNat % 16) (by omega)
          rw [← shr_u8, show ((b.toNat / 16 : Nat) : Int) = (b.toNat : Int) / 16 from by omega] at hix1
          rw [← and_u8, ← bits_and] at hix2
          go_enter Tryd.func44, Tryd.ntmps44
          go_wp2_with fail
          refine (HT'.out _).mono ?_
          rintro e w1 ⟨rfl, rfl⟩
          go_wp2_with fail
          go_region_law (refine byts_drawn (W := w1.drew) (row_far HO.out fun _ _ _ => rfl) [92, 120, hexc (b >>> 4), hexc (b &&& 15)] hB (by simp; omega) (by rfl) (by rfl) rfl (.tmp 32) (.tmp 39) (by rfl) (by first | rfl | simp [Act.eval]) (by first | rfl | simp [Act.eval]) ?_; intro u w' h1 h2)
          all_goals (
            have H1 := hid' h1
            have H2 : Hid (Below B w1 w') := hid' ⟨h2.os, h2.tape, h2.output, h2.size, h2.block⟩
            clear h1 h2
            go_wp2
            go_ret
            exact ⟨u, rfl, by rw [HP.out]; exact H1.out, H2.out⟩)
set_option maxRecDepth 10000 in
set_option maxHeartbeats 1600000 in
theorem quote_any (s : ByteArray) (hs : s.size ≤ 10000) (w : World) :
    Calls Tryd.prog 18 #[.string s] w fun e w' => e = .returned (.string (txt (quoteF s.data.toList))) ∧ Below w.heap.size w w' := by
  have hmk := make_bytes (s.size + 2) (by omega) w
  rw [show ((s.size + 2 : Nat) : Int) = (s.size : Int) + 2 by omega] at hmk
  have HO := hid' (ownB_made w w.heap.size (s.size + 2) (by omega) (Nat.le_refl _))
  have HB := hid' ((Below.refl w.heap.size w).alloc (Nat.le_refl _) (.cells (zrow (s.size + 2)) 5))
  have hz := World.size_alloc w (.cells (zrow (s.size + 2)) 5)
  generalize hw1 : w.alloc (.cells (zrow (s.size + 2)) 5) = w1 at HO HB hmk hz
  have hw1s : w.heap.size ≤ w1.heap.size := HB.out.size
  clear hz hw1
  generalize s.size + 2 = cc at HO hmk
  go_enter Tryd.func18, Tryd.ntmps18
  go_wp2_with (at_builtin; refine byts_plain HO.out [34] hw1s (by simp) (by rfl) (by rfl) rfl (.tmp 9) (.tmp 10) (by rfl) (by rfl) (by rfl) ?_; intro u w2 h1 h2; have HO2 := hid' h1; have HB2 := hid' (HB.out.trans h2); clear h1 h2)
  clear hmk HO HB hw1s
  go_loopw [3, 14] (fun v i wr => ∃ (k : Nat) (acc : List UInt8), k ≤ s.size ∧ i = .int .i64 k ∧ acc.length ≤ 1 + 4 * k ∧ Hid (34 :: (s.data.toList.flatMap pieceQ) = acc ++ (s.data.toList.drop k).flatMap pieceQ) ∧ Hid (OwnB wr w.heap.size v acc) ∧ Hid (Below w.heap.size w wr)) (fun _ i _ => s.size - (intOf i).toNat)
  case atStart => exact ⟨0, [34], Nat.zero_le _, rfl, by simp, hid' (by rw [List.drop_zero]; rfl), HO2, HB2⟩
  case round =>
    clear HO2 HB2
    obtain ⟨k, acc, hk, rfl, hacc, hrest, ho, hb⟩ := hrel
    have hwz := hb.out.size
    by_cases hlt : k < s.size
    · obtain ⟨b, hbk⟩ : ∃ b, s[k] = b := ⟨_, rfl⟩
      have hlt' : (k : Int) < (s.size : Int) := by omega
      have hidx : ∀ W, (Instr.index 9 (.string s) (.int .i64 (k : Int))).run Tryd.prog W = .ok (.int .u8 (b.toNat : Int)) W := fun W => by
        rw [← hbk]
        go_simp
      have hpl : (pieceQ b).length ≤ 4 := by unfold pieceQ; split <;> (try split) <;> (try split) <;> (try split) <;> simp
      have hrest' : Hid (34 :: (s.data.toList.flatMap pieceQ) = (acc ++ pieceQ b) ++ (s.data.toList.drop (k + 1)).flatMap pieceQ) := hid' (by
        rw [hrest.out, drop_at s k hlt, hbk, List.flatMap_cons, List.append_assoc])
      have HP := hid' (piece_any ho.out b hwz (by omega))
      have HPL := hid' hpl
      clear hbk hrest hpl
      go_wp2_with fail
      refine (HP.out).mono ?_
      rintro e w3 ⟨u, rfl, h1, h2⟩
      have HO3 := hid' h1
      have HB3 := hid' (hb.out.trans h2)
      clear h1 h2 HP
      go_wp2
      go_roundw
      case rel => exact ⟨k + 1, acc ++ pieceQ b, by omega, by go_num, by have := HPL.out; rw [List.length_append]; omega, hrest', HO3, HB3⟩
      case measure => simp [intOf]; omega
    · obtain rfl : k = s.size := by omega
      have hend : Hid (quoteF s.data.toList = acc ++ [34]) := hid' (by
        unfold quoteF
        rw [← List.cons_append, hrest.out, List.drop_eq_nil_of_le (by simp), List.flatMap_nil, List.append_nil])
      clear hrest
      go_wp2_with (at_builtin; refine byts_plain ho.out [34] hwz (by simp; omega) (by rfl) (by rfl) rfl (.tmp 23) (.tmp 24) (by rfl) (by rfl) (by rfl) ?_; intro u w3 h1 h2; have hcv := conv_own h1; obtain ⟨ao, cap, hu, _⟩ := own_form h1; obtain ⟨ln, hln⟩ : ∃ ln, (acc ++ [34]).length = ln := ⟨_, rfl⟩; rw [hln] at hu; subst hu; clear hln; have HB3 := hid' (hb.out.trans h2); clear h1 h2)
      go_ret
      exact ⟨ret_v (by rw [hend.out]; rfl), HB3.out⟩
end
end Go.Proofs.YtjobpcbnolgmnaaDoor
