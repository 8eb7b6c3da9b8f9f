/- Bytes in a row of the call's own: appends; the four bytes of a word; what stands behind a text. Conditions: fewer than 2^31 bytes. -/
import Derived.Test.YtffmldplchlnpaaDoorWrite
import Derived.Deep.MidRow
namespace Go.Proofs.YtffmldplchlnpaaDoor
open Go.RowKit

theorem info_byte : (Tryd.prog.info? 5).map (fun i => (i.zero, i.size, i.bytes)) = some (some (.int .u8 0), 1, 1) := by kernel_rfl
theorem byte_parts : ∃ i, Tryd.prog.info? 5 = some i ∧ i.zero = some (.int .u8 0) ∧ i.size = 1 ∧ i.bytes = 1 := by
  have h := info_byte
  cases e : Tryd.prog.info? 5 with
  | none => rw [e] at h; cases h
  | some i =>
    rw [e] at h
    simp only [Option.map_some, Option.some.injEq, Prod.mk.injEq] at h
    exact ⟨i, rfl, h.1, h.2.1, h.2.2⟩
/-- A list of bytes of the call's own, from block B on. -/
def OwnB (W : World) (B : Nat) (v : Value) (bs : List UInt8) : Prop := W.ownsRow B 5 1 v bs.length (bs.map bval)
theorem OwnB.of_eq {W W' : World} {B : Nat} {v : Value} {bs : List UInt8} (h : OwnB W B v bs) (hb : ∀ k, B ≤ k → k < W.heap.size → W'.heap[k]? = W.heap[k]?) : OwnB W' B v bs := by
  refine ⟨h.1, ?_⟩
  rcases h.2 with h0 | ⟨g, cap, cur, e, hB, hg, h3⟩
  · exact .inl h0
  · exact .inr ⟨g, cap, cur, e, hB, (hb g hB (Array.getElem?_eq_some_iff.1 hg).1).trans hg, h3⟩
theorem OwnB.below {W W' : World} {B : Nat} {v : Value} {bs : List UInt8} (h : OwnB W B v bs) (hb : Below W.heap.size W W') : OwnB W' B v bs := h.of_eq fun k _ hk => hb.block k hk
theorem OwnB.mono {W : World} {B B' : Nat} {v : Value} {bs : List UInt8} (h : OwnB W B v bs) (hb : B' ≤ B) : OwnB W B' v bs := by
  refine ⟨h.1, ?_⟩
  rcases h.2 with h0 | ⟨g, cap, cur, e, hB, h3⟩
  · exact .inl h0
  · exact .inr ⟨g, cap, cur, e, by omega, h3⟩
theorem ownB_nil (W : World) (B : Nat) : OwnB W B (.slice none 0 0) [] := ⟨rfl, .inl ⟨rfl, rfl⟩⟩
/-- Where the bytes of a list of the call's own stand. -/
theorem OwnB.at {W : World} {B : Nat} {v : Value} {bs : List UInt8} (h : OwnB W B v bs) : ∃ ao cap, v = .slice ao bs.length cap ∧ bs.length ≤ cap ∧ (0 < bs.length → ∃ g, ao = some ⟨g, 0, none⟩ ∧ B ≤ g ∧ g < W.heap.size ∧ At W g 0 bs) := by
  rcases h.2 with ⟨rfl, h0⟩ | ⟨g, cap, cur, rfl, hB, hg, hc, _, hs, ht⟩
  · exact ⟨none, 0, by rw [h0], by omega, fun hp => by omega⟩
  · refine ⟨_, cap, rfl, hc, fun _ => ⟨g, rfl, hB, (Array.getElem?_eq_some_iff.1 hg).1, fun j x hx => ?_⟩⟩
    rw [cell_of_row W g (0 + j) _ _ _ hg, Nat.zero_add]
    have h1 : (bs.map bval)[j]? = some (bval x) := by rw [List.getElem?_map, hx]; rfl
    rw [← ht, List.getElem?_take] at h1
    split at h1
    · simpa using h1
    · cases h1

theorem app_run (w : World) (base : Nat) (ty : TypeId) (v : Value) (xs ys : List UInt8) (hown : OwnB w base v xs) (bk off m c : Nat) (hm : ys.length = m) (hc : At w bk off ys) (hlen : xs.length + ys.length < 2147483648) (hbase : base ≤ w.heap.size) :
    ∃ v' w', (Builtin.append_ #[22, 22] ty #[v, .slice (some ⟨bk, off, none⟩) m c]).run Tryd.prog w = .ok v' w' ∧ OwnB w' base v' (xs ++ ys) ∧ Below base w w' := by
  subst hm
  obtain ⟨i, hi, hz, hz1, hz2⟩ := byte_parts
  obtain ⟨v', w', hr, h1, h2, _⟩ := run_append_own (P := Tryd.prog) w base 22 ty 5 i (.int .u8 0) 1 1 Tryd.underlying22 hi hz hz1 hz2 rfl (by decide) v xs.length (xs.map bval) hown ⟨bk, off, none⟩ ys.length c (ys.map bval) (by simp)
    (fun j u hu => by
      rw [List.getElem?_map] at hu
      obtain ⟨x, hx, rfl⟩ := Option.map_eq_some_iff.1 hu
      rw [Addr.add_mid]
      exact hc j x hx) (bval_one _) (by unfold maxLen; omega) (by omega) hbase
  refine ⟨v', w', hr, ?_, ⟨h2.os, h2.tape, h2.output, h2.size, fun k hk => h2.block k (by omega) (fun e => ?_)⟩⟩
  · unfold OwnB; rw [List.length_append, List.map_append]; exact h1
  · have := (hown.lt k e.symm).1
    omega

theorem bval_byteN (n s : Nat) : bval (byteN n s) = .int .u8 (((n / 2 ^ s % 256 : Nat)) : Int) := by
  unfold bval byteN
  congr 1
theorem four_at (n : Nat) (hn : n < 4294967296) (w : World) (t : TypeId) : At (w.alloc (.cells #[.int .u8 ((n : Int) / 16777216), .int .u8 ((n : Int) / 65536 % 256), .int .u8 ((n : Int) / 256 % 256), .int .u8 ((n : Int) % 256)] t)) w.heap.size 0 (words4 n) := fun j x hx => by
  rw [cell_of_row _ w.heap.size (0 + j) _ _ _ (heap_alloc_new _ _), Nat.zero_add]
  rw [words4] at hx
  match j, hx with
  | 0, hx =>
    obtain rfl : byteN n 24 = x := by simpa using hx
    rw [bval_byteN, show ((n / 2 ^ 24 % 256 : Nat) : Int) = (n : Int) / 16777216 by omega]
    rfl
  | 1, hx =>
    obtain rfl : byteN n 16 = x := by simpa using hx
    rw [bval_byteN, show ((n / 2 ^ 16 % 256 : Nat) : Int) = (n : Int) / 65536 % 256 by omega]
    rfl
  | 2, hx =>
    obtain rfl : byteN n 8 = x := by simpa using hx
    rw [bval_byteN, show ((n / 2 ^ 8 % 256 : Nat) : Int) = (n : Int) / 256 % 256 by omega]
    rfl
  | 3, hx =>
    obtain rfl : byteN n 0 = x := by simpa using hx
    rw [bval_byteN, show ((n / 2 ^ 0 % 256 : Nat) : Int) = (n : Int) % 256 by omega]
    rfl
  | j + 4, hx => simp at hx

theorem wp_append_bytes {o : Oper} {a : Act} {K : Act → World → Prop} {Q : Exit → Act → World → Prop} (w : World) (s x : Operand)
    (ho : o.op = .call { callee := .builtin .append, args := #[s, x], argTypes := #[22, 22] }) (base : Nat) (v : Value) (xs ys : List UInt8) (hs : a.eval s = v) (hown : OwnB w base v xs) (bk off m c : Nat) (hx : a.eval x = .slice (some ⟨bk, off, none⟩) m c) (hm : ys.length = m)
    (hc : At w bk off ys) (hlen : xs.length + ys.length < 2147483648) (hbase : base ≤ w.heap.size)
    (h : ∀ v' w', OwnB w' base v' (xs ++ ys) → Below base w w' → K (a.put o.dst v') w') : o.wp Tryd.prog a w K Q := by
  obtain ⟨v', w', hr, h1, h2⟩ := app_run w base o.type v xs ys hown bk off m c hm hc hlen hbase
  unfold Oper.wp execOp
  simp only [ho, resolve, invoke, builtin, Sem.run_bind, Sem.run_pure, Result.andThen_ok, List.map_toArray, List.map_cons, List.map_nil, hs, hx, hr]
  exact h v' w' h1 h2
theorem append_bytes {ops : Array Oper} {rest : List Oper} {o : Oper} {a : Act} {Q : Exit → Act → World → Prop} (w : World) (hgd : o.guard = none) (s x : Operand)
    (ho : o.op = .call { callee := .builtin .append, args := #[s, x], argTypes := #[22, 22] }) (base : Nat) (v : Value) (xs ys : List UInt8) (hs : a.eval s = v) (hown : OwnB w base v xs) (bk off m c : Nat) (hx : a.eval x = .slice (some ⟨bk, off, none⟩) m c) (hm : ys.length = m)
    (hc : At w bk off ys) (hlen : xs.length + ys.length < 2147483648) (hbase : base ≤ w.heap.size)
    (h : ∀ v' w', OwnB w' base v' (xs ++ ys) → Below base w w' → wpList Tryd.prog ops Q rest (a.put o.dst v') w') : wpList Tryd.prog ops Q (o :: rest) a w :=
  wpList_plain hgd fun _ hK => wp_append_bytes w s x ho base v xs ys hs hown bk off m c hx hm hc hlen hbase fun v' w' h1 h2 => hK _ _ (h v' w' h1 h2)
theorem step_append_bytes {ops : Array Oper} {o : Oper} {a : Act} {K : Act → World → Prop} {Q : Exit → Act → World → Prop} {E : Prop} (w : World) (hgd : o.guard = none) (s x : Operand)
    (ho : o.op = .call { callee := .builtin .append, args := #[s, x], argTypes := #[22, 22] }) (base : Nat) (v : Value) (xs ys : List UInt8) (hs : a.eval s = v) (hown : OwnB w base v xs) (bk off m c : Nat) (hx : a.eval x = .slice (some ⟨bk, off, none⟩) m c) (hm : ys.length = m)
    (hc : At w bk off ys) (hlen : xs.length + ys.length < 2147483648) (hbase : base ≤ w.heap.size)
    (h : ∀ v' w', OwnB w' base v' (xs ++ ys) → Below base w w' → K (a.put o.dst v') w') :
    if Region.wanted o (yielded ops a.tmps) = true then Oper.wp Tryd.prog o a w K Q else E := by
  rw [if_pos (by simp [Region.wanted, hgd])]
  exact wp_append_bytes w s x ho base v xs ys hs hown bk off m c hx hm hc hlen hbase h

theorem words4_len (n : Nat) : (words4 n).length = 4 := rfl
theorem appendWord_any (base : Nat) (v : Value) (xs : List UInt8) (n : Nat) (hn : n < 4294967296) (w : World) (hown : OwnB w base v xs) (hb : base ≤ w.heap.size) (hlen : xs.length < 1073741824) :
    Calls Tryd.prog 24 #[v, .int .u32 (n : Int)] w fun e w' => ∃ v', e = .returned v' ∧ OwnB w' base v' (xs ++ words4 n) ∧ Below base w w' := by
  have hA := four_at n hn w 5
  have hown' : OwnB (w.alloc (.cells #[.int .u8 ((n : Int) / 16777216), .int .u8 ((n : Int) / 65536 % 256), .int .u8 ((n : Int) / 256 % 256), .int .u8 ((n : Int) % 256)] 5)) base v xs := hown.of_eq fun k _ hk => Below.heap_alloc w _ k hk
  have HA := hidden hA
  have HO := hidden hown'
  clear hA hown' hown
  go_enter Tryd.func24, Tryd.ntmps24
  go_wp2_with (at_builtin; refine append_bytes (w.alloc (.cells #[.int .u8 ((n : Int) / 16777216), .int .u8 ((n : Int) / 65536 % 256), .int .u8 ((n : Int) / 256 % 256), .int .u8 ((n : Int) % 256)] 5)) rfl (.tmp 5) (.tmp 17) rfl base v xs (words4 n) rfl HO.out w.heap.size 0 4 4 rfl (words4_len n) HA.out (by rw [words4_len]; omega) (by simp; omega) ?_; intro v' w' h1 h2)
  go_ret
  exact ⟨v', rfl, h1, ((Below.refl base w).alloc hb _).trans h2⟩

theorem byteN_eq {a b s : Nat} (h : a / 2 ^ s % 256 = b / 2 ^ s % 256) : byteN a s = byteN b s := by
  unfold byteN
  apply UInt8.toNat_inj.1
  show (a / 2 ^ s) % 256 = (b / 2 ^ s) % 256
  exact h
theorem words4_mod (n : Nat) : words4 (n % 4294967296) = words4 n := by
  rw [words4, words4, byteN_eq (a := n % 4294967296) (b := n) (s := 24) (by omega), byteN_eq (a := n % 4294967296) (b := n) (s := 16) (by omega), byteN_eq (a := n % 4294967296) (b := n) (s := 8) (by omega), byteN_eq (a := n % 4294967296) (b := n) (s := 0) (by omega)]

/-- The bytes of a row of the call's own, one of them turned. -/
theorem OwnB.first {W : World} {B g : Nat} {bs : List UInt8} {n cap : Nat} {x x' : UInt8} (h : OwnB W B (.slice (some ⟨g, 0, none⟩) n cap) (x :: bs)) : OwnB (W.setCell ⟨g, 0, none⟩ (bval x')) B (.slice (some ⟨g, 0, none⟩) n cap) (x' :: bs) := by
  refine ⟨by simp, ?_⟩
  rcases h.2 with ⟨h0, _⟩ | ⟨g', cap', cur, e, hB, hg, h3, h4, h5, h6⟩
  · cases h0
  · cases e
    refine .inr ⟨g, cap, _, rfl, hB, heap_setCell_same W g 0 _ _ _ hg, h3, h4, by simpa using h5, ?_⟩
    simp only [List.length_cons, Nat.mul_one, List.map_cons, Array.toList_setIfInBounds] at h6 ⊢
    cases hc : cur.toList with
    | nil => rw [hc] at h6; cases h6
    | cons c cs =>
      rw [hc] at h6
      simp only [List.take_succ_cons, List.cons.injEq] at h6
      simp [h6.2]
theorem OwnB.cellZero {W : World} {B g : Nat} {bs : List UInt8} {n cap : Nat} {x : UInt8} (h : OwnB W B (.slice (some ⟨g, 0, none⟩) n cap) (x :: bs)) : W.cell? ⟨g, 0, none⟩ = some (bval x) ∧ W.frozen? ⟨g, 0, none⟩ = false ∧ B ≤ g := by
  rcases h.2 with ⟨h0, _⟩ | ⟨g', cap', cur, e, hB, hg, _, _, _, h6⟩
  · cases h0
  · cases e
    refine ⟨?_, frozen_of_row W g 0 _ _ hg, hB⟩
    rw [cell_of_row W g 0 _ _ _ hg]
    simp only [List.length_cons, Nat.mul_one, List.map_cons] at h6
    cases hc : cur.toList with
    | nil => rw [hc] at h6; cases h6
    | cons c cs =>
      rw [hc] at h6
      simp only [List.take_succ_cons, List.cons.injEq] at h6
      rw [← h6.1, ← Array.getElem?_toList, hc]
      rfl

def zrow (c : Nat) : Array Value := (List.replicate c (bval 0)).toArray
theorem make_bytes (kl kc : IntKind) (l c : Nat) (hlc : l ≤ c) (hc : c < 2147483648) (L C : Int) (hL : L = l) (hC : C = c) (w : World) :
    (Instr.makeSlice 22 (.int kl L) (.int kc C)).run Tryd.prog w = .ok (.slice (some ⟨w.heap.size, 0, none⟩) l c) (w.alloc (.cells (zrow c) 5)) := by
  obtain ⟨i, hi, hz, hz1, hz2⟩ := byte_parts
  subst hL hC
  have h := run_make (P := Tryd.prog) w 22 5 i (.int .u8 0) Tryd.underlying22 hi hz kl kc l c (by omega) (by omega) (by rw [hz2]; omega) (by omega)
  rw [h]
  simp only [Int.toNat_natCast, hz1, Nat.mul_one]
  have e : madeCells (Value.int IntKind.u8 0).cells c = zrow c := by
    apply Array.ext
    · simp [madeCells, zrow]
    · intro i h1 h2
      simp [madeCells, zrow, Value.cells, bval, Nat.mod_one]
  rw [e]
theorem ownB_zeros (w : World) (B l c : Nat) (hlc : l ≤ c) (hc : c < 2147483648) (hB : B ≤ w.heap.size) : OwnB (w.alloc (.cells (zrow c) 5)) B (.slice (some ⟨w.heap.size, 0, none⟩) l c) (List.replicate l 0) := by
  unfold OwnB
  rw [List.length_replicate]
  refine ⟨by simp, .inr ⟨w.heap.size, c, zrow c, rfl, hB, heap_alloc_new _ _, hlc, by unfold maxLen; omega, by simp [zrow], ?_⟩⟩
  simp [zrow, List.take_replicate]
  omega

theorem setCell_made (w : World) (cs : Array Value) (t : TypeId) (i : Nat) (v : Value) : (w.alloc (.cells cs t)).setCell ⟨w.heap.size, i, none⟩ v = w.alloc (.cells (cs.setIfInBounds i v) t) := by
  rw [setCell_eq_setRow _ _ _ _ _ _ _ (heap_alloc_new _ _), World.setRow_alloc_new]

set_option maxHeartbeats 1600000 in
theorem padding_any (n : Nat) (hn : n < 2147483648) (w : World) :
    Calls Tryd.prog 28 #[.int .u64 (n : Int)] w fun e w' => ∃ v, e = .returned v ∧ OwnB w' w.heap.size v (padF n) ∧ Below w.heap.size w w' := by
  by_cases h56 : n % 64 < 56
  · have hmk := make_bytes .u64 .u64 (56 - n % 64) (56 - n % 64 + 8) (by omega) (by omega) (56 - (n : Int) % 64) (56 - (n : Int) % 64 + 8) (by omega) (by omega)
    have hown := ownB_zeros w w.heap.size (56 - n % 64) (56 - n % 64 + 8) (by omega) (by omega) (Nat.le_refl _)
    obtain ⟨c, hc⟩ : ∃ c, 56 - n % 64 = c + 1 := ⟨55 - n % 64, by omega⟩
    have hc64 : c ≤ 63 := by omega
    rw [hc, List.replicate_succ] at hown
    rw [hc] at hmk
    have hcell := hown.cellZero
    have hown2 := hown.first (x' := 128)
    rw [setCell_made] at hown2
    obtain ⟨hc1, hc2, _⟩ := hcell
    have ha := appendWord_any w.heap.size _ _ (n * 8 / 4294967296) (by omega) _ hown2 (by simp) (by simp; omega)
    rw [show ((n * 8 / 4294967296 : Nat) : Int) = (n : Int) * 8 / 4294967296 by omega] at ha
    have HA1 := hidden (Calls.mono ha fun e w' h => (show ∃ v', e = .returned v' ∧ OwnB w' w.heap.size v' (128 :: List.replicate c 0 ++ words4 (n * 8 / 4294967296)) ∧ Below w.heap.size w w' from by
      obtain ⟨v', h1, h2, h3⟩ := h
      exact ⟨v', h1, h2, ((Below.refl _ _).alloc (Nat.le_refl _) _).trans h3⟩))
    have HC := hidden hc
    clear hown hown2 hc ha
    go_enter Tryd.func28, Tryd.ntmps28
    go_wp2_with fail
    refine (HA1.out).mono ?_
    rintro e w1 ⟨v1, rfl, ho1, hb1⟩
    have HA2 := hidden (appendWord_any w.heap.size v1 _ (n * 8 % 4294967296) (by omega) w1 ho1 hb1.size (by simp [words4_len]; omega))
    have hb1' := hb1
    go_wp2_with fail
    rw [show ((n : Int) * 8 % 4294967296) = ((n * 8 % 4294967296 : Nat) : Int) by omega]
    refine (HA2.out).mono ?_
    rintro e w2 ⟨v2, rfl, ho2, hb2⟩
    go_wp2
    go_ret
    refine ⟨v2, rfl, ?_, hb1.trans hb2⟩
    have e : padF n = 128 :: List.replicate c 0 ++ words4 (n * 8 / 4294967296) ++ words4 (n * 8 % 4294967296) := by
      rw [words4_mod, padF, noughts]
      have := HC.out
      rw [if_pos h56, show 55 - n % 64 = c by omega]
      simp
    rw [e]
    exact ho2
  · have hmk := make_bytes .u64 .u64 (120 - n % 64) (120 - n % 64 + 8) (by omega) (by omega) (IntKind.u64.wrap (IntKind.u64.wrap (56 - (n : Int) % 64) + 64)) (IntKind.u64.wrap (IntKind.u64.wrap (IntKind.u64.wrap (56 - (n : Int) % 64) + 64) + 8)) (by rw [IntKind.wrap_u64, IntKind.wrap_u64]; omega) (by rw [IntKind.wrap_u64, IntKind.wrap_u64, IntKind.wrap_u64]; omega)
    have hown := ownB_zeros w w.heap.size (120 - n % 64) (120 - n % 64 + 8) (by omega) (by omega) (Nat.le_refl _)
    obtain ⟨c, hc⟩ : ∃ c, 120 - n % 64 = c + 1 := ⟨119 - n % 64, by omega⟩
    have hc64 : c ≤ 63 := by omega
    rw [hc, List.replicate_succ] at hown
    rw [hc] at hmk
    have hcell := hown.cellZero
    have hown2 := hown.first (x' := 128)
    rw [setCell_made] at hown2
    obtain ⟨hc1, hc2, _⟩ := hcell
    have ha := appendWord_any w.heap.size _ _ (n * 8 / 4294967296) (by omega) _ hown2 (by simp) (by simp; omega)
    rw [show ((n * 8 / 4294967296 : Nat) : Int) = (n : Int) * 8 / 4294967296 by omega] at ha
    have HA1 := hidden (Calls.mono ha fun e w' h => (show ∃ v', e = .returned v' ∧ OwnB w' w.heap.size v' (128 :: List.replicate c 0 ++ words4 (n * 8 / 4294967296)) ∧ Below w.heap.size w w' from by
      obtain ⟨v', h1, h2, h3⟩ := h
      exact ⟨v', h1, h2, ((Below.refl _ _).alloc (Nat.le_refl _) _).trans h3⟩))
    have HC := hidden hc
    clear hown hown2 hc ha
    go_enter Tryd.func28, Tryd.ntmps28
    go_wp2_with fail
    refine (HA1.out).mono ?_
    rintro e w1 ⟨v1, rfl, ho1, hb1⟩
    have HA2 := hidden (appendWord_any w.heap.size v1 _ (n * 8 % 4294967296) (by omega) w1 ho1 hb1.size (by simp [words4_len]; omega))
    have hb1' := hb1
    go_wp2_with fail
    rw [show ((n : Int) * 8 % 4294967296) = ((n * 8 % 4294967296 : Nat) : Int) by omega]
    refine (HA2.out).mono ?_
    rintro e w2 ⟨v2, rfl, ho2, hb2⟩
    go_wp2
    go_ret
    refine ⟨v2, rfl, ?_, hb1.trans hb2⟩
    have e : padF n = 128 :: List.replicate c 0 ++ words4 (n * 8 / 4294967296) ++ words4 (n * 8 % 4294967296) := by
      rw [words4_mod, padF, noughts]
      have := HC.out
      rw [if_neg h56, show 119 - n % 64 = c by omega]
      simp
    rw [e]
    exact ho2
end Go.Proofs.YtffmldplchlnpaaDoor
