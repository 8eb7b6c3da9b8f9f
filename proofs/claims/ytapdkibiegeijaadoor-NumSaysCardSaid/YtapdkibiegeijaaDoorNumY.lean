/- Bytes in a row of the call's own; num.appendPart, strconv.AppendUint. Conditions: as each states. -/
import Derived.Test.YtapdkibiegeijaaDoorNumG
import Derived.Test.YtapdkibiegeijaaDoorShelf
import Derived.Lib.SmallJoins
namespace Go.Proofs.YtapdkibiegeijaaDoor
open Go.RowKit
namespace Nm

def bval (x : UInt8) : Value := .int .u8 (x.toNat : Int)
/-- From a cell on the bytes stand one behind the other. -/
def At (w : World) (bk off : Nat) (bs : List UInt8) : Prop := ∀ j x, bs[j]? = some x → w.cell? ⟨bk, off + j, none⟩ = some (bval x)

theorem At.get {w : World} {bk off : Nat} {bs : List UInt8} (h : At w bk off bs) (j : Nat) (hj : j < bs.length) : w.cell? ⟨bk, off + j, none⟩ = some (.int .u8 ((bs.getD j 0).toNat : Int)) := by
  refine h j _ ?_
  rw [List.getD_eq_getElem?_getD, List.getElem?_eq_getElem hj]
  rfl
theorem At.below {w w' : World} {bk off B : Nat} {bs : List UInt8} (h : At w bk off bs) (hb : Below B w w') (hB : bk < B) : At w' bk off bs := fun j x hx => (hb.cell (p := ⟨bk, off + j, none⟩) hB).trans (h j x hx)
theorem bval_one (xs : List UInt8) : ∀ v ∈ xs.map bval, v.oneCell' = true := by
  intro v hv
  obtain ⟨x, _, rfl⟩ := List.mem_map.1 hv
  rfl
theorem info_byte : (Tryd.prog.info? 5).map (fun i => (i.zero, i.size, i.bytes)) = some (some (.int .u8 0), 1, 1) := by kernel_rfl
theorem byte_parts : ∃ i, Tryd.prog.info? 5 = some i ∧ i.zero = some (.int .u8 0) ∧ i.size = 1 ∧ i.bytes = 1 := by
  have h := info_byte
  cases e : Tryd.prog.info? 5 with
  | none => rw [e] at h; cases h
  | some i =>
    rw [e] at h
    simp only [Option.map_some, Option.some.injEq, Prod.mk.injEq] at h
    exact ⟨i, rfl, h.1, h.2.1, h.2.2⟩
/-- A list of bytes of the call's own, from block B on. -/
def OwnB (W : World) (B : Nat) (v : Value) (bs : List UInt8) : Prop := W.ownsRow B 5 1 v bs.length (bs.map bval)
theorem OwnB.of_eq {W W' : World} {B : Nat} {v : Value} {bs : List UInt8} (h : OwnB W B v bs) (hb : ∀ k, B ≤ k → k < W.heap.size → W'.heap[k]? = W.heap[k]?) : OwnB W' B v bs := by
  refine ⟨h.1, ?_⟩
  rcases h.2 with h0 | ⟨g, cap, cur, e, hB, hg, h3⟩
  · exact .inl h0
  · exact .inr ⟨g, cap, cur, e, hB, (hb g hB (Array.getElem?_eq_some_iff.1 hg).1).trans hg, h3⟩
theorem OwnB.below {W W' : World} {B : Nat} {v : Value} {bs : List UInt8} (h : OwnB W B v bs) (hb : Below W.heap.size W W') : OwnB W' B v bs := h.of_eq fun k _ hk => hb.block k hk
theorem OwnB.mono {W : World} {B B' : Nat} {v : Value} {bs : List UInt8} (h : OwnB W B v bs) (hb : B' ≤ B) : OwnB W B' v bs := by
  refine ⟨h.1, ?_⟩
  rcases h.2 with h0 | ⟨g, cap, cur, e, hB, h3⟩
  · exact .inl h0
  · exact .inr ⟨g, cap, cur, e, by omega, h3⟩
theorem ownB_nil (W : World) (B : Nat) : OwnB W B (.slice none 0 0) [] := ⟨rfl, .inl ⟨rfl, rfl⟩⟩
/-- Where the bytes of a list of the call's own stand. -/
theorem OwnB.at {W : World} {B : Nat} {v : Value} {bs : List UInt8} (h : OwnB W B v bs) : ∃ ao cap, v = .slice ao bs.length cap ∧ bs.length ≤ cap ∧ (0 < bs.length → ∃ g, ao = some ⟨g, 0, none⟩ ∧ B ≤ g ∧ g < W.heap.size ∧ At W g 0 bs) := by
  rcases h.2 with ⟨rfl, h0⟩ | ⟨g, cap, cur, rfl, hB, hg, hc, _, hs, ht⟩
  · exact ⟨none, 0, by rw [h0], by omega, fun hp => by omega⟩
  · refine ⟨_, cap, rfl, hc, fun _ => ⟨g, rfl, hB, (Array.getElem?_eq_some_iff.1 hg).1, fun j x hx => ?_⟩⟩
    rw [cell_of_row W g (0 + j) _ _ _ hg, Nat.zero_add]
    have h1 : (bs.map bval)[j]? = some (bval x) := by rw [List.getElem?_map, hx]; rfl
    rw [← ht, List.getElem?_take] at h1
    split at h1
    · simpa using h1
    · cases h1

theorem app_bytes (w : World) (base : Nat) (ty : TypeId) (v : Value) (xs ys : List UInt8) (hown : OwnB w base v xs) (bk off m c : Nat) (hm : ys.length = m) (hc : At w bk off ys) (hlen : xs.length + ys.length < 2147483648) (hbase : base ≤ w.heap.size) :
    ∃ v' w', (Builtin.append_ #[72, 72] ty #[v, .slice (some ⟨bk, off, none⟩) m c]).run Tryd.prog w = .ok v' w' ∧ OwnB w' base v' (xs ++ ys) ∧ Below base w w' ∧ Lib.OthersKept 5 none w w' := by
  subst hm
  obtain ⟨i, hi, hz, hz1, hz2⟩ := byte_parts
  obtain ⟨v', w', hr, h1, h2, _⟩ := run_append_own (P := Tryd.prog) w base 72 ty 5 i (.int .u8 0) 1 1 Tryd.underlying72 hi hz hz1 hz2 rfl (by decide) v xs.length (xs.map bval) hown ⟨bk, off, none⟩ ys.length c (ys.map bval) (by simp)
    (fun j u hu => by
      rw [List.getElem?_map] at hu
      obtain ⟨x, hx, rfl⟩ := Option.map_eq_some_iff.1 hu
      rw [Addr.add_mid]
      exact hc j x hx) (bval_one _) (by unfold maxLen; omega) (by omega) hbase
  refine ⟨v', w', hr, ?_, ⟨h2.os, h2.tape, h2.output, h2.size, fun k hk => h2.block k (by omega) (fun e => ?_)⟩, fun k o hk _ ho => (h2.block k (Array.getElem?_eq_some_iff.1 hk).1 (fun e => ?_)).trans hk⟩
  · unfold OwnB; rw [List.length_append, List.map_append]; exact h1
  · have := (hown.lt k e.symm).1
    omega
  · rcases hown.2 with ⟨rfl, _⟩ | ⟨g, cap, cur, rfl, _, hg, _⟩
    · cases e
    · cases e
      rw [hg] at hk
      cases hk
      exact ho _ _ rfl

theorem wp_append_bytes {o : Oper} {a : Act} {K : Act → World → Prop} {Q : Exit → Act → World → Prop} (w : World) (s x : Operand)
    (ho : o.op = .call { callee := .builtin .append, args := #[s, x], argTypes := #[72, 72] }) (base : Nat) (v : Value) (xs ys : List UInt8) (hs : a.eval s = v) (hown : OwnB w base v xs) (bk off m c : Nat) (hx : a.eval x = .slice (some ⟨bk, off, none⟩) m c) (hm : ys.length = m)
    (hc : At w bk off ys) (hlen : xs.length + ys.length < 2147483648) (hbase : base ≤ w.heap.size)
    (h : ∀ v' w', OwnB w' base v' (xs ++ ys) → Below base w w' → Lib.OthersKept 5 none w w' → K (a.put o.dst v') w') : o.wp Tryd.prog a w K Q := by
  obtain ⟨v', w', hr, h1, h2, h3⟩ := app_bytes w base o.type v xs ys hown bk off m c hm hc hlen hbase
  unfold Oper.wp execOp
  simp only [ho, resolve, invoke, builtin, Sem.run_bind, Sem.run_pure, Result.andThen_ok, List.map_toArray, List.map_cons, List.map_nil, hs, hx, hr]
  exact h v' w' h1 h2 h3
theorem append_bytes {ops : Array Oper} {rest : List Oper} {o : Oper} {a : Act} {Q : Exit → Act → World → Prop} (w : World) (hgd : o.guard = none) (s x : Operand)
    (ho : o.op = .call { callee := .builtin .append, args := #[s, x], argTypes := #[72, 72] }) (base : Nat) (v : Value) (xs ys : List UInt8) (hs : a.eval s = v) (hown : OwnB w base v xs) (bk off m c : Nat) (hx : a.eval x = .slice (some ⟨bk, off, none⟩) m c) (hm : ys.length = m)
    (hc : At w bk off ys) (hlen : xs.length + ys.length < 2147483648) (hbase : base ≤ w.heap.size)
    (h : ∀ v' w', OwnB w' base v' (xs ++ ys) → Below base w w' → Lib.OthersKept 5 none w w' → wpList Tryd.prog ops Q rest (a.put o.dst v') w') : wpList Tryd.prog ops Q (o :: rest) a w :=
  wpList_plain hgd fun _ hK => wp_append_bytes w s x ho base v xs ys hs hown bk off m c hx hm hc hlen hbase fun v' w' h1 h2 h3 => hK _ _ (h v' w' h1 h2 h3)
def zrow (c : Nat) : Array Value := (List.replicate c (bval 0)).toArray
theorem make_bytes (kl kc : IntKind) (l c : Nat) (hlc : l ≤ c) (hc : c < 2147483648) (L C : Int) (hL : L = l) (hC : C = c) (w : World) :
    (Instr.makeSlice 72 (.int kl L) (.int kc C)).run Tryd.prog w = .ok (.slice (some ⟨w.heap.size, 0, none⟩) l c) (w.alloc (.cells (zrow c) 5)) := by
  obtain ⟨i, hi, hz, hz1, hz2⟩ := byte_parts
  subst hL hC
  have h := run_make (P := Tryd.prog) w 72 5 i (.int .u8 0) Tryd.underlying72 hi hz kl kc l c (by omega) (by omega) (by rw [hz2]; omega) (by omega)
  rw [h]
  simp only [Int.toNat_natCast, hz1, Nat.mul_one]
  have e : madeCells (Value.int IntKind.u8 0).cells c = zrow c := by
    apply Array.ext
    · simp [madeCells, zrow]
    · intro i h1 h2
      simp [madeCells, zrow, Value.cells, bval, Nat.mod_one]
  rw [e]
theorem ownB_zeros (w : World) (B l c : Nat) (hlc : l ≤ c) (hc : c < 2147483648) (hB : B ≤ w.heap.size) : OwnB (w.alloc (.cells (zrow c) 5)) B (.slice (some ⟨w.heap.size, 0, none⟩) l c) (List.replicate l 0) := by
  unfold OwnB
  rw [List.length_replicate]
  refine ⟨by simp, .inr ⟨w.heap.size, c, zrow c, rfl, hB, heap_alloc_new _ _, hlc, by unfold maxLen; omega, by simp [zrow], ?_⟩⟩
  simp [zrow, List.take_replicate]
  omega

theorem conv_back (w : World) (g l c : Nat) (bs : List UInt8) (hl : bs.length = l) (hA : At w g 0 bs) : (convert 72 9 (.slice (some ⟨g, 0, none⟩) l c)).run Tryd.prog w = .ok (.string ⟨bs.toArray⟩) w := by
  have := run_convert_bytes_arg (P := Tryd.prog) w 72 5 Tryd.underlying72 Tryd.underlying5 g 0 l c (bs.map fun x => (x.toNat : Int)) (by simpa using hl) (fun i hi => by
    have hlt : i < bs.length := by omega
    rw [hA i bs[i] (List.getElem?_eq_getElem hlt)]
    simp [List.getD_eq_getElem?_getD, List.getElem?_eq_getElem hlt, bval]) 9 Tryd.underlying9
  rw [this]
  refine congrArg (fun s => Result.ok (Value.string s) w) ?_
  apply ByteArray.ext
  apply Array.toList_inj.1
  rw [strOfNums_data, List.map_map]
  refine (List.map_congr_left fun x _ => ?_).trans (List.map_id _)
  simp

/-- The table of internal/strconv, as the program's text lays it. -/
def Tab (w : World) : Prop := Lib.TabIs Tryd.prog w "internal/strconv.uint64pow10" .u64 Lib.pow10Tab
theorem Tab.below {w w' : World} (h : Tab w) (hb : Below w.heap.size w w') : Tab w' := Go.Joins.tab_stays (g := 2) (by kernel_rfl) h hb (Nat.le_refl _)
theorem byteCells_eq (l : List UInt8) : Lib.byteCells l = l.map bval := by
  unfold Lib.byteCells
  rfl
set_option maxHeartbeats 1600000 in
theorem appendUint_any (u B : Nat) (hu : u < 18446744073709551616) (v : Value) (xs : List UInt8) (w : World) (ho : OwnB w B v xs) (hB : B ≤ w.heap.size) (hl : xs.length < 1073741824) (hT : Tab w) :
    Calls Tryd.prog 42 #[v, .int .u64 (u : Int), .int .i64 10] w fun e w' => ∃ v', e = .returned v' ∧ OwnB w' B v' (xs ++ Lib.decDigits u) ∧ Below B w w' ∧ Lib.OthersKept 5 none w w' := by
  have hc : Calls Tryd.prog 59 #[v, .int .u64 (u : Int), .int .i64 10] w fun e w' => ∃ v', e = .returned v' ∧ OwnB w' B v' (xs ++ Lib.decDigits u) ∧ Below B w w' ∧ Lib.OthersKept 5 none w w' := by
    have fin : ∀ v' w', w'.ownsRow B 5 1 v' (xs.length + (Lib.decDigits u).length) (xs.map bval ++ Lib.byteCells (Lib.decDigits u)) → OwnB w' B v' (xs ++ Lib.decDigits u) := fun v' w' h => by
      unfold OwnB
      rw [List.length_append, List.map_append, ← byteCells_eq (Lib.decDigits u)]
      exact h
    by_cases h100 : u < 100
    · refine (Tryd.internal_strconv_AppendUint_10_small B xs.length u h100 v (xs.map bval) w ho hB (by omega)).mono ?_
      rintro e w' ⟨v', rfl, h1, h2, h3⟩
      exact ⟨v', rfl, fin v' w' h1, h2, h3⟩
    · refine (Tryd.internal_strconv_AppendUint_10_big B xs.length u (by omega) hu v (xs.map bval) w ho hB (by omega) hT).mono ?_
      rintro e w' ⟨v', rfl, h1, h2, h3⟩
      exact ⟨v', rfl, fin v' w' h1, h2, h3⟩
  have HC := hidden hc
  clear hc ho hT
  go_enter Tryd.func42, Tryd.ntmps42
  go_wp2_with fail
  refine HC.out.mono ?_
  rintro e w' ⟨v', rfl, h1, h2, h3⟩
  go_wp2
  go_ret
  exact ⟨v', rfl, h1, h2, h3⟩

/-- The unit of the digit behind m digits of a part. -/
def ud (m : Nat) : Nat := if m < 9 then 10 ^ (8 - m) else 0
theorem ud_step (m : Nat) (h : m < 9) : 0 < ud m ∧ ud m ≤ 100000000 ∧ ud m / 10 = ud (m + 1) := by
  have h1 : 0 < 10 ^ (8 - m) := Nat.pow_pos (by decide)
  have h2 : 10 ^ (8 - m) ≤ 10 ^ 8 := Nat.pow_le_pow_right (by decide) (by omega)
  unfold ud
  rw [if_pos h]
  refine ⟨h1, by simpa using h2, ?_⟩
  by_cases h9 : m + 1 < 9
  · rw [if_pos h9, show 8 - m = (8 - (m + 1)) + 1 by omega, Nat.pow_succ, Nat.mul_div_cancel _ (by decide)]
  · rw [if_neg h9, show 8 - m = 0 by omega]
theorem dN_step (p m : Nat) (h : m < 9) : dN (m + 1) (p / 10 ^ (9 - (m + 1))) = dN m (p / 10 ^ (9 - m)) ++ [UInt8.ofNat (48 + p / ud m % 10)] := by
  unfold ud
  rw [if_pos h, dN, Nat.div_div_eq_div_mul, show 9 - (m + 1) = 8 - m by omega, ← Nat.pow_succ, show (8 - m).succ = 9 - m by omega]
theorem lit_byte (w : World) (c : UInt8) (x : Int) (hx : x = (c.toNat : Int)) : At (w.alloc (.cells #[.int .u8 x] 5)) w.heap.size 0 [c] := fun j y hy => by
  rw [cell_of_row _ w.heap.size (0 + j) _ _ _ (heap_alloc_new _ _), Nat.zero_add]
  match j, hy with
  | 0, hy =>
    obtain rfl : c = y := by simpa using hy
    rw [hx]; rfl
  | j + 1, hy => simp at hy
set_option maxHeartbeats 1600000 in
theorem appendPart_any (p B : Nat) (hp : p < 1000000000) (v : Value) (xs : List UInt8) (w : World) (ho : OwnB w B v xs) (hB : B ≤ w.heap.size) (hl : xs.length < 1073741824) :
    Calls Tryd.prog 44 #[v, .int .u32 (p : Int)] w fun e w' => ∃ v', e = .returned v' ∧ OwnB w' B v' (xs ++ dN 9 p) ∧ Below B w w' ∧ Lib.OthersKept 5 none w w' := by
  have HO := hidden ho
  clear ho
  go_enter Tryd.func44, Tryd.ntmps44
  go_wp2
  go_loopw [0, 5] (fun v u wr => ∃ m : Nat, m ≤ 9 ∧ u = .int .u32 (ud m) ∧ Hid (OwnB wr B v (xs ++ dN m (p / 10 ^ (9 - m)))) ∧ Hid (Below B w wr) ∧ Hid (Lib.OthersKept 5 none w wr)) (fun _ u _ => (intOf u).toNat)
  case atStart => exact ⟨0, Nat.zero_le _, rfl, hidden (by rw [dN, List.append_nil]; exact HO.out), Below.refl _ _, Lib.OthersKept.refl _ _ _⟩
  case round =>
    clear HO
    obtain ⟨m, hm, rfl, hO, hbe, hke⟩ := hrel
    by_cases h9 : m < 9
    · obtain ⟨u1, u2, u3⟩ := ud_step m h9
      have hnx := dN_step p m h9
      obtain ⟨U, hU⟩ : ∃ U, ud m = U := ⟨_, rfl⟩
      rw [hU] at u1 u2 u3 hnx ⊢
      obtain ⟨q, hq⟩ : ∃ q, p / U = q := ⟨_, rfl⟩
      obtain ⟨r, hr⟩ : ∃ r, q % 10 = r := ⟨_, rfl⟩
      have hqi : (p : Int) / (U : Int) = (q : Int) := by rw [← hq]; simp
      have hri : (q : Int) % 10 = (r : Int) := by omega
      have hrl : r < 10 := by omega
      have hql : q ≤ p := by rw [← hq]; exact Nat.div_le_self _ _
      obtain ⟨U2, hU2⟩ : ∃ U, ud (m + 1) = U := ⟨_, rfl⟩
      rw [hU2] at u3
      have hui : (U : Int) / 10 = (U2 : Int) := by omega
      have hult : U2 < U := by omega
      have hune : ((U : Int) == 0) = false := by rw [beq_eq_false_iff_ne]; omega
      rw [hq, hr] at hnx
      have HNX := hidden hnx
      have HU2 := hidden hU2
      have HL := hidden (lit_byte wr (UInt8.ofNat (48 + r)) (48 + (r : Int)) (by rw [(isD_ofNat hrl).2]; omega))
      have HO1 := hidden (hO.out.of_eq (W' := wr.alloc (.cells #[.int .u8 (48 + (r : Int))] 5)) fun k _ hk => Below.heap_alloc wr _ k hk)
      have hsz := hbe.out.size
      have hlen : (xs ++ dN m (p / 10 ^ (9 - m))).length < 1073741834 := by rw [List.length_append, dN_len]; omega
      obtain ⟨ys, hys⟩ : ∃ ys, xs ++ dN m (p / 10 ^ (9 - m)) = ys := ⟨_, rfl⟩
      rw [hys] at HO1 hlen
      have HYS := hidden hys
      obtain ⟨ao, cap, rfl, _, _⟩ := HO1.out.at
      clear hU hq hr hnx u3 hU2 hys hO
      go_wp2_with (at_builtin; refine append_bytes (wr.alloc (.cells #[.int .u8 (48 + (r : Int))] 5)) rfl (.tmp 10) (.tmp 17) rfl B _ ys [UInt8.ofNat (48 + r)] rfl HO1.out wr.heap.size 0 1 1 rfl rfl HL.out (by simp; omega) (by simp; omega) ?_; intro v' w' h1 h2 h3)
      go_roundw
      case rel =>
        refine ⟨m + 1, by omega, by rw [HU2.out], hidden ?_, hidden ((hbe.out.alloc (by omega) _).trans h2), hidden ((hke.out.alloc _).trans h3)⟩
        rw [HNX.out, ← List.append_assoc, HYS.out]
        exact h1
      case measure => simp [intOf]; omega
    · obtain rfl : m = 9 := by omega
      rw [show ud 9 = 0 from rfl]
      have hfin := hO.out
      rw [show 9 - 9 = 0 from rfl, Nat.pow_zero, Nat.div_one] at hfin
      have HF := hidden hfin
      clear hfin hO
      go_wp2
      go_ret
      exact ⟨_, rfl, HF.out, hbe.out, hke.out⟩
end Nm
end Go.Proofs.YtapdkibiegeijaaDoor
