/- Bytes and texts in memory; a text that is made: made.add. Conditions: short texts; the two errors lie in their variables. -/
import Derived.Test.YtdiocmcfaneajaaGreatDoorProg
import Derived.Test.YtdiocmcfaneajaaGreatDoorStF
import Derived.WalkKit
import Derived.RowKitTokens
import Derived.Great.BuildSlice
import Derived.Laws.Rows
import Derived.Laws.CopyRow
import Derived.Laws.ResultCell
import Derived.Deep.WholeRow
import Derived.Deep.MidRow
import Derived.Below
import Derived.OwnWalk
import Derived.BigQuiet
import Derived.Handy
import Derived.LaidEql
import Derived.Lib.AppendStr
import Derived.Lib.OthersKept
import Derived.RangeFuncBox
import Derived.RangeFuncNested
namespace Go.Proofs.YtdiocmcfaneajaaGreatDoor
open Go.RowKit
namespace St

theorem hidden {p : Prop} (h : p) : Hid p := h
def txt (l : L) : ByteArray := ⟨l.toArray⟩
theorem txt_data (s : ByteArray) : txt s.data.toList = s := rfl
theorem data_txt (l : L) : (txt l).data.toList = l := rfl
theorem txt_size (l : L) : (txt l).size = l.length := rfl
theorem size_data (s : ByteArray) : s.data.toList.length = s.size := Array.length_toList
theorem ret_bool {a b : Bool} (h : a = b) : Ending.returned (.bool a) = .returned (.bool b) := by rw [h]
theorem ret_int {a b : Int} (h : a = b) : Ending.returned (.int .i64 a) = .returned (.int .i64 b) := by rw [h]
theorem ret_str {a b : ByteArray} (h : a = b) : Ending.returned (.string a) = .returned (.string b) := by rw [h]

/-- What the calls look at: ErrDynamic, ErrLimit, and what the library asks of a search. -/
structure Cx (D E : Value) (m : Int) (W : World) : Prop where
  dyn : W.cell? ⟨0, 0, none⟩ = some D
  lim : W.cell? ⟨1, 0, none⟩ = some E
  max : W.cell? ⟨2, 0, none⟩ = some (.int .i64 m)
theorem Cx.below {D E : Value} {m : Int} {W W' : World} (h : Cx D E m W) (hb : Below W.heap.size W W') : Cx D E m W' := by
  have hc : ∀ (p : Addr) v, W.cell? p = some v → W'.cell? p = some v := fun p v e => (hb.cell (World.block_lt_of_cell? W _ e)).trans e
  exact ⟨hc _ _ h.dyn, hc _ _ h.lim, hc _ _ h.max⟩

def bval (x : UInt8) : Value := .int .u8 (x.toNat : Int)
def At (w : World) (bk off : Nat) (bs : L) : Prop := ∀ (j : Nat) x, bs[j]? = some x → w.cell? ⟨bk, off + j, none⟩ = some (bval x)
theorem info_byte : (Tryz.prog.info? 5).map (fun i => (i.zero, i.size, i.bytes)) = some (some (.int .u8 0), 1, 1) := by kernel_rfl
theorem info_text : (Tryz.prog.info? 9).map (fun i => (i.zero, i.size, i.bytes)) = some (some (.string ⟨#[]⟩), 1, 16) := by kernel_rfl
theorem parts {t : TypeId} {z : Value} {a b : Nat} (h : (Tryz.prog.info? t).map (fun i => (i.zero, i.size, i.bytes)) = some (some z, a, b)) : ∃ i, Tryz.prog.info? t = some i ∧ i.zero = some z ∧ i.size = a ∧ i.bytes = b := by
  cases e : Tryz.prog.info? t with
  | none => rw [e] at h; cases h
  | some i =>
    rw [e] at h
    simp only [Option.map_some, Option.some.injEq, Prod.mk.injEq] at h
    exact ⟨i, rfl, h.1, h.2.1, h.2.2⟩
/-- A list of bytes of the call's own, from block B on. -/
def OwnB (W : World) (B : Nat) (v : Value) (bs : L) : Prop := W.ownsRow B 5 1 v bs.length (bs.map bval)
theorem OwnB.of_eq {W W' : World} {B : Nat} {v : Value} {bs : L} (h : OwnB W B v bs) (hb : ∀ k, B ≤ k → k < W.heap.size → W'.heap[k]? = W.heap[k]?) : OwnB W' B v bs := by
  refine ⟨h.1, ?_⟩
  rcases h.2 with h0 | ⟨g, cap, cur, e, hB, hg, h3⟩
  · exact .inl h0
  · exact .inr ⟨g, cap, cur, e, hB, (hb g hB (Array.getElem?_eq_some_iff.1 hg).1).trans hg, h3⟩
theorem OwnB.below {W W' : World} {B : Nat} {v : Value} {bs : L} (h : OwnB W B v bs) (hb : Below W.heap.size W W') : OwnB W' B v bs := h.of_eq fun k _ hk => hb.block k hk
theorem ownB_nil (W : World) (B : Nat) : OwnB W B (.slice none 0 0) [] := ⟨rfl, .inl ⟨rfl, rfl⟩⟩
theorem OwnB.at {W : World} {B : Nat} {v : Value} {bs : L} (h : OwnB W B v bs) : ∃ ao cap, v = .slice ao bs.length cap ∧ bs.length ≤ cap ∧ (0 < bs.length → ∃ g, ao = some ⟨g, 0, none⟩ ∧ B ≤ g ∧ g < W.heap.size ∧ At W g 0 bs) := by
  rcases h.2 with ⟨rfl, h0⟩ | ⟨g, cap, cur, rfl, hB, hg, hc, _, hs, ht⟩
  · exact ⟨none, 0, by rw [h0], by omega, fun hp => by omega⟩
  · refine ⟨_, cap, rfl, hc, fun _ => ⟨g, rfl, hB, (Array.getElem?_eq_some_iff.1 hg).1, fun j x hx => ?_⟩⟩
    rw [cell_of_row W g (0 + j) _ _ _ hg, Nat.zero_add]
    have h1 : (bs.map bval)[j]? = some (bval x) := by rw [List.getElem?_map, hx]; rfl
    rw [← ht, List.getElem?_take] at h1
    split at h1
    · simpa using h1
    · cases h1
theorem OwnB.setBox {W : World} {B X : Nat} {t : TypeId} {v u : Value} {bs : L} {y : Value} (h : OwnB W B v bs) (hX : Boxed W X t y) (ht : t ≠ 5) : OwnB (W.setCell ⟨X, 0, none⟩ u) B v bs := by
  refine ⟨h.1, ?_⟩
  rcases h.2 with h0 | ⟨g, cap, cur, e, hB, hg, h3⟩
  · exact .inl h0
  · refine .inr ⟨g, cap, cur, e, hB, (heap_setCell_other _ _ _ _ (fun e2 => ?_)).trans hg, h3⟩
    have e3 : g = X := e2
    subst e3
    rw [show W.heap[g]? = _ from hX] at hg
    cases hg
    exact ht rfl
set_option maxRecDepth 10000 in
theorem OwnB.conv {W : World} {B : Nat} {v : Value} {bs : L} (h : OwnB W B v bs) : (convert 63 9 v).run Tryz.prog W = .ok (.string (txt bs)) W := by
  rcases h.2 with ⟨rfl, h0⟩ | ⟨g, cap, cur, rfl, hB, hg, hc, _, hs, ht⟩
  · obtain rfl : bs = [] := List.eq_nil_of_length_eq_zero h0
    exact run_convert_bytes_nil W 63 5 Tryz.underlying63 Tryz.underlying5 0 0 9 Tryz.underlying9
  · have hat : At W g 0 bs := fun j x hx => by
      rw [cell_of_row W g (0 + j) _ _ _ hg, Nat.zero_add]
      have h1 : (bs.map bval)[j]? = some (bval x) := by rw [List.getElem?_map, hx]; rfl
      rw [← ht, List.getElem?_take] at h1
      split at h1
      · simpa using h1
      · cases h1
    have := run_convert_bytes_arg (P := Tryz.prog) W 63 5 Tryz.underlying63 Tryz.underlying5 g 0 bs.length cap (bs.map fun x => (x.toNat : Int)) (by simp) (fun i hi => by
      have hlt : i < bs.length := by omega
      rw [hat i bs[i] (List.getElem?_eq_getElem hlt)]
      simp [List.getD_eq_getElem?_getD, List.getElem?_eq_getElem hlt, bval]) 9 Tryz.underlying9
    rw [this]
    congr 2
    apply ByteArray.ext
    apply Array.toList_inj.1
    rw [strOfNums_data, List.map_map]
    show bs.map _ = bs
    conv => rhs; rw [← List.map_id bs]
    exact List.map_congr_left fun x _ => by simp

theorem app_text_run (w : World) (base : Nat) (ty : TypeId) (v : Value) (xs : L) (s : ByteArray) (hown : OwnB w base v xs) (hlen : xs.length + s.size < 2147483648) (hbase : base ≤ w.heap.size) :
    ∃ v' w', (Builtin.append_ #[63, 9] ty #[v, .string s]).run Tryz.prog w = .ok v' w' ∧ OwnB w' base v' (xs ++ s.data.toList) ∧ Below base w w' ∧ Lib.OthersKept 5 none w w' := by
  obtain ⟨i, hi, hz, hz1, hz2⟩ := parts info_byte
  obtain ⟨v', w', hr, h1, h2, _⟩ := Lib.run_append_own_string (P := Tryz.prog) w base 63 9 ty 5 i Tryz.underlying63 Tryz.underlying9 hi hz hz1 hz2 v xs.length (xs.map bval) hown s (by unfold maxLen; omega) (by omega) hbase
  refine ⟨v', w', hr, ?_, ⟨h2.os, h2.tape, h2.output, h2.size, fun k hk => h2.block k (by omega) (fun e => ?_)⟩, fun k o hk _ ho => (h2.block k (Array.getElem?_eq_some_iff.1 hk).1 (fun e => ?_)).trans hk⟩
  · unfold OwnB
    rw [List.length_append, List.map_append, Array.length_toList]
    exact h1
  · have := (hown.lt k e.symm).1
    omega
  · rcases hown.2 with ⟨rfl, _⟩ | ⟨g, cap, cur, rfl, _, hg, _⟩
    · cases e
    · cases e
      rw [hg] at hk
      cases hk
      exact ho _ _ rfl
theorem append_text {ops : Array Oper} {rest : List Oper} {o : Oper} {a : Act} {Q : Exit → Act → World → Prop} (w : World) (hgd : o.guard = none) (s x : Operand)
    (ho : o.op = .call { callee := .builtin .append, args := #[s, x], argTypes := #[63, 9] }) (base : Nat) (v : Value) (xs : L) (str : ByteArray) (hs : a.eval s = v) (hown : OwnB w base v xs) (hx : a.eval x = .string str)
    (hlen : xs.length + str.size < 2147483648) (hbase : base ≤ w.heap.size)
    (h : ∀ v' w', OwnB w' base v' (xs ++ str.data.toList) → Below base w w' → Lib.OthersKept 5 none w w' → wpList Tryz.prog ops Q rest (a.put o.dst v') w') : wpList Tryz.prog ops Q (o :: rest) a w := by
  refine wpList_plain hgd fun K hK => ?_
  obtain ⟨v', w', hr, h1, h2, h3⟩ := app_text_run w base o.type v xs str hown hlen hbase
  unfold Oper.wp execOp
  simp only [ho, resolve, invoke, builtin, Sem.run_bind, Sem.run_pure, Result.andThen_ok, List.map_toArray, List.map_cons, List.map_nil, hs, hx, hr]
  exact hK _ _ (h v' w' h1 h2 h3)

/-- A block of texts. -/
def RowS (W : World) (r : Nat) (ts : List ByteArray) : Prop := W.heap[r]? = some (.cells (ts.map Value.string).toArray 9 (0, 0))
theorem RowS.cell {W : World} {r : Nat} {ts : List ByteArray} (h : RowS W r ts) (k : Nat) (hk : k < ts.length) : W.cell? ⟨r, k, none⟩ = some (.string ts[k]) := by
  rw [cell_of_row W r k _ _ _ h]
  simp [hk]
/-- What is all those texts, one behind the other. -/
def cat (ts : List ByteArray) : L := ts.flatMap fun x => x.data.toList
theorem cat_take (ts : List ByteArray) (k : Nat) (hk : k < ts.length) : cat (ts.take (k + 1)) = cat (ts.take k) ++ ts[k].data.toList := by
  unfold cat
  rw [List.take_succ_eq_append_getElem hk, List.flatMap_append]
  simp
theorem cat_le (ts : List ByteArray) (k : Nat) : (cat (ts.take k)).length ≤ (cat ts).length := by
  have h : cat ts = cat (ts.take k) ++ cat (ts.drop k) := by unfold cat; rw [← List.flatMap_append, List.take_append_drop]
  rw [h, List.length_append]
  omega
/-- A text that is made, in its own block. -/
def MadeAt (W : World) (b : Nat) (bs : L) : Prop := ∃ v, Boxed W b 65 v ∧ OwnB W (b + 1) v bs
theorem kept_box {W W' : World} {b : Nat} {t : TypeId} {v : Value} (h : Boxed W b t v) (hk : Lib.OthersKept 5 none W W') (ht : t ≠ 5) : Boxed W' b t v :=
  hk b _ h (by simp) (fun c fz e => by cases e; exact ht rfl)
theorem kept_row {W W' : World} {r b : Nat} {ts : List ByteArray} (h : RowS W r ts) (hk : Lib.OthersKept 5 (some b) W W') (hr : r ≠ b) : RowS W' r ts :=
  hk r _ h (by simpa using hr) (fun c fz e => by cases e)
theorem kept_set {W W' W2 : World} {b : Nat} {u : Value} (h1 : Lib.OthersKept 5 (some b) W W') (h2 : Lib.OthersKept 5 none W' W2) : Lib.OthersKept 5 (some b) W (W2.setCell ⟨b, 0, none⟩ u) := fun k o hk hn ho =>
  (heap_setCell_other _ _ _ _ (fun e => hn (by rw [show k = b from e]))).trans (h2 k o (h1 k o hk hn ho) (by simp) ho)
def addV (E : Value) (bs : L) : Value := if bs.length ≤ 1024 then .nilIface else E

set_option maxRecDepth 100000 in
set_option maxHeartbeats 1600000 in
theorem add_any (D E : Value) (m : Int) (b r : Nat) (bs : L) (ts : List ByteArray) (n : Nat) (w : World) (hn : ts.length = n) (hn2 : n ≤ 2) (hC : Cx D E m w) (hM : MadeAt w b bs) (hR : RowS w r ts) (hl : bs.length ≤ 1024) (hs : ∀ x ∈ ts, x.size < 1000000) (hbr : r ≠ b) (hgb : 1 < b) :
    Calls Tryz.prog 39 #[.pointer (some ⟨b, 0, none⟩), .slice (some ⟨r, 0, none⟩) n n] w fun e w' => e = .returned (addV E (bs ++ cat ts)) ∧ ((bs ++ cat ts).length ≤ 1024 → MadeAt w' b (bs ++ cat ts)) ∧ Below b w w' ∧ Lib.OthersKept 5 (some b) w w' := by
  obtain ⟨v0, hX, hO⟩ := hM
  have hbl := hX.lt
  have HC := hidden hC
  have HR := hidden hR
  have HS := hidden hs
  have HN := hidden hn
  have HX := hidden hX
  have HO := hidden hO
  clear hC hR hs hn hX hO
  go_enter Tryz.func39, Tryz.ntmps39
  go_wp2
  go_loopw [9] (fun i wr => ∃ k : Nat, ∃ v, k ≤ n ∧ i = .int .i64 k ∧ Hid (Boxed wr b 65 v) ∧ Hid (OwnB wr (b + 1) v (bs ++ cat (ts.take k))) ∧ Hid ((bs ++ cat (ts.take k)).length ≤ 1024) ∧ Hid (Below b w wr) ∧ Hid (Lib.OthersKept 5 (some b) w wr)) (fun i _ => n - (intOf i).toNat)
  case atStart => exact ⟨0, v0, Nat.zero_le _, rfl, HX, hidden (by simpa [cat] using HO.out), hidden (by simpa [cat] using hl), hidden (Below.refl _ _), hidden (Lib.OthersKept.refl _ _ _)⟩
  case round =>
    obtain ⟨k, v, hk, rfl, hX, hO, hT, hb, hK⟩ := hrel
    by_cases hlt : k < n
    · have hlt' : k < ts.length := by have := HN.out; omega
      have hc := (kept_row HR.out hK.out hbr).cell k hlt'
      have hsz := HS.out _ (List.getElem_mem hlt')
      have hct := hidden (cat_take ts k hlt')
      obtain ⟨x, hx⟩ : ∃ x, ts[k] = x := ⟨_, rfl⟩
      rw [hx] at hc hsz hct
      have hlim := hidden ((hb.out.cell (p := ⟨1, 0, none⟩) hgb).trans HC.out.lim)
      obtain ⟨ao, cap, rfl, hcp, _⟩ := hO.out.at
      have hcell := hX.out.cell
      have hfz := hX.out.frozen
      obtain ⟨l, hl2⟩ : ∃ l, (bs ++ cat (ts.take k)).length = l := ⟨_, rfl⟩
      have HL := hidden hl2
      have hT' := hT.out
      rw [hl2] at hcell hT'
      clear hx hl2 hcp
      have hlen2 : (bs ++ cat (ts.take (k + 1))).length = l + x.size := by
        rw [hct.out, ← List.append_assoc, List.length_append, HL.out, size_data]
      have HL2 := hidden hlen2
      clear hlen2
      by_cases hf : x.size + l ≤ 1024
      · go_wp2_with (at_builtin; refine append_text wr rfl (.tmp 27) (.tmp 28) rfl (b + 1) _ (bs ++ cat (ts.take k)) x rfl (by rw [← HL.out]; exact hO.out) rfl (by rw [HL.out]; omega) (by have := hb.out.size; omega) ?_; intro v2 w2 h2 hb2 hk2; obtain ⟨ao2, cap2, hv2, _, _⟩ := h2.at; obtain ⟨l2, hl3⟩ : ∃ l2, (bs ++ cat (ts.take k) ++ x.data.toList).length = l2 := ⟨_, rfl⟩; rw [hl3] at hv2; clear hl3; subst hv2; have hX2 := kept_box hX.out hk2 (by decide); have hcell2 := hX2.cell; have hfz2 := hX2.frozen; have H2 := hidden h2; have HB2 := hidden hb2; have HK2 := hidden hk2; have HX2 := hidden hX2; clear h2 hb2 hk2 hX2)
        have e2 : bs ++ cat (ts.take (k + 1)) = bs ++ cat (ts.take k) ++ x.data.toList := by rw [hct.out, List.append_assoc]
        have R1 : Hid (Boxed (w2.setCell ⟨b, 0, none⟩ (.slice ao2 l2 cap2)) b 65 (.slice ao2 l2 cap2)) := hidden (HX2.out.set _)
        have R2 : Hid (OwnB (w2.setCell ⟨b, 0, none⟩ (.slice ao2 l2 cap2)) (b + 1) (.slice ao2 l2 cap2) (bs ++ cat (ts.take (k + 1)))) := hidden (by rw [e2]; exact H2.out.setBox HX2.out (by decide))
        have R3 : Hid ((bs ++ cat (ts.take (k + 1))).length ≤ 1024) := hidden (by rw [HL2.out]; omega)
        have R4 : Hid (Below b w (w2.setCell ⟨b, 0, none⟩ (.slice ao2 l2 cap2))) := hidden ((hb.out.trans (HB2.out.mono (by omega))).setCell (Nat.le_refl _) _)
        have R5 := hidden (kept_set (u := .slice ao2 l2 cap2) hK.out HK2.out)
        clear e2
        go_roundw
        case rel => exact ⟨k + 1, _, by omega, by go_num, R1, R2, R3, R4, R5⟩
        case measure => simp [intOf]; omega
      · have hbig : Hid (1024 < (bs ++ cat ts).length) := hidden (by
          have h1 := cat_le ts (k + 1)
          have h2 := HL2.out
          rw [List.length_append] at h2 ⊢
          omega)
        have hlm := hlim.out
        go_wp2
        go_ret
        exact ⟨by rw [addV, if_neg (by have := hbig.out; omega)]; rfl, fun h => absurd hbig.out (by omega), hb.out, hK.out⟩
    · have hall : Hid (ts.take k = ts) := hidden (List.take_of_length_le (by have := HN.out; omega))
      rw [hall.out] at hO hT
      go_wp2
      go_ret
      exact ⟨by rw [addV, if_pos hT.out]; rfl, fun _ => ⟨v, hX.out, hO.out⟩, hb.out, hK.out⟩
end St
end Go.Proofs.YtdiocmcfaneajaaGreatDoor
