/- Parts of the proof, together. What unquote answers. Conditions: short texts. What quoted makes of a scanner. Conditions: its blocks lie from block B on; short texts; the error of api lies in its variable. -/
import Derived.Deep.MidRow
import Derived.Lib.OwnBridge
import Derived.Test.YtpjjofdphlgeiaaGreatDoorVvai
namespace Go.Proofs.YtpjjofdphlgeiaaGreatDoor
open Go.RowKit
open Lx

/-- Bytes of the call's own, from block B on. -/
def OwnB (W : World) (B : Nat) (v : Value) (bs : List UInt8) : Prop := W.ownsRow B 5 1 v bs.length (bs.map bv)
theorem OwnB.below {W W' : World} {B : Nat} {v : Value} {bs : List UInt8} (h : OwnB W B v bs) (hb : Below W.heap.size W W') : OwnB W' B v bs := row_far h fun k _ hl => hb.block k hl
theorem byt_plain {ops : Array Oper} {rest : List Oper} {o : Oper} {a : Act} {Q : Exit → Act → World → Prop} {W : World} {B : Nat} {v : Value} {bs : List UInt8} (h : OwnB W B v bs) (b : UInt8) (hB : B ≤ W.heap.size) (hl : bs.length < 1000000) (hgd : o.guard = none) (x y : Operand)
    (ho : o.op = .call { callee := .builtin .append, args := #[x, y], argTypes := #[97, 97] }) (hx : a.eval x = v) (hy : a.eval y = .slice (some ⟨W.heap.size, 0, none⟩) 1 1)
    (hK : ∀ u w', OwnB w' B u (bs ++ [b]) → Below B W w' → wpList Tryz.prog ops Q rest (a.put o.dst u) w') : wpList Tryz.prog ops Q (o :: rest) a (W.alloc (.cells #[.int .u8 (b.toNat : Int)] 5)) := by
  refine wpList_plain hgd fun K hKK => ?_
  obtain ⟨i0, hi, hz, hz1, hz2⟩ := info_parts info_u8
  obtain ⟨u, w', hr, h1, h2, _, h4⟩ := run_append_own_at (P := Tryz.prog) (W.alloc (.cells #[.int .u8 (b.toNat : Int)] 5)) B 97 o.type 5 i0 _ 1 1 Tryz.underlying97 hi hz hz1 hz2 rfl (by decide) v bs.length (bs.map bv)
    (h.alloc _) ⟨W.heap.size, 0, none⟩ 1 1 [bv b] rfl (cell_one_new W _ _) (fun u hu => by simp at hu; subst hu; rfl) (by unfold maxLen; omega) (by omega) (by simp; omega)
  unfold Oper.wp execOp
  simp only [ho, resolve, invoke, builtin, Sem.run_bind, Sem.run_pure, Result.andThen_ok, List.map_toArray, List.map_cons, List.map_nil, hx, hy, hr]
  refine hKK _ _ (hK u w' (by unfold OwnB; rw [List.length_append, List.map_append]; exact h1) ?_)
  exact ((Below.refl B W).alloc hB _).grown h2 (by simp; omega) fun j hj => (h.lt j hj).1
def zrow (c : Nat) : Array Value := (List.replicate c (bv 0)).toArray
theorem make_bytes (c : Nat) (hc : c < 2147483648) (w : World) :
    (Instr.makeSlice 97 (.int .i64 0) (.int .i64 (c : Int))).run Tryz.prog w = .ok (.slice (some ⟨w.heap.size, 0, none⟩) 0 c) (w.alloc (.cells (zrow c) 5)) := by
  obtain ⟨i, hi, hz, hz1, hz2⟩ := info_parts info_u8
  have h := run_make (P := Tryz.prog) w 97 5 i (.int .u8 0) Tryz.underlying97 hi hz .i64 .i64 0 c (by omega) (by omega) (by rw [hz2]; omega) (by omega)
  rw [h]
  simp only [Int.toNat_natCast, hz1, Nat.mul_one, Int.toNat_zero]
  have e : madeCells (Value.int IntKind.u8 0).cells c = zrow c := by
    apply Array.ext
    · simp [madeCells, zrow]
    · intro i h1 h2
      simp [madeCells, zrow, Value.cells, bv, Nat.mod_one]
  rw [e]
theorem ownB_made (w : World) (B c : Nat) (hc : c < 2147483648) (hB : B ≤ w.heap.size) : OwnB (w.alloc (.cells (zrow c) 5)) B (.slice (some ⟨w.heap.size, 0, none⟩) 0 c) [] :=
  ⟨rfl, .inr ⟨w.heap.size, c, zrow c, rfl, hB, heap_alloc_new _ _, by simp, by unfold maxLen; omega, by simp [zrow], by simp⟩⟩
set_option maxRecDepth 10000 in
theorem conv_own {w : World} {B : Nat} {v : Value} {bs : List UInt8} (h : OwnB w B v bs) : (convert 97 9 v).run Tryz.prog w = .ok (.string (txt bs)) w := by
  by_cases h0 : bs.length = 0
  · obtain rfl : bs = [] := List.eq_nil_of_length_eq_zero h0
    obtain ⟨ao, cap, rfl, _⟩ := own_form h
    cases ao with
    | none => simp [convert, run_underlying Tryz.underlying97, run_underlying Tryz.underlying5, run_underlying Tryz.underlying9]; rfl
    | some a =>
      rcases h.2 with ⟨e, _⟩ | ⟨g, cap', cur, e, _⟩
      · cases e
      · cases e
        have := run_convert_bytes_arg (P := Tryz.prog) w 97 5 Tryz.underlying97 Tryz.underlying5 g 0 0 cap [] rfl (fun i hi => by omega) 9 Tryz.underlying9
        rw [show (List.length ([] : List UInt8)) = 0 from rfl, this]
        rfl
  · obtain ⟨g, cap, rfl, _, _, _, hx⟩ := own_some h (by omega)
    have := run_convert_bytes_arg (P := Tryz.prog) w 97 5 Tryz.underlying97 Tryz.underlying5 g 0 bs.length cap (bs.map fun x => (x.toNat : Int)) (by simp) (fun i hi => by
      have hlt : i < bs.length := by omega
      rw [Nat.zero_add, hx i (bv bs[i]) (by rw [List.getElem?_map, List.getElem?_eq_getElem hlt]; rfl)]
      simp [List.getD_eq_getElem?_getD, List.getElem?_eq_getElem hlt, bv]) 9 Tryz.underlying9
    rw [this]
    congr 2
    apply ByteArray.ext
    apply Array.toList_inj.1
    rw [strOfNums_data, List.map_map]
    refine (List.map_congr_left fun x _ => ?_).trans (List.map_id _)
    simp
theorem hexF_len {l : List UInt8} {c : UInt8} {k : Nat} (h : hexF l = some (c, k)) : k = 4 ∧ 2 ≤ l.length := by
  match l, h with
  | [], h => cases h
  | [_], h => cases h
  | x :: y :: r, h =>
    simp only [hexF] at h
    split at h
    · simp at h; exact ⟨h.2.symm, by simp⟩
    · cases h
theorem pieceF_len {l : List UInt8} {c : UInt8} {k : Nat} (h : pieceF l = some (c, k)) : 1 ≤ k ∧ k ≤ l.length := by
  match l, h with
  | [], h => cases h
  | b :: l, h =>
    by_cases e : b = 92
    · subst e
      match l, h with
      | [], h => cases h
      | c' :: r, h =>
        rw [pieceF_two] at h
        split at h
        · simp at h; obtain ⟨_, rfl⟩ := h; simp
        · split at h
          · simp at h; obtain ⟨_, rfl⟩ := h; simp
          · split at h
            · simp at h; obtain ⟨_, rfl⟩ := h; simp
            · split at h
              · obtain ⟨rfl, h2⟩ := hexF_len h; simp; omega
              · cases h
    · rw [pieceF_plain b l e] at h
      split at h
      · simp at h; obtain ⟨_, rfl⟩ := h; simp
      · cases h
/-- What has been read, put ahead of what is still to be read. -/
def comb (acc : List UInt8) (i : Nat) : List UInt8 × Option Nat → List UInt8 × Option Nat
  | (t, none) => (acc ++ t, none)
  | (_, some j) => ([], some (i + j))
theorem unqF_none (m : Nat) (l : List UInt8) (hl : l ≠ []) (h : pieceF l = none) : unqF (m + 1) l = ([], some 0) := by
  cases l with
  | nil => exact absurd rfl hl
  | cons b r => simp only [unqF, h]
theorem unqF_some (m : Nat) (l : List UInt8) (c : UInt8) (k : Nat) (h : pieceF l = some (c, k)) (acc : List UInt8) (i : Nat) : comb acc i (unqF (m + 1) l) = comb (acc ++ [c]) (i + k) (unqF m (l.drop k)) := by
  cases l with
  | nil => cases h
  | cons b r =>
    simp only [unqF, h]
    rcases unqF m ((b :: r).drop k) with ⟨t, o⟩
    cases o with
    | none => simp [comb]
    | some j => simp [comb, Nat.add_assoc]
theorem unqF_bad (m : Nat) : ∀ (l : List UInt8) (t : List UInt8) (j : Nat), unqF m l = (t, some j) → t = [] := by
  induction m with
  | zero => intro l t j h; simp [unqF] at h
  | succ m ih =>
    intro l t j h
    cases l with
    | nil => simp [unqF] at h
    | cons b r =>
      simp only [unqF] at h
      split at h
      · simp at h; exact h.1
      · split at h
        · simp at h
        · simp at h; exact h.1
theorem comb_start (m : Nat) (l : List UInt8) : comb [] 0 (unqF m l) = unqF m l := by
  rcases e : unqF m l with ⟨t, o⟩
  cases o with
  | none => simp [comb]
  | some j => rw [unqF_bad m l t j e]; simp [comb]
def unqV (len : Nat) : List UInt8 × Option Nat → Value
  | (t, none) => .tuple #[.string (txt t), .int .i64 (len : Int)]
  | (_, some j) => .tuple #[.string ⟨#[]⟩, .int .i64 (j : Int)]
set_option maxRecDepth 10000 in
set_option maxHeartbeats 3200000 in
theorem unquote_any (s : ByteArray) (hs : s.size ≤ 900000) (w : World) : Calls Tryz.prog 142 #[.string s] w fun e w' => e = .returned (unqV s.size (unqF s.size s.data.toList)) ∧ Below w.heap.size w w' := by
  obtain ⟨r, hr⟩ : ∃ r, unqF s.size s.data.toList = r := ⟨_, rfl⟩
  rw [hr]
  have HR := hid' hr
  have hmk := make_bytes s.size (by omega)
  have HO := hid' (ownB_made w w.heap.size s.size (by omega) (Nat.le_refl _))
  have HB := hid' ((Below.refl w.heap.size w).alloc (Nat.le_refl _) (.cells (zrow s.size) 5))
  clear hr
  go_enter Tryz.func142, Tryz.ntmps142
  go_wp2
  generalize (w.alloc (.cells (zrow s.size) 5)) = w1 at HO HB ⊢
  clear hmk
  go_loopw [4, 5] (fun v i wr => ∃ (k m : Nat) (acc : List UInt8), k ≤ s.size ∧ s.size - k ≤ m ∧ i = .int .i64 k ∧ acc.length ≤ k ∧ Hid (r = comb acc k (unqF m (s.data.toList.drop k))) ∧ Hid (OwnB wr w.heap.size v acc) ∧ Hid (Below w.heap.size w wr)) (fun _ i _ => s.size - (intOf i).toNat)
  case atStart => exact ⟨0, s.size, [], Nat.zero_le _, by omega, rfl, by simp, hid' (by rw [List.drop_zero, comb_start, HR.out]), HO, HB⟩
  case round =>
    clear HO HB
    obtain ⟨k, m, acc, hk, hm, rfl, hacc, hrest, ho, hb⟩ := hrel
    have hwz := hb.out.size
    by_cases hlt : k < s.size
    · have hP := ext_drop s k
      have hPs : (s.extract k s.size).size = s.size - k := by rw [ByteArray.size_extract]; omega
      have HP := hid' (pieceOf_any (s.extract k s.size) (by omega) (by omega))
      have hsl := slice_suf s k (by omega)
      rw [hP] at HP
      generalize s.extract k s.size = P at HP hsl
      obtain ⟨m', rfl⟩ : ∃ m', m = m' + 1 := ⟨m - 1, by omega⟩
      have hlt' : (k : Int) < (s.size : Int) := by omega
      have hne : s.data.toList.drop k ≠ [] := by rw [drop_at s k hlt]; simp
      cases e : pieceF (s.data.toList.drop k) with
      | none =>
        rw [e] at HP
        have hend : Hid (r = ([], some k)) := hid' (by rw [hrest.out, unqF_none m' _ hne e]; simp [comb])
        unfold pieceV at HP
        clear hP hPs hrest hne e
        go_wp2_with fail
        refine (HP.out _).mono ?_
        rintro e w2 ⟨rfl, rfl⟩
        go_wp2
        go_ret2
        exact ⟨ret_v (by rw [hend.out]; rfl), hb.out⟩
      | some cn =>
        obtain ⟨c, n⟩ := cn
        rw [e] at HP
        obtain ⟨hn1, hn2⟩ := pieceF_len e
        rw [List.length_drop, Array.length_toList] at hn2
        have hn2' : n ≤ s.size - k := hn2
        have hrest' : Hid (r = comb (acc ++ [c]) (k + n) (unqF m' (s.data.toList.drop (k + n)))) := hid' (by rw [hrest.out, unqF_some m' _ c n e, List.drop_drop])
        have hn0 : ((n : Int) == 0) = false := by rw [beq_eq_false_iff_ne]; omega
        have hn00 : (n == 0) = false := by rw [beq_eq_false_iff_ne]; omega
        unfold pieceV at HP
        clear hP hPs hrest hne e hn2
        go_wp2_with fail
        refine (HP.out _).mono ?_
        rintro e w2 ⟨rfl, rfl⟩
        go_wp2_with (at_builtin; refine byt_plain ho.out c hwz (by omega) rfl (.tmp 25) (.tmp 27) (by rfl) (by rfl) (by rfl) ?_; intro u w' h1 h2; have HO' := hid' h1; have HB' := hid' (hb.out.trans h2); clear h1 h2)
        go_roundw
        case rel => exact ⟨k + n, m', acc ++ [c], by omega, by omega, by go_num, by rw [List.length_append, List.length_singleton]; omega, hrest', HO', HB'⟩
        case measure => simp [intOf]; omega
    · obtain rfl : k = s.size := by omega
      have hend : Hid (r = (acc, none)) := hid' (by
        rw [hrest.out, List.drop_eq_nil_of_le (by simp)]
        cases m <;> simp [unqF, comb])
      have hcv := conv_own ho.out
      obtain ⟨ao, cap, rfl, _⟩ := own_form ho.out
      clear hrest
      go_wp2
      go_ret2
      exact ⟨ret_v (by rw [hend.out]; rfl), hb.out⟩
end Go.Proofs.YtpjjofdphlgeiaaGreatDoor

namespace Go.Proofs.YtpjjofdphlgeiaaGreatDoor
open Go.RowKit
open Lx

theorem unqF_lt (m : Nat) : ∀ (l : List UInt8) (t : List UInt8) (j : Nat), unqF m l = (t, some j) → j < l.length := by
  induction m with
  | zero => intro l t j h; simp [unqF] at h
  | succ m ih =>
    intro l t j h
    cases l with
    | nil => simp [unqF] at h
    | cons b r =>
      simp only [unqF] at h
      split at h
      · simp at h; simp; omega
      · next c k hp =>
        obtain ⟨h1, h2⟩ := pieceF_len hp
        split at h
        · simp at h
        · next t' j' hu =>
          have := ih _ _ _ hu
          rw [List.length_drop] at this
          simp at h
          omega
theorem closedF_lt (q : UInt8) : ∀ (l : List UInt8) (held : Bool) (n : Nat), closedF q held l = some n → n < l.length
  | [], _, _, h => by simp [closedF] at h
  | b :: l, held, n, h => by
    simp only [closedF] at h
    split at h
    · cases h
    · split at h
      · obtain ⟨m, hm, rfl⟩ := Option.map_eq_some_iff.1 h
        have := closedF_lt q l _ m hm
        simp; omega
      · split at h
        · obtain ⟨m, hm, rfl⟩ := Option.map_eq_some_iff.1 h
          have := closedF_lt q l _ m hm
          simp; omega
        · split at h
          · simp at h; simp; omega
          · obtain ⟨m, hm, rfl⟩ := Option.map_eq_some_iff.1 h
            have := closedF_lt q l _ m hm
            simp; omega
/-- What quoted finds: where it fails; or what is said, and how many bytes. -/
def quoF (q : UInt8) (l : List UInt8) : List UInt8 × Nat ⊕ Nat :=
  match closedF q false l with
  | none => .inr 0
  | some n => match unqF n (l.take n) with
    | (said, none) => .inl (said, n + 2)
    | (_, some j) => .inr (j + 1)
theorem slice_mid (T : ByteArray) (a b : Nat) (h : a ≤ b) (hb : b ≤ T.size) (W : World) : (Instr.sliceAt 9 (.string T) (some (.int .i64 (a : Int))) (some (.int .i64 (b : Int))) none).run Tryz.prog W = .ok (.string (T.extract a b)) W := by
  have h1 : (a : Int) ≤ (b : Int) := by omega
  have h2 : (b : Int) ≤ (T.size : Int) := by omega
  go_simp
theorem ext_mid (T : ByteArray) (a n : Nat) : (T.extract a (a + n)).data.toList = (T.data.toList.drop a).take n := by
  rw [ByteArray.data_extract, Array.toList_extract]
  simp [List.extract]
section
variable {W : World} {B sb : Nat} {T : ByteArray} {p : Nat} {st : St}
set_option maxRecDepth 10000 in
set_option maxHeartbeats 3200000 in
theorem quoted_any (A : Nat → Addr) (h : ScanAt W B sb T p st) (hp : p < T.size) (hT : T.size ≤ 800000) (hl : st.toks.length < 1000000) (hE : W.cell? ⟨4, 0, none⟩ = some (E A 0)) (hEB : 4 < B) :
    Calls Tryz.prog 120 #[.pointer (some ⟨sb, 0, none⟩)] W fun e w' => (∀ j, quoF T[p] (T.data.toList.drop (p + 1)) = .inr j → ∃ v, e = .returned v ∧ FaultV A w' B v (p + j) ∧ Below B W w') ∧ (∀ said n, quoF T[p] (T.data.toList.drop (p + 1)) = .inl (said, n) → e = .returned .nilIface ∧
      ScanAt w' B sb T (p + n) { st with toks := st.toks ++ [⟨3, said, p⟩] } ∧ Below B W w') := by
  obtain ⟨vt, vb, vo, D⟩ := h
  obtain ⟨c0, c1, c2, c3, c4⟩ := D.cells
  have hR := ext_drop T (p + 1)
  have hRs : (T.extract (p + 1) T.size).size = T.size - (p + 1) := by rw [ByteArray.size_extract]; omega
  have hsl := slice_suf T (p + 1) (by omega)
  have HC := hid' (fun W => closed_any (T.extract (p + 1) T.size) (by omega) T[p] W)
  rw [hR] at HC
  obtain ⟨q, hq⟩ : ∃ q, T[p] = q := ⟨_, rfl⟩
  have hlt' : (p : Int) < (T.size : Int) := by omega
  have hidx : ∀ W, (Instr.index 9 (.string T) (.int .i64 (p : Int))).run Tryz.prog W = .ok (.int .u8 (q.toNat : Int)) W := fun W => by
    rw [← hq]
    go_simp
  rw [hq] at HC ⊢
  have hp1 : (p : Int) + 1 = ((p + 1 : Nat) : Int) := by omega
  rw [← hp1] at hsl
  have HP1 := hid' hp1
  clear hp1
  have HS := hid' D
  have hB := D.lt
  have hBW : B ≤ W.heap.size := by have := D.high; omega
  have HF := hid' (fun q => fault_any (B := B) A p (W.drewN q) hE hBW)
  have HE := hid' hE
  generalize T.extract (p + 1) T.size = R at hsl HC
  clear D c2 c3 c4 hR hRs hE hq
  unfold quoF
  obtain ⟨cl, hcl⟩ : ∃ cl, closedF q false (T.data.toList.drop (p + 1)) = cl := ⟨_, rfl⟩
  rw [hcl] at HC ⊢
  cases cl with
  | none =>
    unfold closedV at HC
    clear hcl
    go_enter Tryz.func120, Tryz.ntmps120
    go_wp2_with fail
    go_quiet ((go_at_call 141; exact Calls.quiet_of_same (HC.out _)))
    go_wp2_with fail
    refine (HF.out _).mono ?_
    rintro e w4 ⟨v, rfl, h4, b4⟩
    have HF4 := hid' h4
    have HB4 : Hid (Below B W w4) := hid' ⟨b4.os, b4.tape, b4.output, b4.size, fun k hk => b4.block k (by show k < W.heap.size; omega)⟩
    clear h4 b4
    go_wp2
    go_ret
    exact ⟨fun j hj => ⟨v, rfl, by simp at hj; subst hj; exact HF4.out, HB4.out⟩, fun s n hj => by simp at hj⟩
  | some n =>
    unfold closedV at HC
    have hn := closedF_lt _ _ _ _ hcl
    rw [List.length_drop, Array.length_toList] at hn
    have hn' : n < T.size - (p + 1) := hn
    have hX := ext_mid T (p + 1) n
    have hXs : (T.extract (p + 1) (p + 1 + n)).size = n := by rw [ByteArray.size_extract]; omega
    have hsm := slice_mid T (p + 1) (p + 1 + n) (by omega) (by omega)
    rw [show ((p + 1 + n : Nat) : Int) = (p : Int) + 1 + (n : Int) by omega, ← HP1.out] at hsm
    have HU := hid' (unquote_any (T.extract (p + 1) (p + 1 + n)) (by omega))
    rw [hX, hXs] at HU
    simp only []
    obtain ⟨un, hun⟩ : ∃ un, unqF n ((T.data.toList.drop (p + 1)).take n) = un := ⟨_, rfl⟩
    rw [hun] at HU ⊢
    generalize T.extract (p + 1) (p + 1 + n) = X at HU hsm
    obtain ⟨said, o⟩ := un
    cases o with
    | none =>
      unfold unqV at HU
      clear hcl hn hX hXs hun
      go_enter Tryz.func120, Tryz.ntmps120
      go_wp2_with fail
      go_quiet ((go_at_call 141; exact Calls.quiet_of_same (HC.out _)))
      go_wp2_with fail
      refine (HU.out _).mono ?_
      rintro e w2 ⟨rfl, b2⟩
      have HB2 : Hid (Below B W w2) := hid' ⟨b2.os, b2.tape, b2.output, b2.size, fun k hk => b2.block k (by show k < W.heap.size; omega)⟩
      have S2 : ScanAt w2 B sb T p st := (ScanAt.drewN ⟨_, _, _, HS.out⟩ nq).below b2
      have HA := hid' (add_any S2 3 (txt said) (n + 2) (by omega) (by omega) hl)
      rw [data_txt, show ((n + 2 : Nat) : Int) = (n : Int) + 2 by omega] at HA
      clear b2 S2
      go_wp2_with fail
      refine (HA.out).mono ?_
      rintro e w4 ⟨rfl, h4, b4⟩
      have HS4 := hid' h4
      have HB4 := hid' (HB2.out.trans b4)
      clear h4 b4
      go_wp2
      go_ret
      refine ⟨fun j hj => by simp at hj, fun s m hj => ?_⟩
      simp at hj
      obtain ⟨rfl, rfl⟩ := hj
      exact ⟨rfl, HS4.out, HB4.out⟩
    | some j =>
      have hj := unqF_lt _ _ _ _ hun
      rw [List.length_take] at hj
      have hjn : (j : Int) < (n : Int) := by omega
      unfold unqV at HU
      clear hcl hn hX hXs hun hj
      go_enter Tryz.func120, Tryz.ntmps120
      go_wp2_with fail
      go_quiet ((go_at_call 141; exact Calls.quiet_of_same (HC.out _)))
      go_wp2_with fail
      refine (HU.out _).mono ?_
      rintro e w2 ⟨rfl, b2⟩
      have B2 : Below B W w2 := ⟨b2.os, b2.tape, b2.output, b2.size, fun k hk => b2.block k (by show k < W.heap.size; omega)⟩
      have E2 := (B2.cell (p := ⟨4, 0, none⟩) hEB).trans HE.out
      have hb2 := B2.size
      have HG := hid' (fault_any (B := B) A (p + (j + 1)) w2 E2 (by omega))
      rw [show ((p + (j + 1) : Nat) : Int) = (p : Int) + 1 + (j : Int) by omega] at HG
      have HB2 := hid' B2
      clear b2 B2 E2
      go_wp2_with fail
      refine (HG.out).mono ?_
      rintro e w4 ⟨v, rfl, h4, b4⟩
      have HF4 := hid' h4
      have HB4 := hid' (HB2.out.trans (b4.mono (by omega)))
      clear h4 b4
      go_wp2
      go_ret
      refine ⟨fun i hi => ⟨v, rfl, ?_, HB4.out⟩, fun s m hi => by simp at hi⟩
      simp at hi
      subst hi
      exact HF4.out
end
end Go.Proofs.YtpjjofdphlgeiaaGreatDoor
