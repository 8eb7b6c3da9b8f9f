/- Parts of the proof, together. What unquote answers. Conditions: short texts. -/
import Derived.Deep.MidRow
import Derived.Lib.OwnBridge
import Derived.Test.YtaafhldcdkbnkaaGreatDoorQpau
namespace Go.Proofs.YtaafhldcdkbnkaaGreatDoor
open Go.RowKit
open Lx

/-- Bytes of the call's own, from block B on. -/
def OwnB (W : World) (B : Nat) (v : Value) (bs : List UInt8) : Prop := W.ownsRow B 5 1 v bs.length (bs.map bv)
theorem OwnB.below {W W' : World} {B : Nat} {v : Value} {bs : List UInt8} (h : OwnB W B v bs) (hb : Below W.heap.size W W') : OwnB W' B v bs := row_far h fun k _ hl => hb.block k hl
theorem byt_plain {ops : Array Oper} {rest : List Oper} {o : Oper} {a : Act} {Q : Exit → Act → World → Prop} {W : World} {B : Nat} {v : Value} {bs : List UInt8} (h : OwnB W B v bs) (b : UInt8) (hB : B ≤ W.heap.size) (hl : bs.length < 1000000) (hgd : o.guard = none) (x y : Operand)
    (ho : o.op = .call { callee := .builtin .append, args := #[x, y], argTypes := #[97, 97] }) (hx : a.eval x = v) (hy : a.eval y = .slice (some ⟨W.heap.size, 0, none⟩) 1 1)
    (hK : ∀ u w', OwnB w' B u (bs ++ [b]) → Below B W w' → wpList Tryz.prog ops Q rest (a.put o.dst u) w') : wpList Tryz.prog ops Q (o :: rest) a (W.alloc (.cells #[.int .u8 (b.toNat : Int)] 5)) := by
  refine wpList_plain hgd fun K hKK => ?_
  obtain ⟨i0, hi, hz, hz1, hz2⟩ := info_parts info_u8
  obtain ⟨u, w', hr, h1, h2, _, h4⟩ := run_append_own_at (P := Tryz.prog) (W.alloc (.cells #[.int .u8 (b.toNat : Int)] 5)) B 97 o.type 5 i0 _ 1 1 Tryz.underlying97 hi hz hz1 hz2 rfl (by decide) v bs.length (bs.map bv)
    (h.alloc _) ⟨W.heap.size, 0, none⟩ 1 1 [bv b] rfl (cell_one_new W _ _) (fun u hu => by simp at hu; subst hu; rfl) (by unfold maxLen; omega) (by omega) (by simp; omega)
  unfold Oper.wp execOp
  simp only [ho, resolve, invoke, builtin, Sem.run_bind, Sem.run_pure, Result.andThen_ok, List.map_toArray, List.map_cons, List.map_nil, hx, hy, hr]
  refine hKK _ _ (hK u w' (by unfold OwnB; rw [List.length_append, List.map_append]; exact h1) ?_)
  exact ((Below.refl B W).alloc hB _).grown h2 (by simp; omega) fun j hj => (h.lt j hj).1
def zrow (c : Nat) : Array Value := (List.replicate c (bv 0)).toArray
theorem make_bytes (c : Nat) (hc : c < 2147483648) (w : World) :
    (Instr.makeSlice 97 (.int .i64 0) (.int .i64 (c : Int))).run Tryz.prog w = .ok (.slice (some ⟨w.heap.size, 0, none⟩) 0 c) (w.alloc (.cells (zrow c) 5)) := by
  obtain ⟨i, hi, hz, hz1, hz2⟩ := info_parts info_u8
  have h := run_make (P := Tryz.prog) w 97 5 i (.int .u8 0) Tryz.underlying97 hi hz .i64 .i64 0 c (by omega) (by omega) (by rw [hz2]; omega) (by omega)
  rw [h]
  simp only [Int.toNat_natCast, hz1, Nat.mul_one, Int.toNat_zero]
  have e : madeCells (Value.int IntKind.u8 0).cells c = zrow c := by
    apply Array.ext
    · simp [madeCells, zrow]
    · intro i h1 h2
      simp [madeCells, zrow, Value.cells, bv, Nat.mod_one]
  rw [e]
theorem ownB_made (w : World) (B c : Nat) (hc : c < 2147483648) (hB : B ≤ w.heap.size) : OwnB (w.alloc (.cells (zrow c) 5)) B (.slice (some ⟨w.heap.size, 0, none⟩) 0 c) [] :=
  ⟨rfl, .inr ⟨w.heap.size, c, zrow c, rfl, hB, heap_alloc_new _ _, by simp, by unfold maxLen; omega, by simp [zrow], by simp⟩⟩
set_option maxRecDepth 10000 in
theorem conv_own {w : World} {B : Nat} {v : Value} {bs : List UInt8} (h : OwnB w B v bs) : (convert 97 9 v).run Tryz.prog w = .ok (.string (txt bs)) w := by
  by_cases h0 : bs.length = 0
  · obtain rfl : bs = [] := List.eq_nil_of_length_eq_zero h0
    obtain ⟨ao, cap, rfl, _⟩ := own_form h
    cases ao with
    | none => simp [convert, run_underlying Tryz.underlying97, run_underlying Tryz.underlying5, run_underlying Tryz.underlying9]; rfl
    | some a =>
      rcases h.2 with ⟨e, _⟩ | ⟨g, cap', cur, e, _⟩
      · cases e
      · cases e
        have := run_convert_bytes_arg (P := Tryz.prog) w 97 5 Tryz.underlying97 Tryz.underlying5 g 0 0 cap [] rfl (fun i hi => by omega) 9 Tryz.underlying9
        rw [show (List.length ([] : List UInt8)) = 0 from rfl, this]
        rfl
  · obtain ⟨g, cap, rfl, _, _, _, hx⟩ := own_some h (by omega)
    have := run_convert_bytes_arg (P := Tryz.prog) w 97 5 Tryz.underlying97 Tryz.underlying5 g 0 bs.length cap (bs.map fun x => (x.toNat : Int)) (by simp) (fun i hi => by
      have hlt : i < bs.length := by omega
      rw [Nat.zero_add, hx i (bv bs[i]) (by rw [List.getElem?_map, List.getElem?_eq_getElem hlt]; rfl)]
      simp [List.getD_eq_getElem?_getD, List.getElem?_eq_getElem hlt, bv]) 9 Tryz.underlying9
    rw [this]
    congr 2
    apply ByteArray.ext
    apply Array.toList_inj.1
    rw [strOfNums_data, List.map_map]
    refine (List.map_congr_left fun x _ => ?_).trans (List.map_id _)
    simp
theorem hexF_len {l : List UInt8} {c : UInt8} {k : Nat} (h : hexF l = some (c, k)) : k = 4 ∧ 2 ≤ l.length := by
  match l, h with
  | [], h => cases h
  | [_], h => cases h
  | x :: y :: r, h =>
    simp only [hexF] at h
    split at h
    · simp at h; exact ⟨h.2.symm, by simp⟩
    · cases h
theorem pieceF_len {l : List UInt8} {c : UInt8} {k : Nat} (h : pieceF l = some (c, k)) : 1 ≤ k ∧ k ≤ l.length := by
  match l, h with
  | [], h => cases h
  | b :: l, h =>
    by_cases e : b = 92
    · subst e
      match l, h with
      | [], h => cases h
      | c' :: r, h =>
        rw [pieceF_two] at h
        split at h
        · simp at h; obtain ⟨_, rfl⟩ := h; simp
        · split at h
          · simp at h; obtain ⟨_, rfl⟩ := h; simp
          · split at h
            · simp at h; obtain ⟨_, rfl⟩ := h; simp
            · split at h
              · obtain ⟨rfl, h2⟩ := hexF_len h; simp; omega
              · cases h
    · rw [pieceF_plain b l e] at h
      split at h
      · simp at h; obtain ⟨_, rfl⟩ := h; simp
      · cases h
/-- What has been read, put ahead of what is still to be read. -/
def comb (acc : List UInt8) (i : Nat) : List UInt8 × Option Nat → List UInt8 × Option Nat
  | (t, none) => (acc ++ t, none)
  | (_, some j) => ([], some (i + j))
theorem unqF_none (m : Nat) (l : List UInt8) (hl : l ≠ []) (h : pieceF l = none) : unqF (m + 1) l = ([], some 0) := by
  cases l with
  | nil => exact absurd rfl hl
  | cons b r => simp only [unqF, h]
theorem unqF_some (m : Nat) (l : List UInt8) (c : UInt8) (k : Nat) (h : pieceF l = some (c, k)) (acc : List UInt8) (i : Nat) : comb acc i (unqF (m + 1) l) = comb (acc ++ [c]) (i + k) (unqF m (l.drop k)) := by
  cases l with
  | nil => cases h
  | cons b r =>
    simp only [unqF, h]
    rcases unqF m ((b :: r).drop k) with ⟨t, o⟩
    cases o with
    | none => simp [comb]
    | some j => simp [comb, Nat.add_assoc]
theorem unqF_bad (m : Nat) : ∀ (l : List UInt8) (t : List UInt8) (j : Nat), unqF m l = (t, some j) → t = [] := by
  induction m with
  | zero => intro l t j h; simp [unqF] at h
  | succ m ih =>
    intro l t j h
    cases l with
    | nil => simp [unqF] at h
    | cons b r =>
      simp only [unqF] at h
      split at h
      · simp at h; exact h.1
      · split at h
        · simp at h
        · simp at h; exact h.1
theorem comb_start (m : Nat) (l : List UInt8) : comb [] 0 (unqF m l) = unqF m l := by
  rcases e : unqF m l with ⟨t, o⟩
  cases o with
  | none => simp [comb]
  | some j => rw [unqF_bad m l t j e]; simp [comb]
def unqV (len : Nat) : List UInt8 × Option Nat → Value
  | (t, none) => .tuple #[.string (txt t), .int .i64 (len : Int)]
  | (_, some j) => .tuple #[.string ⟨#[]⟩, .int .i64 (j : Int)]
set_option maxRecDepth 10000 in
set_option maxHeartbeats 3200000 in
theorem unquote_any (s : ByteArray) (hs : s.size ≤ 900000) (w : World) : Calls Tryz.prog 142 #[.string s] w fun e w' => e = .returned (unqV s.size (unqF s.size s.data.toList)) ∧ Below w.heap.size w w' := by
  obtain ⟨r, hr⟩ : ∃ r, unqF s.size s.data.toList = r := ⟨_, rfl⟩
  rw [hr]
  have HR := hid' hr
  have hmk := make_bytes s.size (by omega)
  have HO := hid' (ownB_made w w.heap.size s.size (by omega) (Nat.le_refl _))
  have HB := hid' ((Below.refl w.heap.size w).alloc (Nat.le_refl _) (.cells (zrow s.size) 5))
  clear hr
  go_enter Tryz.func142, Tryz.ntmps142
  go_wp2
  generalize (w.alloc (.cells (zrow s.size) 5)) = w1 at HO HB ⊢
  clear hmk
  go_loopw [4, 5] (fun v i wr => ∃ (k m : Nat) (acc : List UInt8), k ≤ s.size ∧ s.size - k ≤ m ∧ i = .int .i64 k ∧ acc.length ≤ k ∧ Hid (r = comb acc k (unqF m (s.data.toList.drop k))) ∧ Hid (OwnB wr w.heap.size v acc) ∧ Hid (Below w.heap.size w wr)) (fun _ i _ => s.size - (intOf i).toNat)
  case atStart => exact ⟨0, s.size, [], Nat.zero_le _, by omega, rfl, by simp, hid' (by rw [List.drop_zero, comb_start, HR.out]), HO, HB⟩
  case round =>
    clear HO HB
    obtain ⟨k, m, acc, hk, hm, rfl, hacc, hrest, ho, hb⟩ := hrel
    have hwz := hb.out.size
    by_cases hlt : k < s.size
    · have hP := ext_drop s k
      have hPs : (s.extract k s.size).size = s.size - k := by rw [ByteArray.size_extract]; omega
      have HP := hid' (pieceOf_any (s.extract k s.size) (by omega) (by omega))
      have hsl := slice_suf s k (by omega)
      rw [hP] at HP
      generalize s.extract k s.size = P at HP hsl
      obtain ⟨m', rfl⟩ : ∃ m', m = m' + 1 := ⟨m - 1, by omega⟩
      have hlt' : (k : Int) < (s.size : Int) := by omega
      have hne : s.data.toList.drop k ≠ [] := by rw [drop_at s k hlt]; simp
      cases e : pieceF (s.data.toList.drop k) with
      | none =>
        rw [e] at HP
        have hend : Hid (r = ([], some k)) := hid' (by rw [hrest.out, unqF_none m' _ hne e]; simp [comb])
        unfold pieceV at HP
        clear hP hPs hrest hne e
        go_wp2_with fail
        refine (HP.out _).mono ?_
        rintro e w2 ⟨rfl, rfl⟩
        go_wp2
        go_ret2
        exact ⟨ret_v (by rw [hend.out]; rfl), hb.out⟩
      | some cn =>
        obtain ⟨c, n⟩ := cn
        rw [e] at HP
        obtain ⟨hn1, hn2⟩ := pieceF_len e
        rw [List.length_drop, Array.length_toList] at hn2
        have hn2' : n ≤ s.size - k := hn2
        have hrest' : Hid (r = comb (acc ++ [c]) (k + n) (unqF m' (s.data.toList.drop (k + n)))) := hid' (by rw [hrest.out, unqF_some m' _ c n e, List.drop_drop])
        have hn0 : ((n : Int) == 0) = false := by rw [beq_eq_false_iff_ne]; omega
        have hn00 : (n == 0) = false := by rw [beq_eq_false_iff_ne]; omega
        unfold pieceV at HP
        clear hP hPs hrest hne e hn2
        go_wp2_with fail
        refine (HP.out _).mono ?_
        rintro e w2 ⟨rfl, rfl⟩
        go_wp2_with (at_builtin; refine byt_plain ho.out c hwz (by omega) rfl (.tmp 25) (.tmp 27) (by rfl) (by rfl) (by rfl) ?_; intro u w' h1 h2; have HO' := hid' h1; have HB' := hid' (hb.out.trans h2); clear h1 h2)
        go_roundw
        case rel => exact ⟨k + n, m', acc ++ [c], by omega, by omega, by go_num, by rw [List.length_append, List.length_singleton]; omega, hrest', HO', HB'⟩
        case measure => simp [intOf]; omega
    · obtain rfl : k = s.size := by omega
      have hend : Hid (r = (acc, none)) := hid' (by
        rw [hrest.out, List.drop_eq_nil_of_le (by simp)]
        cases m <;> simp [unqF, comb])
      have hcv := conv_own ho.out
      obtain ⟨ao, cap, rfl, _⟩ := own_form ho.out
      clear hrest
      go_wp2
      go_ret2
      exact ⟨ret_v (by rw [hend.out]; rfl), hb.out⟩
end Go.Proofs.YtaafhldcdkbnkaaGreatDoor
