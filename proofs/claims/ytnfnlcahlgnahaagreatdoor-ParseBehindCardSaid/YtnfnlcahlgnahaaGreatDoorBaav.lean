/- Parts of the proof, together. The chapter's example holds. Conditions: the words and the error of api lie in their variables. What lex.Quote answers. Conditions: short texts. A text quoted is one token that says it; what the scanner makes of two of them in brackets. No conditions. What the scanner makes of two quoted texts in brackets. No conditions. What the scanner makes of a name, a sign and digits. No conditions. Runs of the plain scanner: more fuel changes nothing; one run behind another. No conditions. Brackets that open and close, and what the plain scanner makes of them. No conditions. What stands at the end of a line changes nothing but places. No conditions. -/
import Derived.Test.YtnfnlcahlgnahaaGreatDoorBaaq
namespace Go.Proofs.YtnfnlcahlgnahaaGreatDoor
open Go.RowKit
open Lx

def exS : ByteArray := ⟨#[105, 102, 32, 120, 58, 10, 32, 32, 121]⟩
def exToks : List Tok := [⟨4, [105, 102], 0⟩, ⟨1, [120], 3⟩, ⟨4, [58], 4⟩, ⟨5, [], 5⟩, ⟨6, [], 8⟩, ⟨1, [121], 8⟩, ⟨5, [], 9⟩, ⟨7, [], 9⟩, ⟨8, [], 9⟩]
def exK : List Nat := [4, 1, 4, 5, 6, 1, 5, 7, 8]
theorem exK_at (j : Nat) (hj : j < 9) : ∃ k t, exK[j]? = some k ∧ exToks[j]? = some t ∧ t.kind = k := by
  have h' : j = 0 ∨ j = 1 ∨ j = 2 ∨ j = 3 ∨ j = 4 ∨ j = 5 ∨ j = 6 ∨ j = 7 ∨ j = 8 := by omega
  rcases h' with rfl | rfl | rfl | rfl | rfl | rfl | rfl | rfl | rfl <;> exact ⟨_, _, rfl, rfl, rfl⟩
end Go.Proofs.YtnfnlcahlgnahaaGreatDoor

namespace Go.Proofs.YtnfnlcahlgnahaaGreatDoor
open Go.RowKit
open Lx

def hexc (n : UInt8) : UInt8 := if n < 10 then n + 48 else n + 87
def pieceQ (b : UInt8) : List UInt8 := if b = 10 then [92, 110] else if b = 9 then [92, 116] else if b = 92 ∨ b = 34 then [92, b] else if tb b then [b] else [92, 120, hexc (b >>> 4), hexc (b &&& 15)]
def quoteF (s : List UInt8) : List UInt8 := 34 :: (s.flatMap pieceQ ++ [34])
set_option maxRecDepth 10000 in
theorem digit_at (x : Nat) (hx : x < 16) (W : World) : (Instr.index 9 (.string ⟨#[48, 49, 50, 51, 52, 53, 54, 55, 56, 57, 97, 98, 99, 100, 101, 102]⟩) (.int .u8 (x : Int))).run Tryz.prog W = .ok (.int .u8 ((hexc (UInt8.ofNat x)).toNat : Int)) W := by
  have h' : x = 0 ∨ x = 1 ∨ x = 2 ∨ x = 3 ∨ x = 4 ∨ x = 5 ∨ x = 6 ∨ x = 7 ∨ x = 8 ∨ x = 9 ∨ x = 10 ∨ x = 11 ∨ x = 12 ∨ x = 13 ∨ x = 14 ∨ x = 15 := by omega
  rcases h' with rfl | rfl | rfl | rfl | rfl | rfl | rfl | rfl | rfl | rfl | rfl | rfl | rfl | rfl | rfl | rfl <;> rfl
theorem shr_u8 (b : UInt8) : b >>> 4 = UInt8.ofNat (b.toNat / 16) := all_u8 (P := fun b => b >>> 4 = UInt8.ofNat (b.toNat / 16)) (by decide +kernel) b
theorem and_u8 (b : UInt8) : b &&& 15 = UInt8.ofNat (b.toNat % 16) := all_u8 (P := fun b => b &&& 15 = UInt8.ofNat (b.toNat % 16)) (by decide +kernel) b
theorem bits_and (b : UInt8) : bits BinOp.and IntKind.u8 (b.toNat : Int) 15 = ((b.toNat % 16 : Nat) : Int) := all_u8 (P := fun b => bits BinOp.and IntKind.u8 (b.toNat : Int) 15 = ((b.toNat % 16 : Nat) : Int)) (by decide +kernel) b
theorem cells_new (w : World) (xs : List Value) (t : TypeId) : ∀ j u, xs[j]? = some u → (w.alloc (.cells xs.toArray t)).cell? ((⟨w.heap.size, 0, none⟩ : Addr).add j) = some u := by
  intro j u hj
  rw [Go.WideShapes.add_plain, cell_of_row _ w.heap.size (0 + j) _ _ _ (heap_alloc_new _ _), Nat.zero_add]
  simpa using hj
theorem run_byts {W : World} {B : Nat} {v : Value} {bs : List UInt8} (h : OwnB W B v bs) (ys : List UInt8) (hB : B ≤ W.heap.size) (hl : bs.length + ys.length < 1000000) (ty : TypeId) :
    ∃ u w', (Builtin.append_ #[97, 97] ty #[v, .slice (some ⟨W.heap.size, 0, none⟩) ys.length ys.length]).run Tryz.prog (W.alloc (.cells (ys.map bv).toArray 5)) = .ok u w' ∧ OwnB w' B u (bs ++ ys) ∧ Below B W w' := by
  obtain ⟨i0, hi, hz, hz1, hz2⟩ := info_parts info_u8
  obtain ⟨u, w', hr, h1, h2, _, h4⟩ := run_append_own_at (P := Tryz.prog) (W.alloc (.cells (ys.map bv).toArray 5)) B 97 ty 5 i0 _ 1 1 Tryz.underlying97 hi hz hz1 hz2 rfl (by decide) v bs.length (bs.map bv)
    (h.alloc _) ⟨W.heap.size, 0, none⟩ ys.length ys.length (ys.map bv) (by simp) (cells_new W _ _) (fun u hu => by obtain ⟨x, _, rfl⟩ := List.mem_map.1 hu; rfl) (by unfold maxLen; omega) (by omega) (by simp; omega)
  exact ⟨u, w', hr, by unfold OwnB; rw [List.length_append, List.map_append]; exact h1, ((Below.refl B W).alloc hB _).grown h2 (by simp; omega) fun j hj => (h.lt j hj).1⟩
theorem byts_plain {ops : Array Oper} {rest : List Oper} {o : Oper} {a : Act} {Q : Exit → Act → World → Prop} {W : World} {B : Nat} {v : Value} {bs : List UInt8} {C : Array Value} {m : Nat} (h : OwnB W B v bs) (ys : List UInt8) (hB : B ≤ W.heap.size) (hl : bs.length + ys.length < 1000000) (hC : C = (ys.map bv).toArray) (hm : m = ys.length) (hgd : o.guard = none) (x y : Operand)
    (ho : o.op = .call { callee := .builtin .append, args := #[x, y], argTypes := #[97, 97] }) (hx : a.eval x = v) (hy : a.eval y = .slice (some ⟨W.heap.size, 0, none⟩) m m)
    (hK : ∀ u w', OwnB w' B u (bs ++ ys) → Below B W w' → wpList Tryz.prog ops Q rest (a.put o.dst u) w') : wpList Tryz.prog ops Q (o :: rest) a (W.alloc (.cells C 5)) := by
  subst hC hm
  refine wpList_plain hgd fun K hKK => ?_
  obtain ⟨u, w', hr, h1, h2⟩ := run_byts h ys hB hl o.type
  unfold Oper.wp execOp
  simp only [ho, resolve, invoke, builtin, Sem.run_bind, Sem.run_pure, Result.andThen_ok, List.map_toArray, List.map_cons, List.map_nil, hx, hy, hr]
  exact hKK _ _ (hK u w' h1 h2)
theorem byts_drawn {ops : Array Oper} {o : Oper} {a : Act} {K : Act → World → Prop} {Q : Exit → Act → World → Prop} {E : Prop} {W : World} {B : Nat} {v : Value} {bs : List UInt8} {C : Array Value} {m : Nat} (h : OwnB W B v bs) (ys : List UInt8) (hB : B ≤ W.heap.size) (hl : bs.length + ys.length < 1000000) (hC : C = (ys.map bv).toArray) (hm : m = ys.length) (hgd : o.guard = none) (x y : Operand)
    (ho : o.op = .call { callee := .builtin .append, args := #[x, y], argTypes := #[97, 97] }) (hx : a.eval x = v) (hy : a.eval y = .slice (some ⟨W.heap.size, 0, none⟩) m m)
    (hK : ∀ u w', OwnB w' B u (bs ++ ys) → Below B W w' → K (a.put o.dst u) w') :
    if Region.wanted o (yielded ops a.tmps) = true then Oper.wp Tryz.prog o a (W.alloc (.cells C 5)) K Q else E := by
  subst hC hm
  rw [if_pos (by simp [Region.wanted, hgd])]
  obtain ⟨u, w', hr, h1, h2⟩ := run_byts h ys hB hl o.type
  unfold Oper.wp execOp
  simp only [ho, resolve, invoke, builtin, Sem.run_bind, Sem.run_pure, Result.andThen_ok, List.map_toArray, List.map_cons, List.map_nil, hx, hy, hr]
  exact hK u w' h1 h2
section
variable {w : World} {B : Nat} {v : Value} {xs : List UInt8}
end
end Go.Proofs.YtnfnlcahlgnahaaGreatDoor

namespace Go.Proofs.YtnfnlcahlgnahaaGreatDoor
open Lx

theorem closed_step (c : UInt8) (l : List UInt8) (h1 : c ≠ 10) (h2 : c ≠ 92) (h3 : c ≠ 34) : closedF 34 false (c :: l) = (closedF 34 false l).map (· + 1) := by
  simp only [closedF, beq_eq_false_iff_ne.2 h1, beq_eq_false_iff_ne.2 h2, beq_eq_false_iff_ne.2 h3, Bool.false_eq_true, if_false]
theorem closed_esc (c : UInt8) (l : List UInt8) (h1 : c ≠ 10) : closedF 34 false (92 :: c :: l) = (closedF 34 false l).map (· + 2) := by
  have : closedF 34 true (c :: l) = (closedF 34 false l).map (· + 1) := by
    simp only [closedF, beq_eq_false_iff_ne.2 h1, Bool.false_eq_true, if_false, if_true]
  show (closedF 34 true (c :: l)).map (· + 1) = _
  rw [this]
  cases closedF 34 false l <;> simp
theorem hexc_clean (b : UInt8) : hexc (b >>> 4) ≠ 10 ∧ hexc (b >>> 4) ≠ 92 ∧ hexc (b >>> 4) ≠ 34 ∧ hexc (b &&& 15) ≠ 10 ∧ hexc (b &&& 15) ≠ 92 ∧ hexc (b &&& 15) ≠ 34 :=
  all_u8 (P := fun b => hexc (b >>> 4) ≠ 10 ∧ hexc (b >>> 4) ≠ 92 ∧ hexc (b >>> 4) ≠ 34 ∧ hexc (b &&& 15) ≠ 10 ∧ hexc (b &&& 15) ≠ 92 ∧ hexc (b &&& 15) ≠ 34) (by decide +kernel) b
theorem hexc_back (b : UInt8) : hexV (hexc (b >>> 4)) = some (b >>> 4) ∧ hexV (hexc (b &&& 15)) = some (b &&& 15) ∧ (b >>> 4) <<< 4 ||| (b &&& 15) = b :=
  all_u8 (P := fun b => hexV (hexc (b >>> 4)) = some (b >>> 4) ∧ hexV (hexc (b &&& 15)) = some (b &&& 15) ∧ (b >>> 4) <<< 4 ||| (b &&& 15) = b) (by decide +kernel) b
theorem closed_piece (b : UInt8) (l : List UInt8) : closedF 34 false (pieceQ b ++ l) = (closedF 34 false l).map (· + (pieceQ b).length) := by
  unfold pieceQ
  by_cases e10 : b = 10
  · rw [if_pos e10]; exact closed_esc 110 l (by decide)
  · rw [if_neg e10]
    by_cases e9 : b = 9
    · rw [if_pos e9]; exact closed_esc 116 l (by decide)
    · rw [if_neg e9]
      by_cases e92 : b = 92 ∨ b = 34
      · rw [if_pos e92]; exact closed_esc b l e10
      · rw [if_neg e92]
        simp only [not_or] at e92
        by_cases et : tb b = true
        · rw [if_pos et]; exact closed_step b l e10 e92.1 e92.2
        · rw [if_neg et]
          obtain ⟨a1, a2, a3, a4, a5, a6⟩ := hexc_clean b
          show closedF 34 false (92 :: 120 :: hexc (b >>> 4) :: hexc (b &&& 15) :: l) = _
          rw [closed_esc 120 _ (by decide), closed_step _ _ a1 a2 a3, closed_step _ _ a4 a5 a6]
          cases closedF 34 false l <;> simp
theorem closed_quote (s r : List UInt8) : closedF 34 false (s.flatMap pieceQ ++ 34 :: r) = some (s.flatMap pieceQ).length := by
  induction s with
  | nil => rfl
  | cons b s ih =>
    rw [List.flatMap_cons, List.append_assoc, closed_piece, ih]
    simp; omega
theorem piece_back (b : UInt8) (l : List UInt8) : pieceF (pieceQ b ++ l) = some (b, (pieceQ b).length) := by
  unfold pieceQ
  by_cases e10 : b = 10
  · subst e10; rw [if_pos rfl]; exact pieceF_two 110 l
  · rw [if_neg e10]
    by_cases e9 : b = 9
    · subst e9; rw [if_pos rfl]; exact pieceF_two 116 l
    · rw [if_neg e9]
      by_cases e92 : b = 92 ∨ b = 34
      · rw [if_pos e92]
        rcases e92 with rfl | rfl
        · exact pieceF_two 92 l
        · exact pieceF_two 34 l
      · rw [if_neg e92]
        simp only [not_or] at e92
        by_cases et : tb b = true
        · rw [if_pos et]
          show pieceF (b :: l) = _
          rw [pieceF_plain b l e92.1, if_pos et]; rfl
        · rw [if_neg et]
          obtain ⟨a1, a2, a3⟩ := hexc_back b
          show pieceF (92 :: 120 :: hexc (b >>> 4) :: hexc (b &&& 15) :: l) = _
          rw [pieceF_two]
          show hexF (hexc (b >>> 4) :: hexc (b &&& 15) :: l) = _
          simp only [hexF, a1, a2, a3]
          rfl
theorem pieceQ_pos (b : UInt8) : 1 ≤ (pieceQ b).length := by
  unfold pieceQ
  split
  · simp
  · split
    · simp
    · split
      · simp
      · split <;> simp
theorem unq_quote (s : List UInt8) : ∀ m, (s.flatMap pieceQ).length ≤ m → unqF m (s.flatMap pieceQ) = (s, none) := by
  induction s with
  | nil => intro m _; cases m <;> rfl
  | cons b s ih =>
    intro m hm
    rw [List.flatMap_cons, List.length_append] at hm
    have hp := pieceQ_pos b
    obtain ⟨n, rfl⟩ : ∃ n, m = n + 1 := ⟨m - 1, by omega⟩
    rw [List.flatMap_cons]
    have hpb := piece_back b (s.flatMap pieceQ)
    obtain ⟨c, r, hc⟩ : ∃ c r, pieceQ b ++ s.flatMap pieceQ = c :: r := by
      cases h : pieceQ b with
      | nil => rw [h] at hp; simp at hp
      | cons c r => exact ⟨c, r ++ s.flatMap pieceQ, rfl⟩
    have hd : (pieceQ b ++ s.flatMap pieceQ).drop (pieceQ b).length = s.flatMap pieceQ := by simp
    rw [hc] at hpb hd ⊢
    simp only [unqF, hpb, hd, ih n (by omega)]
theorem quoF_quote (s r : List UInt8) : quoF 34 (s.flatMap pieceQ ++ 34 :: r) = .inl (s, (quoteF s).length) := by
  unfold quoF
  rw [closed_quote]
  simp only [List.take_left, unq_quote s _ (Nat.le_refl _)]
  simp [quoteF]
theorem tok_quote (op s r : List UInt8) : tokF op (quoteF s ++ r) = .ok 3 s (quoteF s).length op := by
  have h : quoteF s ++ r = 34 :: (s.flatMap pieceQ ++ 34 :: r) := by unfold quoteF; simp
  rw [h, tokF_quo op 34 _ (by decide) (by decide) (.inl rfl), quoF_quote]
theorem gapF_zero (b : UInt8) (l : List UInt8) (h1 : b ≠ 32) (h2 : b ≠ 35) : gapF (b :: l) = 0 := by
  have hs : lenF sp (b :: l) = 0 := by
    unfold lenF
    rw [if_neg (by unfold sp; simpa using h1)]
  unfold gapF
  rw [hs, List.drop_zero]
  simp only [beq_eq_false_iff_ne.2 h2, Bool.false_eq_true, if_false]
  split <;> rfl
theorem gapF_one (b : UInt8) (l : List UInt8) (h1 : b ≠ 32) (h2 : b ≠ 35) : gapF (32 :: b :: l) = 1 := by
  have hs : lenF sp (32 :: b :: l) = 1 := by
    show (if sp 32 then lenF sp (b :: l) + 1 else 0) = 1
    rw [if_pos (by decide)]
    unfold lenF
    rw [if_neg (by unfold sp; simpa using h1)]
  unfold gapF
  rw [hs]
  simp only [List.drop_succ_cons, List.drop_zero, beq_eq_false_iff_ne.2 h2, Bool.false_eq_true, if_false]
  split <;> rfl
end Go.Proofs.YtnfnlcahlgnahaaGreatDoor

namespace Go.Proofs.YtnfnlcahlgnahaaGreatDoor
open Lx

theorem mid_tok {n p k m g : Nat} {ts : List Tok} {bl : List Nat} {op op' l r r' tx : List UInt8} (he : ends l = false) (ht : tokF op l = .ok k tx m op') (hr : l.drop m = r) (hg : gapF r = g) (hr' : r.drop g = r') :
    goF (n + 1) true p ⟨ts, bl, op⟩ l = goF n true (p + m + g) ⟨ts ++ [⟨k, tx, p⟩], bl, op'⟩ r' := by
  rw [goF_mid_tok n p _ l he]
  show (match tokF op l with | .bad j => RR.bad (p + j) | .ok k t m op => _) = _
  rw [ht]
  simp only [hr, hg, hr']
theorem start_line {n : Nat} {b : UInt8} {l : List UInt8} (h1 : b ≠ 32) (h2 : b ≠ 35) (h3 : b ≠ 10) : goF (n + 1) false 0 ⟨[], [0], []⟩ (b :: l) = goF n true 0 ⟨[], [0], []⟩ (b :: l) := by
  have hg := gapF_zero b l h1 h2
  have he : ends ((b :: l).drop (gapF (b :: l))) = false := by rw [hg]; exact beq_eq_false_iff_ne.2 h3
  rw [goF_line_ind n 0 _ _ he rfl, hg]
  rfl
theorem last_end {n p : Nat} {ts : List Tok} : goF (n + 1) true p ⟨ts, [0], []⟩ [] = .ok (ts ++ [⟨5, [], p⟩] ++ [⟨8, [], p⟩]) := by
  rw [goF_mid_end n p _ [] rfl]
  show endF p (nlF _ p) = _
  unfold endF nlF
  rw [if_pos rfl, if_pos rfl]
  simp [deds]
theorem quoteF_head (s r : List UInt8) : ∃ x, quoteF s ++ r = 34 :: x := ⟨_, rfl⟩
theorem quoteF_pos (s : List UInt8) : 2 ≤ (quoteF s).length := by simp [quoteF]
/-- Two texts quoted, in brackets. -/
def twoQ (s t : List UInt8) : List UInt8 := 91 :: (quoteF s ++ 44 :: 32 :: (quoteF t ++ [93]))
theorem scan_two (s t : List UInt8) : scanF (twoQ s t) = .ok [⟨4, [91], 0⟩, ⟨3, s, 1⟩, ⟨4, [44], 1 + (quoteF s).length⟩, ⟨3, t, 1 + (quoteF s).length + 2⟩, ⟨4, [93], 1 + (quoteF s).length + 2 + (quoteF t).length⟩,
    ⟨5, [], 1 + (quoteF s).length + 2 + (quoteF t).length + 1⟩, ⟨8, [], 1 + (quoteF s).length + 2 + (quoteF t).length + 1⟩] := by
  unfold scanF
  obtain ⟨k, hk⟩ : ∃ k, 2 * (twoQ s t).length + 2 = k + 7 := ⟨2 * (twoQ s t).length + 2 - 7, by have := quoteF_pos s; have := quoteF_pos t; simp [twoQ]; omega⟩
  rw [hk]
  obtain ⟨x, hx⟩ := quoteF_head s (44 :: 32 :: (quoteF t ++ [93]))
  obtain ⟨y, hy⟩ := quoteF_head t [93]
  unfold twoQ
  rw [start_line (by decide) (by decide) (by decide)]
  rw [mid_tok (k := 4) (m := 1) (g := 0) (tx := [91]) (op' := [93]) (r := quoteF s ++ 44 :: 32 :: (quoteF t ++ [93])) (r' := quoteF s ++ 44 :: 32 :: (quoteF t ++ [93])) rfl (by rw [hx]; rfl) rfl (by rw [hx]; exact gapF_zero _ _ (by decide) (by decide)) rfl]
  rw [mid_tok (g := 0) (r := 44 :: 32 :: (quoteF t ++ [93])) (r' := 44 :: 32 :: (quoteF t ++ [93])) (by rw [hx]; rfl) (tok_quote _ _ _) (by rw [List.drop_left]) (gapF_zero _ _ (by decide) (by decide)) rfl]
  rw [mid_tok (k := 4) (m := 1) (g := 1) (tx := [44]) (op' := [93]) (r := 32 :: (quoteF t ++ [93])) (r' := quoteF t ++ [93]) rfl (by rfl) rfl (by rw [hy]; exact gapF_one _ _ (by decide) (by decide)) rfl]
  rw [mid_tok (g := 0) (r := [93]) (r' := [93]) (by rw [hy]; rfl) (tok_quote _ _ _) (by rw [List.drop_left]) (gapF_zero _ _ (by decide) (by decide)) rfl]
  rw [mid_tok (k := 4) (m := 1) (g := 0) (tx := [93]) (op' := []) (r := []) (r' := []) rfl (by rfl) rfl (by rfl) rfl]
  rw [last_end]
  rfl
end Go.Proofs.YtnfnlcahlgnahaaGreatDoor

namespace Go.Proofs.YtnfnlcahlgnahaaGreatDoor
open Lx

theorem lenF_all (p : UInt8 → Bool) (s : List UInt8) (r : List UInt8) (hs : ∀ b ∈ s, p b = true) (hr : lenF p r = 0) : lenF p (s ++ r) = s.length := by
  induction s with
  | nil => exact hr
  | cons b s ih =>
    show (if p b then lenF p (s ++ r) + 1 else 0) = s.length + 1
    rw [if_pos (hs b (by simp)), ih (fun x hx => hs x (by simp [hx]))]
/-- The end of the text: a letter, or nothing. -/
def tailD (letter : Bool) : List UInt8 := if letter then [97] else []
/-- x, a sign, and digits. -/
def digT (s : List UInt8) (letter : Bool) : List UInt8 := 120 :: 32 :: 61 :: 32 :: (s ++ tailD letter)
def badD (s : List UInt8) (letter : Bool) : Bool := letter || (decide (600 < s.length) || (decide (1 < s.length) && s.headD 0 == 48))
def okD (s : List UInt8) : List Tok := [⟨1, [120], 0⟩, ⟨4, [61], 2⟩, ⟨2, s, 4⟩, ⟨5, [], 4 + s.length⟩, ⟨8, [], 4 + s.length⟩]
theorem tok_digits (op : List UInt8) (c : UInt8) (s : List UInt8) (letter : Bool) (hc : lt c = false) (hd : dg c = true) (hs : ∀ b ∈ s, dg b = true) :
    tokF op ((c :: s) ++ tailD letter) = if badD (c :: s) letter then .bad 0 else .ok 2 (c :: s) (s.length + 1) op := by
  have hl : lenF dg ((c :: s) ++ tailD letter) = s.length + 1 := lenF_all dg (c :: s) _ (by intro b hb; rcases List.mem_cons.1 hb with rfl | h; exact hd; exact hs b h) (by cases letter <;> rfl)
  have htk : ((c :: s) ++ tailD letter).take (s.length + 1) = c :: s := by rw [show s.length + 1 = (c :: s).length from rfl, List.take_left]
  have hdr : ((c :: s) ++ tailD letter).drop (s.length + 1) = tailD letter := by rw [show s.length + 1 = (c :: s).length from rfl, List.drop_left]
  have hu : tokF op ((c :: s) ++ tailD letter) = if 600 < lenF dg ((c :: s) ++ tailD letter) || ((1 < lenF dg ((c :: s) ++ tailD letter) && c == 48) || 0 < lenF lt (((c :: s) ++ tailD letter).drop (lenF dg ((c :: s) ++ tailD letter)))) then .bad 0 else .ok 2 (((c :: s) ++ tailD letter).take (lenF dg ((c :: s) ++ tailD letter))) (lenF dg ((c :: s) ++ tailD letter)) op := by
    show (if lt c then _ else if dg c then _ else _) = _
    rw [hc, hd]; rfl
  rw [hu, hl, htk, hdr]
  have hb : (decide (600 < s.length + 1) || ((decide (1 < s.length + 1) && c == 48) || decide (0 < lenF lt (tailD letter)))) = badD (c :: s) letter := by
    unfold badD
    cases letter
    · simp [tailD, lenF]
    · have : lenF lt (tailD true) = 1 := by decide
      rw [this]; simp
  rw [hb]
theorem scan_dig (c : UInt8) (s : List UInt8) (letter : Bool) (hc : lt c = false) (hd : dg c = true) (h32 : c ≠ 32) (h35 : c ≠ 35) (h10 : c ≠ 10) (hs : ∀ b ∈ s, dg b = true) :
    scanF (digT (c :: s) letter) = if badD (c :: s) letter then .bad 4 else .ok (okD (c :: s)) := by
  unfold scanF
  obtain ⟨k, hk⟩ : ∃ k, 2 * (digT (c :: s) letter).length + 2 = k + 5 := ⟨2 * (digT (c :: s) letter).length + 2 - 5, by simp [digT]; omega⟩
  rw [hk]
  have ht := tok_digits [] c s letter hc hd hs
  unfold digT
  rw [start_line (by decide) (by decide) (by decide)]
  rw [mid_tok (k := 1) (m := 1) (g := 1) (tx := [120]) (op' := []) (r := 32 :: 61 :: 32 :: (c :: s ++ tailD letter)) (r' := 61 :: 32 :: (c :: s ++ tailD letter)) rfl (by rfl) rfl (gapF_one _ _ (by decide) (by decide)) rfl]
  rw [mid_tok (k := 4) (m := 1) (g := 1) (tx := [61]) (op' := []) (r := 32 :: (c :: s ++ tailD letter)) (r' := (c :: s ++ tailD letter)) rfl (by rfl) rfl (gapF_one _ _ h32 h35) rfl]
  have he : ends (c :: s ++ tailD letter) = false := beq_eq_false_iff_ne.2 h10
  cases hb : badD (c :: s) letter with
  | true =>
    rw [hb, if_pos rfl] at ht
    rw [if_pos rfl, goF_mid_tok _ _ _ _ he]
    show (match tokF [] (c :: s ++ tailD letter) with | .bad j => RR.bad (4 + j) | .ok k t m op => _) = _
    rw [ht]
  | false =>
    rw [hb, if_neg (by decide)] at ht
    have hlf : letter = false := by
      cases letter
      · rfl
      · simp [badD] at hb
    subst hlf
    have ed : (c :: s) ++ tailD false = c :: s := by simp [tailD]
    rw [ed] at ht he
    rw [if_neg (by decide), ed, mid_tok (k := 2) (m := s.length + 1) (g := 0) (tx := c :: s) (op' := []) (r := []) (r' := []) he ht (List.drop_eq_nil_of_le (by simp)) (by rfl) rfl]
    rw [last_end]
    rfl
end Go.Proofs.YtnfnlcahlgnahaaGreatDoor

namespace Go.Proofs.YtnfnlcahlgnahaaGreatDoor
open Lx

theorem contF_fuel {n p : Nat} {st : St} {l : List UInt8} (ih : ∀ r, r.length < l.length → goF n false (p + 1) st r = goF (n + 1) false (p + 1) st r) : contF n p st l = contF (n + 1) p st l := by
  cases l with
  | nil => rfl
  | cons b r => exact ih r (by simp)
theorem fuel_more : ∀ (n : Nat) (mid : Bool) (p : Nat) (st : St) (l : List UInt8), st.op.length ≤ 60 → 2 * l.length + (if mid then 1 else 2) ≤ n → goF n mid p st l = goF (n + 1) mid p st l := by
  intro n
  induction n with
  | zero => intro mid p st l _ h; cases mid <;> simp at h
  | succ n ih =>
    intro mid p st l ho h
    cases mid with
    | true =>
      simp only [if_true] at h
      rcases Bool.eq_false_or_eq_true (ends l) with e | e
      · rw [goF_mid_end n p st l e, goF_mid_end (n + 1) p st l e]
        refine contF_fuel fun r hr => ih false _ _ _ ?_ (by simp; omega)
        unfold nlF; split <;> exact ho
      · rw [goF_mid_tok n p st l e, goF_mid_tok (n + 1) p st l e]
        cases ht : tokF st.op l with
        | bad j => rfl
        | ok k t m op =>
          obtain ⟨h1, h2, h3⟩ := tokF_ok ht ho
          exact ih true _ _ _ h1 (by simp; omega)
    | false =>
      simp only [Bool.false_eq_true, if_false] at h
      rcases Bool.eq_false_or_eq_true (ends (l.drop (gapF l))) with e | e
      · rw [goF_line_end n p st l e, goF_line_end (n + 1) p st l e]
        exact contF_fuel fun r hr => ih false _ _ _ ho (by simp at hr ⊢; omega)
      · by_cases hop : st.op = []
        · rw [goF_line_ind n p st l e hop, goF_line_ind (n + 1) p st l e hop]
          cases indF (gapF l) (p + gapF l) st.toks st.blocks with
          | none => rfl
          | some x => exact ih true _ _ _ ho (by simp; omega)
        · rw [goF_line_open n p st l e hop, goF_line_open (n + 1) p st l e hop]
          exact ih true _ _ _ ho (by simp; omega)
theorem fuel_any (k n : Nat) (mid : Bool) (p : Nat) (st : St) (l : List UInt8) (ho : st.op.length ≤ 60) (h : 2 * l.length + (if mid then 1 else 2) ≤ n) : goF (n + k) mid p st l = goF n mid p st l := by
  induction k with
  | zero => rfl
  | succ k ih => rw [← ih]; exact (fuel_more (n + k) mid p st l ho (by omega)).symm
/-- A place of the plain scanner. -/
structure Cf where
  mid : Bool
  p : Nat
  st : St
  l : List UInt8
def at_ (n : Nat) (c : Cf) : RR := goF n c.mid c.p c.st c.l
/-- The scanner comes from one place to another. -/
def Run (c c' : Cf) : Prop := ∃ k, ∀ n, at_ (n + k) c = at_ n c'
/-- The scanner comes to its end. -/
def Out (c : Cf) (R : RR) : Prop := ∃ k, ∀ n, at_ (n + k) c = R
theorem Run.refl (c : Cf) : Run c c := ⟨0, fun _ => rfl⟩
theorem Run.trans {a b c : Cf} (h : Run a b) (h' : Run b c) : Run a c := by
  obtain ⟨k, hk⟩ := h
  obtain ⟨m, hm⟩ := h'
  exact ⟨m + k, fun n => by rw [← Nat.add_assoc, hk, hm]⟩
theorem Run.out {a b : Cf} {R : RR} (h : Run a b) (h' : Out b R) : Out a R := by
  obtain ⟨k, hk⟩ := h
  obtain ⟨m, hm⟩ := h'
  exact ⟨m + k, fun n => by rw [← Nat.add_assoc, hk, hm]⟩
theorem Run.one {a b : Cf} (h : ∀ n, at_ (n + 1) a = at_ n b) : Run a b := ⟨1, h⟩
theorem Out.one {a : Cf} {R : RR} (h : ∀ n, at_ (n + 1) a = R) : Out a R := ⟨1, h⟩
def begin_ (l : List UInt8) : Cf := ⟨false, 0, ⟨[], [0], []⟩, l⟩
theorem scan_out {l : List UInt8} {R : RR} (h : Out (begin_ l) R) : scanF l = R := by
  obtain ⟨k, hk⟩ := h
  have h1 := hk (2 * l.length + 2)
  have h2 := fuel_any k (2 * l.length + 2) false 0 ⟨[], [0], []⟩ l (by simp) (by simp)
  exact h2.symm.trans h1
/-- What comes out is one thing. -/
theorem Out.same {a : Cf} {R R' : RR} (h : Out a R) (h' : Out a R') : R = R' := by
  obtain ⟨k, hk⟩ := h
  obtain ⟨m, hm⟩ := h'
  rw [← hk m, ← hm k, Nat.add_comm]
theorem Out.exists (c : Cf) (ho : c.st.op.length ≤ 60) : ∃ R, Out c R := ⟨_, 2 * c.l.length + 2, fun n => by
  have h : at_ (2 * c.l.length + 2 + n) c = at_ (2 * c.l.length + 2) c := fuel_any n (2 * c.l.length + 2) c.mid c.p c.st c.l ho (by split <;> omega)
  rw [Nat.add_comm]; exact h⟩
theorem Out.scan (l : List UInt8) : Out (begin_ l) (scanF l) := by
  obtain ⟨R, h⟩ := Out.exists (begin_ l) (by simp [begin_])
  rw [scan_out h]; exact h
/-- Behind a run the same comes out. -/
theorem Run.outs {a b : Cf} {R : RR} (h : Run a b) (h' : Out a R) : Out b R := by
  obtain ⟨k, hk⟩ := h
  obtain ⟨m, hm⟩ := h'
  exact ⟨m, fun n => by rw [← hk (n + m), show n + m + k = (n + k) + m by omega]; exact hm _⟩
theorem run_tok {p k m g : Nat} {ts : List Tok} {bl : List Nat} {op op' l r r' tx : List UInt8} (he : ends l = false) (ht : tokF op l = .ok k tx m op') (hr : l.drop m = r) (hg : gapF r = g) (hr' : r.drop g = r') :
    Run ⟨true, p, ⟨ts, bl, op⟩, l⟩ ⟨true, p + m + g, ⟨ts ++ [⟨k, tx, p⟩], bl, op'⟩, r'⟩ := .one fun _ => mid_tok he ht hr hg hr'
theorem run_end {p : Nat} {st : St} {r : List UInt8} : Run ⟨true, p, st, 10 :: r⟩ ⟨false, p + 1, nlF st p, r⟩ := .one fun n => goF_mid_end n p st (10 :: r) rfl
theorem run_blank {p g : Nat} {st : St} {l r : List UInt8} (hg : gapF l = g) (hr : l.drop g = 10 :: r) : Run ⟨false, p, st, l⟩ ⟨false, p + g + 1, st, r⟩ := .one fun n => by
  show goF (n + 1) false p st l = _
  rw [goF_line_end n p st l (by rw [hg, hr]; rfl), hg, hr]; rfl
theorem run_open {p g : Nat} {st : St} {l r : List UInt8} (hg : gapF l = g) (hr : l.drop g = r) (he : ends r = false) (ho : st.op ≠ []) : Run ⟨false, p, st, l⟩ ⟨true, p + g, st, r⟩ := .one fun n => by
  show goF (n + 1) false p st l = _
  rw [goF_line_open n p st l (by rw [hg, hr]; exact he) ho, hg, hr]; rfl
theorem run_ind {p g : Nat} {ts ts' : List Tok} {bl bl' : List Nat} {l r : List UInt8} (hg : gapF l = g) (hr : l.drop g = r) (he : ends r = false) (hi : indF g (p + g) ts bl = some (ts', bl')) :
    Run ⟨false, p, ⟨ts, bl, []⟩, l⟩ ⟨true, p + g, ⟨ts', bl', []⟩, r⟩ := .one fun n => by
  show goF (n + 1) false p ⟨ts, bl, []⟩ l = _
  rw [goF_line_ind n p _ l (by rw [hg, hr]; exact he) rfl, hg, hr, hi]; rfl
theorem out_mid {p : Nat} {st : St} : Out ⟨true, p, st, []⟩ (endF p (nlF st p)) := .one fun n => goF_mid_end n p st [] rfl
theorem out_line {p g : Nat} {st : St} {l : List UInt8} (hg : gapF l = g) (hr : l.drop g = []) : Out ⟨false, p, st, l⟩ (endF (p + g) st) := .one fun n => by
  show goF (n + 1) false p st l = _
  rw [goF_line_end n p st l (by rw [hg, hr]; rfl), hg, hr]; rfl
theorem out_bad {p j : Nat} {st : St} {l : List UInt8} (he : ends l = false) (ht : tokF st.op l = .bad j) : Out ⟨true, p, st, l⟩ (.bad (p + j)) := .one fun n => by
  show goF (n + 1) true p st l = _
  rw [goF_mid_tok n p st l he, ht]
end Go.Proofs.YtnfnlcahlgnahaaGreatDoor

namespace Go.Proofs.YtnfnlcahlgnahaaGreatDoor
open Lx
namespace Brk

def opn (k : Nat) : UInt8 := if k = 0 then 40 else if k = 1 then 91 else 123
def cls (k : Nat) : UInt8 := if k = 0 then 41 else if k = 1 then 93 else 125
def IsB (b : UInt8) : Prop := b = 40 ∨ b = 91 ∨ b = 123 ∨ b = 41 ∨ b = 93 ∨ b = 125
/-- Nothing to skip stands here. -/
def NoGap (R : List UInt8) : Prop := R = [] ∨ ∃ b r, R = b :: r ∧ b ≠ 32 ∧ b ≠ 35
theorem isB_opn (k : Nat) : IsB (opn k) := by unfold opn IsB; split <;> (try split) <;> simp
theorem isB_cls (k : Nat) : IsB (cls k) := by unfold cls IsB; split <;> (try split) <;> simp
theorem IsB.plain {b : UInt8} (h : IsB b) : b ≠ 32 ∧ b ≠ 35 ∧ b ≠ 10 := by
  rcases h with rfl | rfl | rfl | rfl | rfl | rfl <;> decide
theorem NoGap.gap {R : List UInt8} (h : NoGap R) : gapF R = 0 := by
  rcases h with rfl | ⟨b, r, rfl, h1, h2⟩
  · rfl
  · exact gapF_zero b r h1 h2
theorem noGap_b {b : UInt8} (h : IsB b) (r : List UInt8) : NoGap (b :: r) := .inr ⟨b, r, rfl, h.plain.1, h.plain.2.1⟩
theorem tok_brk (op : List UInt8) {b : UInt8} (h : IsB b) (R : List UInt8) : tokF op (b :: R) = match brkF b op with | none => .bad 0 | some op' => .ok 4 [b] 1 op' := by
  rcases h with rfl | rfl | rfl | rfl | rfl | rfl <;> cases R <;> rfl
theorem brk_opn (k : Nat) (op : List UInt8) (h : op.length < 60) : brkF (opn k) op = some (cls k :: op) := by
  unfold opn cls
  split
  · show (if op.length < 60 then some (41 :: op) else none) = _
    rw [if_pos h]
  · split
    · show (if op.length < 60 then some (93 :: op) else none) = _
      rw [if_pos h]
    · show (if op.length < 60 then some (125 :: op) else none) = _
      rw [if_pos h]
theorem brk_cls (k : Nat) (op : List UInt8) : brkF (cls k) (cls k :: op) = some op := by
  unfold cls
  split
  · rfl
  · split <;> rfl
theorem brk_bad (k t : Nat) (h : cls k ≠ cls t) (op : List UInt8) : brkF (cls k) (cls t :: op) = none := by
  have hb : (cls t == cls k) = false := beq_eq_false_iff_ne.2 (Ne.symm h)
  have : brkF (cls k) (cls t :: op) = if cls t == cls k then some op else none := by
    generalize cls t = x
    unfold cls
    split
    · rfl
    · split <;> rfl
  rw [this, hb]; rfl
/-- The scanner behind a text of brackets: within a line, or at the beginning of one (so many spaces are still to be read). -/
structure Rch (text : List UInt8) (o : List Nat) (T : List Tok) (mid : Bool) (j : Nat) : Prop where
  kinds : ∀ t ∈ T, t.kind = 4
  few : T.length ≤ text.length
  le : j ≤ text.length
  none : mid = true → j = 0
  ok : mid = true ∨ o ≠ [] ∨ (text = [] ∧ j = 0)
  run : ∀ R, Run (begin_ (text ++ R)) ⟨mid, text.length - j, ⟨T, [0], o.map cls⟩, List.replicate j 32 ++ R⟩ ∨ (mid = true ∧ ¬ NoGap R)
theorem rch_none : Rch [] [] [] false 0 := ⟨by simp, Nat.le_refl _, Nat.le_refl _, fun _ => rfl, .inr (.inr ⟨rfl, rfl⟩), fun R => .inl (Run.refl _)⟩
theorem gapF_sp' (d : Nat) (b : UInt8) (r : List UInt8) (h1 : b ≠ 32) (h2 : b ≠ 35) : gapF (List.replicate d 32 ++ b :: r) = d := by
  have hs : lenF sp (List.replicate d 32 ++ b :: r) = d := by
    have := lenF_all sp (List.replicate d 32) (b :: r) (by intro x hx; rw [List.eq_of_mem_replicate hx]; rfl) (by unfold lenF; rw [if_neg (by unfold sp; simpa using h1)])
    rwa [List.length_replicate] at this
  unfold gapF
  rw [hs, List.drop_left' (by simp)]
  simp only [beq_eq_false_iff_ne.2 h2, Bool.false_eq_true, if_false]
  split <;> rfl
theorem gapF_spn (d : Nat) : gapF (List.replicate d 32) = d := by
  have hs : lenF sp (List.replicate d 32) = d := by
    have := lenF_all sp (List.replicate d 32) [] (by intro x hx; rw [List.eq_of_mem_replicate hx]; rfl) rfl
    rwa [List.length_replicate, List.append_nil] at this
  unfold gapF
  rw [hs, List.drop_eq_nil_of_le (by simp)]
theorem Rch.to_mid {text : List UInt8} {o : List Nat} {T : List Tok} {mid : Bool} {j : Nat} (h : Rch text o T mid j) {b : UInt8} (hb : IsB b) (r : List UInt8) :
    Run (begin_ (text ++ b :: r)) ⟨true, text.length, ⟨T, [0], o.map cls⟩, b :: r⟩ := by
  obtain ⟨h32, h35, h10⟩ := hb.plain
  have he : ends (b :: r) = false := beq_eq_false_iff_ne.2 h10
  have hle := h.le
  rcases h.run (b :: r) with hr | ⟨_, hr⟩
  · cases mid with
    | true =>
      have := h.none rfl
      subst this
      exact hr
    | false =>
      refine hr.trans ?_
      have hg := gapF_sp' j b r h32 h35
      have hd : (List.replicate j 32 ++ b :: r).drop j = b :: r := List.drop_left' (by simp)
      have hp : text.length - j + j = text.length := by omega
      by_cases ho : o = []
      · subst ho
        have hj : j = 0 := by
          rcases h.ok with h | h | h
          · cases h
          · exact absurd rfl h
          · exact h.2
        subst hj
        have hi : indF 0 (text.length - 0 + 0) T [0] = some (T, [0]) := by
          unfold indF; simp
        exact run_ind hg hd he hi
      · have := run_open (p := text.length - j) (st := ⟨T, [0], o.map cls⟩) hg hd he (by simpa using ho)
        rwa [hp] at this
  · exact absurd (noGap_b hb r) hr
theorem Rch.tok {text : List UInt8} {o o' : List Nat} {T : List Tok} {mid : Bool} {j : Nat} (h : Rch text o T mid j) {b : UInt8} (hb : IsB b) (hk : brkF b (o.map cls) = some (o'.map cls)) (R : List UInt8) (hR : NoGap R) :
    Run (begin_ ((text ++ [b]) ++ R)) ⟨true, (text ++ [b]).length, ⟨T ++ [⟨4, [b], text.length⟩], [0], o'.map cls⟩, R⟩ := by
  rw [List.append_assoc]
  refine (h.to_mid hb R).trans ?_
  have he : ends (b :: R) = false := beq_eq_false_iff_ne.2 hb.plain.2.2
  have ht := tok_brk (o.map cls) hb R
  rw [hk] at ht
  have := run_tok (p := text.length) (ts := T) (bl := [0]) he ht (r := R) rfl hR.gap (r' := R) rfl
  simpa using this
theorem Rch.one {text : List UInt8} {o o' : List Nat} {T : List Tok} {mid : Bool} {j : Nat} (h : Rch text o T mid j) {b : UInt8} (hb : IsB b) (hk : brkF b (o.map cls) = some (o'.map cls)) :
    Rch (text ++ [b]) o' (T ++ [⟨4, [b], text.length⟩]) true 0 := by
  refine ⟨?_, ?_, Nat.zero_le _, fun _ => rfl, .inl rfl, fun R => ?_⟩
  · intro t ht
    rcases List.mem_append.1 ht with ht | ht
    · exact h.kinds t ht
    · rw [List.mem_singleton.1 ht]
  · have := h.few; simp; omega
  · by_cases hR : NoGap R
    · exact .inl (h.tok hb hk R hR)
    · exact .inr ⟨rfl, hR⟩
/-- A new line within brackets. -/
theorem Rch.line {text : List UInt8} {o : List Nat} {T : List Tok} (h : Rch text o T true 0) (ho : o ≠ []) (j : Nat) : Rch (text ++ 10 :: List.replicate j 32) o T false j := by
  have hf := h.few
  refine ⟨h.kinds, by simp; omega, by simp; omega, (fun e => by cases e), .inr (.inl ho), fun R => .inl ?_⟩
  have hn : NoGap (10 :: (List.replicate j 32 ++ R)) := .inr ⟨10, _, rfl, by decide, by decide⟩
  rcases h.run (10 :: (List.replicate j 32 ++ R)) with hr | ⟨_, hr⟩
  · have e : (text ++ 10 :: List.replicate j 32) ++ R = text ++ 10 :: (List.replicate j 32 ++ R) := by simp
    rw [e]
    refine hr.trans ?_
    have := run_end (p := text.length - 0) (st := ⟨T, [0], o.map cls⟩) (r := List.replicate j 32 ++ R)
    have hnl : nlF ⟨T, [0], o.map cls⟩ (text.length - 0) = ⟨T, [0], o.map cls⟩ := by
      unfold nlF
      rw [if_neg (by simpa using ho)]
    rw [hnl] at this
    have hp : (text ++ 10 :: List.replicate j 32).length - j = text.length - 0 + 1 := by simp; omega
    rw [hp]
    exact this
  · exact absurd hn hr
theorem Rch.push {text : List UInt8} {o : List Nat} {T : List Tok} {mid : Bool} {j : Nat} (h : Rch text o T mid j) (k : Nat) (ho : o.length < 60) : ∃ T', Rch (text ++ [opn k]) (k :: o) T' true 0 :=
  ⟨_, h.one (o' := k :: o) (isB_opn k) (brk_opn k _ (by simpa using ho))⟩
theorem Rch.pop {text : List UInt8} {t : Nat} {o : List Nat} {T : List Tok} {mid : Bool} {j : Nat} (h : Rch text (t :: o) T mid j) : ∃ T', Rch (text ++ [cls t]) o T' true 0 :=
  ⟨_, h.one (o' := o) (isB_cls t) (brk_cls t _)⟩
/-- What a number of the list does to the text and to what is open: k (which bracket), whether it closes, whether a new line follows. -/
def brkStep (k : Nat) (pop nl : Bool) (text : List UInt8) (o : List Nat) : List UInt8 × List Nat :=
  match o, pop with
  | t :: r, true => ((text ++ [cls t]) ++ (if r = [] then [] else [10]), r)
  | o, _ => ((text ++ [opn k]) ++ (if nl then [10, 32, 32, 32] else []), k :: o)
theorem Rch.step {text : List UInt8} {o : List Nat} {T : List Tok} {mid : Bool} {j : Nat} (h : Rch text o T mid j) (k : Nat) (pop nl : Bool) (ho : o.length < 60) :
    ∃ T' mid' j', Rch (brkStep k pop nl text o).1 (brkStep k pop nl text o).2 T' mid' j' ∧ (mid' = true ∨ (brkStep k pop nl text o).2 ≠ []) := by
  have hopen : ∃ T' mid' j', Rch ((text ++ [opn k]) ++ (if nl then [10, 32, 32, 32] else [])) (k :: o) T' mid' j' ∧ (mid' = true ∨ k :: o ≠ []) := by
    obtain ⟨T', h'⟩ := h.push k ho
    cases nl with
    | true => exact ⟨T', false, 3, h'.line (by simp) 3, .inr (by simp)⟩
    | false => exact ⟨T', true, 0, by simpa using h', .inl rfl⟩
  cases o with
  | nil => cases pop <;> exact hopen
  | cons t r =>
    cases pop with
    | false => exact hopen
    | true =>
      obtain ⟨T', h'⟩ := h.pop
      show ∃ T' mid' j', Rch ((text ++ [cls t]) ++ (if r = [] then [] else [10])) r T' mid' j' ∧ (mid' = true ∨ r ≠ [])
      by_cases hr : r = []
      · rw [if_pos hr]
        exact ⟨T', true, 0, by simpa using h', .inl rfl⟩
      · rw [if_neg hr]
        exact ⟨T', false, 0, h'.line hr 0, .inr hr⟩
theorem Rch.close : ∀ (o : List Nat) {text : List UInt8} {T : List Tok} {mid : Bool} {j : Nat}, Rch text o T mid j → (mid = true ∨ o ≠ []) → ∃ T', Rch (text ++ o.map cls) [] T' true 0
  | [], text, T, mid, j, h, hm => by
    rcases hm with rfl | hm
    · have := h.none rfl
      subst this
      exact ⟨T, by simpa using h⟩
    · exact absurd rfl hm
  | t :: o, text, T, mid, j, h, hm => by
    obtain ⟨T', h'⟩ := h.pop
    obtain ⟨T2, h2⟩ := Rch.close o h' (.inl rfl)
    exact ⟨T2, by simpa using h2⟩
/-- How many tokens are newlines. -/
def nls : List Tok → Nat
  | [] => 0
  | t :: ts => (if t.kind = 5 then 1 else 0) + nls ts
theorem nls_cons (t : Tok) (ts : List Tok) : nls (t :: ts) = (if t.kind = 5 then 1 else 0) + nls ts := rfl
theorem nls_four : ∀ (T : List Tok) (ts : List Tok), (∀ t ∈ T, t.kind = 4) → nls (T ++ ts) = nls ts
  | [], ts, _ => rfl
  | t :: T, ts, h => by
    rw [List.cons_append, nls_cons, if_neg (by rw [h t (by simp)]; decide), Nat.zero_add]
    exact nls_four T ts fun x hx => h x (by simp [hx])
theorem scan_closed {text : List UInt8} {T : List Tok} (h : Rch text [] T true 0) : scanF text = .ok (T ++ [⟨5, [], text.length⟩] ++ [⟨8, [], text.length⟩]) := by
  refine scan_out ?_
  rcases h.run [] with hr | ⟨_, hr⟩
  · rw [List.append_nil] at hr
    refine hr.out ?_
    have := out_mid (p := text.length) (st := ⟨T, [0], []⟩)
    have e : endF text.length (nlF ⟨T, [0], []⟩ text.length) = .ok (T ++ [⟨5, [], text.length⟩] ++ [⟨8, [], text.length⟩]) := by
      unfold endF nlF
      rw [if_pos rfl, if_pos rfl]
      simp [deds]
    rw [e] at this
    exact this
  · exact absurd (.inl rfl) hr
theorem scan_left {text : List UInt8} {o : List Nat} {T : List Tok} {mid : Bool} {j : Nat} (h : Rch text o T mid j) (ho : o ≠ []) : scanF text = .bad text.length := by
  refine scan_out ?_
  have hop : o.map cls ≠ [] := by simpa using ho
  rcases h.run [] with hr | ⟨_, hr⟩
  · rw [List.append_nil] at hr
    refine hr.out ?_
    cases mid with
    | true =>
      have := h.none rfl
      subst this
      have := out_mid (p := text.length) (st := ⟨T, [0], o.map cls⟩)
      have e : endF text.length (nlF ⟨T, [0], o.map cls⟩ text.length) = .bad text.length := by
        unfold endF nlF
        simp only [if_neg hop]
      rw [e] at this
      exact this
    | false =>
      have hle := h.le
      have hp : text.length - j + j = text.length := by omega
      have := out_line (p := text.length - j) (g := j) (st := ⟨T, [0], o.map cls⟩) (l := List.replicate j 32 ++ []) (by rw [List.append_nil]; exact gapF_spn j) (by simp)
      rw [hp] at this
      have e : endF text.length ⟨T, [0], o.map cls⟩ = .bad text.length := by unfold endF; rw [if_neg hop]
      rw [e] at this
      exact this
  · exact absurd (.inl rfl) hr
theorem scan_wrong {text : List UInt8} {t k : Nat} {o : List Nat} {T : List Tok} {mid : Bool} {j : Nat} (h : Rch text (t :: o) T mid j) (hk : cls k ≠ cls t) : scanF (text ++ [cls k]) = .bad text.length := by
  refine scan_out ?_
  refine (h.to_mid (isB_cls k) []).out ?_
  have he : ends [cls k] = false := beq_eq_false_iff_ne.2 (isB_cls k).plain.2.2
  have ht := tok_brk ((t :: o).map cls) (isB_cls k) []
  rw [List.map_cons, brk_bad k t hk] at ht
  exact out_bad (p := text.length) (j := 0) (st := ⟨T, [0], (t :: o).map cls⟩) he ht
end Brk
end Go.Proofs.YtnfnlcahlgnahaaGreatDoor

namespace Go.Proofs.YtnfnlcahlgnahaaGreatDoor
open Lx
namespace Spc

theorem lenF_pre (p : UInt8 → Bool) (h10 : p 10 = false) (h32 : p 32 = false) : ∀ (a R X : List UInt8), lenF p (a ++ 10 :: R) = lenF p (a ++ 32 :: X) ∧ lenF p (a ++ 10 :: R) ≤ a.length
  | [], R, X => by
    show (if p 10 then _ else 0) = (if p 32 then _ else 0) ∧ (if p 10 then _ else 0) ≤ 0
    rw [h10, h32]
    exact ⟨rfl, Nat.le_refl _⟩
  | b :: a, R, X => by
    obtain ⟨h1, h2⟩ := lenF_pre p h10 h32 a R X
    show (if p b then lenF p (a ++ 10 :: R) + 1 else 0) = (if p b then lenF p (a ++ 32 :: X) + 1 else 0) ∧ (if p b then lenF p (a ++ 10 :: R) + 1 else 0) ≤ a.length + 1
    rw [h1]
    refine ⟨rfl, ?_⟩
    rw [← h1]
    split <;> omega
theorem closed_pre (q : UInt8) : ∀ (a : List UInt8) (h : Bool) (R : List UInt8) (n : Nat), closedF q h (a ++ 10 :: R) = some n → n < a.length ∧ ∀ X, closedF q h (a ++ X) = some n
  | [], h, R, n, e => by cases e
  | b :: a, h, R, n, e => by
    rw [List.cons_append] at e
    have hc : ∀ l, closedF q h (b :: l) = if b == 10 then none else if h then (closedF q false l).map (· + 1) else if b == 92 then (closedF q true l).map (· + 1) else if b == q then some 0 else (closedF q false l).map (· + 1) := fun _ => rfl
    have key : ∀ h', (closedF q h' (a ++ 10 :: R)).map (· + 1) = some n → n < (b :: a).length ∧ ∀ X, (closedF q h' (a ++ X)).map (· + 1) = some n := by
      intro h' e'
      obtain ⟨m, e1, e2⟩ := Option.map_eq_some_iff.1 e'
      obtain ⟨h1, h2⟩ := closed_pre q a h' R m e1
      subst e2
      exact ⟨by simp; omega, fun X => by rw [h2 X]; rfl⟩
    rw [hc] at e
    split at e
    · cases e
    · next e10 =>
      split at e
      · next eh =>
        obtain ⟨k1, k2⟩ := key false e
        exact ⟨k1, fun X => by rw [List.cons_append, hc, if_neg e10, if_pos eh]; exact k2 X⟩
      · next eh =>
        split at e
        · next e92 =>
          obtain ⟨k1, k2⟩ := key true e
          exact ⟨k1, fun X => by rw [List.cons_append, hc, if_neg e10, if_neg eh, if_pos e92]; exact k2 X⟩
        · next e92 =>
          split at e
          · next eq =>
            cases e
            exact ⟨by simp, fun X => by rw [List.cons_append, hc, if_neg e10, if_neg eh, if_neg e92, if_pos eq]⟩
          · next eq =>
            obtain ⟨k1, k2⟩ := key false e
            exact ⟨k1, fun X => by rw [List.cons_append, hc, if_neg e10, if_neg eh, if_neg e92, if_neg eq]; exact k2 X⟩
theorem sign_pre (b : UInt8) (a R X : List UInt8) : signF (b :: (a ++ 10 :: R)) = signF (b :: (a ++ 32 :: X)) ∧ signF (b :: (a ++ 10 :: R)) ≤ a.length + 1 := by
  have hs : ∀ c r, signF (b :: c :: r) = if (b == 61 && c == 61) || (b == 33 && c == 61) || (b == 60 && c == 61) || (b == 62 && c == 61) || (b == 43 && c == 61) || (b == 47 && c == 47) then 2 else if oneSigns.any (· == b) then 1 else 0 := fun _ _ => rfl
  cases a with
  | nil =>
    rw [List.nil_append, List.nil_append, hs, hs]
    simp
    split <;> simp
  | cons c a =>
    rw [List.cons_append, List.cons_append, hs, hs]
    refine ⟨rfl, ?_⟩
    split
    · simp
    · split <;> simp
theorem take_pre {a R : List UInt8} {m : Nat} (h : m ≤ a.length) : (a ++ R).take m = a.take m := List.take_append_of_le_length h
theorem drop_pre {a R : List UInt8} {m : Nat} (h : m ≤ a.length) : (a ++ R).drop m = a.drop m ++ R := List.drop_append_of_le_length h
theorem tok_pre (op : List UInt8) (b : UInt8) (a R X : List UInt8) {k m : Nat} {t op' : List UInt8} (h : tokF op ((b :: a) ++ 10 :: R) = .ok k t m op') : m ≤ (b :: a).length ∧ tokF op ((b :: a) ++ 32 :: X) = .ok k t m op' := by
  rcases Bool.eq_false_or_eq_true (lt b) with e1 | e1
  · obtain ⟨h1, h2⟩ := lenF_pre nb (by decide) (by decide) (b :: a) R X
    rw [List.cons_append, tokF_name op b _ e1, ← List.cons_append] at h
    rw [List.cons_append, tokF_name op b _ e1, ← List.cons_append, ← h1, take_pre h2]
    rw [take_pre h2] at h
    injection h with g1 g2 g3 g4
    subst g1 g2 g3 g4
    exact ⟨h2, rfl⟩
  · rcases Bool.eq_false_or_eq_true (dg b) with e2 | e2
    · obtain ⟨h1, h2⟩ := lenF_pre dg (by decide) (by decide) (b :: a) R X
      have hbn : badNum ((b :: a) ++ 10 :: R) = badNum ((b :: a) ++ 32 :: X) := by
        unfold badNum
        rw [← h1, drop_pre h2, drop_pre h2, (lenF_pre lt (by decide) (by decide) _ R X).1]
        rfl
      rw [List.cons_append, tokF_num op b _ e1 e2, ← List.cons_append, take_pre h2, hbn] at h
      rw [List.cons_append, tokF_num op b _ e1 e2, ← List.cons_append, ← h1, take_pre h2]
      split at h
      · cases h
      · next eb =>
        rw [if_neg eb]
        injection h with g1 g2 g3 g4
        subst g1 g2 g3 g4
        exact ⟨h2, rfl⟩
    · by_cases hq : b = 34 ∨ b = 39
      · rw [List.cons_append, tokF_quo op b _ e1 e2 hq] at h
        rw [List.cons_append, tokF_quo op b _ e1 e2 hq]
        unfold quoF at h ⊢
        cases hc : closedF b false (a ++ 10 :: R) with
        | none => rw [hc] at h; cases h
        | some n =>
          obtain ⟨h1, h2⟩ := closed_pre b a false R n hc
          rw [hc] at h
          rw [h2 (32 :: X)]
          dsimp only at h ⊢
          rw [take_pre (a := a) (m := n) (by omega)] at h
          rw [take_pre (a := a) (m := n) (by omega)]
          refine ⟨?_, h⟩
          rcases hu : unqF n (a.take n) with ⟨said, o⟩
          rw [hu] at h
          cases o with
          | none =>
            injection h with g1 g2 g3 g4
            subst g3
            simp; omega
          | some j => cases h
      · obtain ⟨h1, h2⟩ := sign_pre b a R X
        have h1' : signF ((b :: a) ++ 10 :: R) = signF ((b :: a) ++ 32 :: X) := h1
        have h2' : signF ((b :: a) ++ 10 :: R) ≤ (b :: a).length := h2
        have ht : ((b :: a) ++ 10 :: R).take (signF ((b :: a) ++ 10 :: R)) = ((b :: a) ++ 32 :: X).take (signF ((b :: a) ++ 10 :: R)) := by rw [take_pre h2', take_pre h2']
        rw [List.cons_append, tokF_sgn op b _ e1 e2 hq] at h
        rw [List.cons_append, tokF_sgn op b _ e1 e2 hq]
        unfold sgnF at h ⊢
        rw [← List.cons_append] at h ⊢
        rw [← h1', ← ht]
        refine ⟨?_, h⟩
        split at h
        · cases h
        · injection h with g1 g2 g3 g4
          subst g3
          exact h2'
end Spc
end Go.Proofs.YtnfnlcahlgnahaaGreatDoor
