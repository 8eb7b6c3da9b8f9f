/- What (*former).expressionHas, statementHas and hasRight answer, for names, sums, expressions and blocks. Conditions: the kids lie ahead; the sorts lie in a block of their own. -/
import Derived.Test.YtnjbhcjdlbmmhaaDoorAstAre
import Derived.Test.YtnjbhcjdlbmmhaaDoorAstSays
namespace Go.Proofs.YtnjbhcjdlbmmhaaDoor
open Go.RowKit
open Lx Ax

/-- The former's sorts. -/
structure FS (W : World) (fb gs : Nat) (S : List Int) : Prop where
  ptr : W.cell? ⟨fb, 2, none⟩ = some (.slice (some ⟨gs, 0, none⟩) S.length S.length)
  row : RowV W gs 60 (sorts S)
theorem FS.keep {W W' : World} {fb gs : Nat} {S : List Int} (h : FS W fb gs S) (hb : Below W.heap.size W W') : FS W' fb gs S :=
  ⟨(hb.cell (World.block_lt_of_cell? W _ h.ptr)).trans h.ptr, h.row.far (hb.block gs h.row.lt)⟩
theorem below_drewN {W w : World} {n : Nat} (h : Below n W w) (q : Nat) : Below n W (w.drewN q) := ⟨h.os, h.tape, h.output, h.size, h.block⟩
theorem sorts_none (W : World) : SortsAt W (.slice none 0 0) [] := ⟨none, rfl, by simp, .inl rfl⟩
theorem sorts_new (W : World) (ss : List Int) (h : ss.length ≤ 4) (arr : Array Value) (ha : arr = (sorts ss).toArray) : SortsAt (W.alloc (.cells arr 60)) (.slice (some ⟨W.heap.size, 0, none⟩) ss.length ss.length) ss := by
  subst ha
  exact ⟨_, rfl, h, .inr ⟨W.heap.size, rfl, fun j s hs => (row_new W _ _).cell (sorts_at hs)⟩⟩
section
variable {W : World} {n fb gs : Nat} {S : List Int}
def exprF (S : List Int) (op : Int) (zs : List Int) : Bool := if op = 6 then areF S zs [] else if op = 21 then areF S zs [1, 1] else false
def stmtF (S : List Int) (op : Int) (zs : List Int) : Bool := if op = 35 then areF S zs [1] else if op = 47 then !zs.isEmpty && allF S 32 zs else false
set_option maxRecDepth 10000 in
set_option maxHeartbeats 800000 in
theorem expr_any (hF : FS W fb gs S) (v : Value) (zs : List Int) (hz : KidsAt n W v zs) (hn : n ≤ W.heap.size) (hr : ∀ z ∈ zs, 0 ≤ z ∧ z < S.length) (op : Int) (ho : OpOK op) :
    Calls Tryd.prog 40 #[.pointer (some ⟨fb, 0, none⟩), .int .i64 op, v] W fun e w' => e = .returned (.bool (exprF S op zs)) ∧ Below W.heap.size W w' := by
  have HA := hid' (fun (W' : World) (hb : Below W.heap.size W W') (u : Value) (ss : List Int) (hu : SortsAt W' u ss) => are_any (n := n) (hF.keep hb).ptr (hF.keep hb).row v zs (hz.keep (hb.mono hn) (Nat.le_refl _)) hr u ss hu)
  unfold exprF
  clear hF hz hr
  rcases ho with rfl | rfl | rfl | rfl
  · have H1 := hid' (HA.out W (Below.refl _ _) _ _ (sorts_none W))
    rw [if_pos rfl]
    clear HA
    generalize areF S zs [] = r at H1 ⊢
    go_enter Tryd.func40, Tryd.ntmps40
    go_wp2_with fail
    refine (H1.out).mono ?_
    rintro e w2 ⟨rfl, q, rfl⟩
    go_wp2
    go_ret
    exact ⟨rfl, below_drewN (Below.refl _ _) _⟩
  · have H1 := hid' (HA.out _ ((Below.refl _ _).alloc (Nat.le_refl _) _) _ _ (sorts_new W [1, 1] (by simp) #[.int .u16 1, .int .u16 1] rfl))
    rw [if_neg (by decide), if_pos rfl]
    clear HA
    generalize areF S zs [1, 1] = r at H1 ⊢
    go_enter Tryd.func40, Tryd.ntmps40
    go_wp2_with fail
    refine (H1.out).mono ?_
    rintro e w2 ⟨rfl, q, rfl⟩
    go_wp2
    go_ret
    exact ⟨rfl, below_drewN ((Below.refl _ _).alloc (Nat.le_refl _) _) _⟩
  all_goals
    clear HA
    go_enter Tryd.func40, Tryd.ntmps40
    go_wp2
    go_ret
    exact ⟨rfl, Below.refl _ _⟩
set_option maxRecDepth 10000 in
set_option maxHeartbeats 800000 in
theorem stmt_any (hF : FS W fb gs S) (v : Value) (zs : List Int) (hz : KidsAt n W v zs) (hn : n ≤ W.heap.size) (hr : ∀ z ∈ zs, 0 ≤ z ∧ z < S.length) (op : Int) (ho : OpOK op) :
    Calls Tryd.prog 41 #[.pointer (some ⟨fb, 0, none⟩), .int .i64 op, v] W fun e w' => e = .returned (.bool (stmtF S op zs)) ∧ Below W.heap.size W w' := by
  have HA := hid' (fun (W' : World) (hb : Below W.heap.size W W') (u : Value) (ss : List Int) (hu : SortsAt W' u ss) => are_any (n := n) (hF.keep hb).ptr (hF.keep hb).row v zs (hz.keep (hb.mono hn) (Nat.le_refl _)) hr u ss hu)
  have HL := hid' (all_any (n := n) hF.ptr hF.row v zs hz hr 32)
  obtain ⟨ao, cap, rfl, ⟨hcap, hzl⟩, _⟩ := hz
  unfold stmtF
  clear hF hr
  rcases ho with rfl | rfl | rfl | rfl
  · clear HA HL
    go_enter Tryd.func41, Tryd.ntmps41
    go_wp2
    go_ret
    exact ⟨rfl, Below.refl _ _⟩
  · clear HA HL
    go_enter Tryd.func41, Tryd.ntmps41
    go_wp2
    go_ret
    exact ⟨rfl, Below.refl _ _⟩
  · have H1 := hid' (HA.out _ ((Below.refl _ _).alloc (Nat.le_refl _) _) _ _ (sorts_new W [1] (by simp) #[.int .u16 1] rfl))
    rw [if_pos rfl]
    clear HA HL
    generalize areF S zs [1] = r at H1 ⊢
    go_enter Tryd.func41, Tryd.ntmps41
    go_wp2_with fail
    refine (H1.out).mono ?_
    rintro e w2 ⟨rfl, q, rfl⟩
    go_wp2
    go_ret
    exact ⟨rfl, below_drewN ((Below.refl _ _).alloc (Nat.le_refl _) _) _⟩
  · rw [if_neg (by decide), if_pos rfl]
    clear HA
    generalize allF S 32 zs = r at HL ⊢
    by_cases h0 : zs = []
    · subst h0
      clear HL
      go_enter Tryd.func41, Tryd.ntmps41
      go_wp2
      go_ret
      exact ⟨rfl, Below.refl _ _⟩
    · have hp := List.length_pos_iff.2 h0
      have hp' : (0 : Int) < (zs.length : Int) := by omega
      have he : zs.isEmpty = false := by simpa using h0
      rw [he]
      clear he h0
      go_enter Tryd.func41, Tryd.ntmps41
      go_wp2_with fail
      refine (HL.out).mono ?_
      rintro e w2 ⟨rfl, rfl⟩
      go_wp2
      go_ret
      exact ⟨rfl, Below.refl _ _⟩
theorem has_two (S : List Int) (x : Nd) (ho : OpOK x.op) : hasF S x = (exprF S x.op x.kids || stmtF S x.op x.kids) := by
  unfold hasF exprF stmtF
  rcases ho with h | h | h | h <;> rw [h]
  · cases x.kids <;> rfl
  · simp
  · simp
  · simp
set_option maxRecDepth 10000 in
set_option maxHeartbeats 800000 in
theorem has_any (hF : FS W fb gs S) (x : Nd) (v : Value) (hz : KidsAt n W v x.kids) (hn : n ≤ W.heap.size) (hr : ∀ z ∈ x.kids, 0 ≤ z ∧ z < S.length) (ho : OpOK x.op) :
    Calls Tryd.prog 28 #[.pointer (some ⟨fb, 0, none⟩), nodeV x v] W fun e w' => e = .returned (.bool (hasF S x)) ∧ Below W.heap.size W w' := by
  rw [has_two S x ho]
  have hbA : Below W.heap.size W (W.alloc (.cells #[.int .i64 x.op, .int .i64 x.n, .int .i64 x.pos, .string x.s, v] 27)) := (Below.refl _ _).alloc (Nat.le_refl _) _
  have HE := hid' (expr_any (hF.keep hbA) v x.kids (hz.keep (hbA.mono hn) (Nat.le_refl _)) (by simp; omega) hr x.op ho)
  have HT := hid' (fun (W' : World) (hb : Below W.heap.size W W') => stmt_any (hF.keep hb) v x.kids (hz.keep (hb.mono hn) (Nat.le_refl _)) (Nat.le_trans hn hb.size) hr x.op ho)
  have HBA := hid' hbA
  clear hF hz hr hbA ho
  generalize exprF S x.op x.kids = a at HE ⊢
  generalize stmtF S x.op x.kids = b at HT ⊢
  obtain ⟨op, num, pos, s, kids⟩ := x
  unfold nodeV
  simp only at HE HT HBA ⊢
  go_enter Tryd.func28, Tryd.ntmps28
  go_wp2_with fail
  refine (HE.out).mono ?_
  rintro e w2 ⟨rfl, b2⟩
  have hlt : (W.alloc (.cells #[.int .i64 op, .int .i64 num, .int .i64 pos, .string s, v] 27)).heap.size = W.heap.size + 1 := by simp
  have HB2 := hid' (HBA.out.trans (b2.mono (by omega)))
  cases a with
  | true =>
    clear b2 HE HT hlt
    go_wp2
    go_ret
    exact ⟨rfl, HB2.out⟩
  | false =>
    have hr2 : RowV w2 W.heap.size 27 [.int .i64 op, .int .i64 num, .int .i64 pos, .string s, v] := (row_new W _ _).far (b2.block _ (by omega))
    have c0 := hr2.cell (j := 0) rfl
    have c4 := hr2.cell (j := 4) rfl
    have HT2 := hid' (HT.out w2 HB2.out)
    clear b2 HE HT hlt hr2
    go_wp2_with fail
    refine (HT2.out).mono ?_
    rintro e w3 ⟨rfl, b3⟩
    have HB3 := hid' (HB2.out.trans (b3.mono HB2.out.size))
    clear b3
    go_wp2
    go_ret
    exact ⟨by first | rfl | exact ret_bool' (by simp), HB3.out⟩
end
end Go.Proofs.YtnjbhcjdlbmmhaaDoor
