/- Num's Text. Conditions: a Num of at most 10^8 parts; the table of internal/strconv as the program's text lays it. -/
import Derived.Test.YtapdkibiegeijaaDoorNumY
import Derived.Test.YtapdkibiegeijaaDoorNumR
import Derived.Test.YtapdkibiegeijaaDoorTake
import Derived.Lib.ItoaLen
import Derived.Deep.Cut
namespace Go.Proofs.YtapdkibiegeijaaDoor
open Go.RowKit Go.Shelf
attribute [local go_sem] Oper.semAt_some
namespace Nm

def sgnT (neg : Bool) : List UInt8 := if neg then [45] else []
theorem txt_sgnv {neg : Bool} {v : Nat} (h : neg = true → 0 < v) : txt (sgnv neg v) = sgnT neg ++ Lib.decDigits v := by
  cases neg with
  | false => simp [txt, sgnv, sgnT]
  | true =>
    have := h rfl
    simp [txt, sgnv, sgnT]
    omega
/-- What the parts that were told come to. -/
def accN (h : Nat) (pre : List (Nat × Nat)) : Nat := pre.foldl (fun h x => x.2 + 1000000000 * h) h
theorem accN_snoc (h : Nat) (pre : List (Nat × Nat)) (x : Nat × Nat) : accN h (pre ++ [x]) = x.2 + 1000000000 * accN h pre := by simp [accN]
theorem foldr_val (t : List Nat) (h : Nat) : t.foldr (fun x h => x + 1000000000 * h) h = val t + pw t.length * h := by
  induction t with
  | nil => simp [val, pw]
  | cons x t ih => rw [List.foldr_cons, ih, val, List.length_cons, pw]; grind
theorem accN_backs (t : List Nat) (h : Nat) : accN h (backs t) = val t + pw t.length * h := by
  unfold accN backs
  rw [List.foldl_reverse, List.foldr_map, ← foldr_val]
  have e : (List.range t.length).map (fun i => t.getD i 0) = t := by
    apply List.ext_getElem
    · simp
    · intro i h1 h2
      simp [List.getElem?_eq_getElem h2]
  conv => rhs; rw [← e]
  rw [List.foldr_map]
theorem accN_pos {h : Nat} (h0 : 0 < h) (pre : List (Nat × Nat)) : 0 < accN h pre := by
  unfold accN
  induction pre generalizing h with
  | nil => exact h0
  | cons x pre ih => exact ih (h := x.2 + 1000000000 * h) (by omega)
theorem backs_dig {t : List Nat} (hd : Dig t) {x : Nat × Nat} (h : x ∈ backs t) : x.2 < 1000000000 := by
  unfold backs at h
  rw [List.mem_reverse, List.mem_map] at h
  obtain ⟨i, _, rfl⟩ := h
  exact dig_get hd i
theorem val_last (l : List Nat) (n : Nat) (hn : l.length = n + 1) : val (l.take n) + pw (l.take n).length * l.getD n 0 = val l := by
  have := val_take l n
  rw [show l.take (n + 1) = l from List.take_of_length_le (by omega)] at this
  rw [List.length_take, Nat.min_eq_left (by omega)]
  exact this.symm

theorem row_own2 (L : Nat) (v : Value) (bs : List UInt8) : Own (fun (_ : Unit) W => OwnB W L v bs) := fun s X Y row hs hg hr => by
  refine World.ownsRow.kept hs hg ?_
  cases e : v.ownBlock with
  | none => exact .inl rfl
  | some k =>
    refine .inr fun e2 => ?_
    obtain ⟨o, ho, hc⟩ := hr k e2.symm
    rcases hs.2 with ⟨rfl, _⟩ | ⟨g, cap, cur, rfl, _, hgb, _⟩
    · simp [Value.ownBlock] at e
    · simp [Value.ownBlock] at e
      subst e
      rw [hgb] at ho; cases ho; cases hc
/-- What holds between two rounds: B: the block of Text's own first box; X: that of its bytes; C: that of the iterator's parts. -/
structure TxI (w : World) (X C : Nat) (sv : Value) (sg : List UInt8) (h : Nat) (pre : List (Nat × Nat)) (v : Value) (W : World) : Prop where
  box : Boxed W X 72 v
  row : OwnB W (w.heap.size + 1) v (sg ++ Lib.decDigits (accN h pre))
  len : (sg ++ Lib.decDigits (accN h pre)).length ≤ 21 + 9 * pre.length
  clo : Boxed W C 23 sv
  below : Below w.heap.size w W
  size : w.heap.size + 1 ≤ W.heap.size
def TxJ (w : World) (X C : Nat) (sv : Value) (sg : List UInt8) (h : Nat) (pre : List (Nat × Nat)) (W : World) : Prop := ∃ v, TxI w X C sv sg h pre v W
theorem TxJ.own (w : World) (X C : Nat) (sv : Value) (sg : List UInt8) (h K : Nat) (hK : w.heap.size ≤ K) : OwnFrom K (TxJ w X C sv sg h) := by
  rintro pre Z Y row ⟨v, hI⟩ hg hr
  have hr' : ∀ r, row = some r → ∃ o : Obj, Z.heap[r]? = some o ∧ o.isCells = false := fun r e => (hr r e).2
  exact ⟨v, boxed_own _ _ (fun _ : Unit => v) () Z Y row hI.box hg hr', row_own2 _ v _ () Z Y row hI.row hg hr', hI.len, boxed_own _ _ (fun _ : Unit => sv) () Z Y row hI.clo hg hr',
    ownFrom_below (β := Unit) (Nat.le_refl _) hK () Z Y row hI.below hg hr, Nat.le_trans hI.size hg.size⟩
theorem boxed_kept8 {W W' : World} {b : Nat} {t : TypeId} {v : Value} (h : Boxed W b t v) (hk : Lib.OthersKept 5 none W W') (ht : t ≠ 5) : Boxed W' b t v :=
  hk b _ h (by simp) (fun c fz e => by cases e; exact ht rfl)
theorem OwnB.setBox {W : World} {B X : Nat} {v u : Value} {bs : List UInt8} {y : Value} (h : OwnB W B v bs) (hX : Boxed W X 72 y) : OwnB (W.setCell ⟨X, 0, none⟩ u) B v bs := by
  refine ⟨h.1, ?_⟩
  rcases h.2 with h0 | ⟨g, cap, cur, e, hB, hg, h3⟩
  · exact .inl h0
  · refine .inr ⟨g, cap, cur, e, hB, (heap_setCell_other _ _ _ _ (fun e2 => ?_)).trans hg, h3⟩
    have e3 : g = X := e2
    subst e3
    rw [show W.heap[g]? = _ from hX] at hg
    cases hg
/-- A round: the bytes behind, in the box. -/
theorem TxI.next {w W W' : World} {X C h : Nat} {sv v v' : Value} {sg : List UInt8} {pre : List (Nat × Nat)} {x : Nat × Nat} (hI : TxI w X C sv sg h pre v W) (hX : X ≠ C) (hBX : w.heap.size + 1 ≤ X) (h0 : 0 < h) (hx : x.2 < 1000000000)
    (ho : OwnB W' (w.heap.size + 1) v' (sg ++ Lib.decDigits (accN h pre) ++ dN 9 x.2)) (hb : Below (w.heap.size + 1) W W') (hk : Lib.OthersKept 5 none W W') : TxI w X C sv sg h (pre ++ [x]) v' (W'.setCell ⟨X, 0, none⟩ v') := by
  have e : sg ++ Lib.decDigits (accN h (pre ++ [x])) = sg ++ Lib.decDigits (accN h pre) ++ dN 9 x.2 := by
    rw [accN_snoc, dec_part _ _ (accN_pos h0 pre) hx, List.append_assoc]
  have hX' := boxed_kept8 hI.box hk (by decide)
  refine ⟨hX'.set v', by rw [e]; exact ho.setBox hX', ?_, (boxed_kept8 hI.clo hk (by decide)).other (fun e => hX e.symm) v', (hI.below.trans (hb.mono (by omega))).setCell (show w.heap.size ≤ X by omega) _, Nat.le_trans hI.size (Nat.le_trans hb.size (by simp))⟩
  have := hI.len
  rw [e, List.length_append, dN_len]
  simp only [List.length_append, List.length_singleton] at *
  omega
theorem keeps_box {W W' : World} {X : Nat} {v u : Value} (L : Nat) (hX : Boxed W X 72 v) (hz : W.heap.size ≤ W'.heap.size) (hk : Lib.OthersKept 5 none W W') : KeepsFrom L W (W'.setCell ⟨X, 0, none⟩ u) := by
  refine ⟨Nat.le_trans hz (by simp), fun k o _ ho hc => ?_⟩
  have h1 := hk k o ho (by simp) (fun c fz e => by subst e; cases hc)
  refine (heap_setCell_other _ _ _ _ (fun e2 => ?_)).trans h1
  have e3 : k = X := e2
  subst e3
  rw [show W.heap[k]? = _ from hX] at ho
  cases ho
  cases hc
theorem same_box {w W W' : World} {X C h last cap : Nat} {ao : Option Addr} {v u : Value} {sg : List UInt8} {pre : List (Nat × Nat)} (hI : TxI w X C (.slice ao last cap) sg h pre v W) (hX : X ≠ C) (hBX : w.heap.size + 1 ≤ X) (ha : ∀ bk o, ao = some ⟨bk, o, none⟩ → bk < w.heap.size)
    (hb : Below (w.heap.size + 1) W W') (hk : Lib.OthersKept 5 none W W') : Same2 (reads C ao) W (W'.setCell ⟨X, 0, none⟩ u) := by
  refine ⟨fun b o hr => ?_⟩
  have e : ∀ b, b ≠ X → W'.heap[b]? = W.heap[b]? → (W'.setCell ⟨X, 0, none⟩ u).cell? ⟨b, o, none⟩ = W.cell? ⟨b, o, none⟩ := fun b hb h => by
    unfold World.cell?
    rw [heap_setCell_other _ _ _ _ hb, h]
  rcases hr with rfl | ⟨_, o', hao⟩
  · exact e b (fun e => hX e.symm) ((boxed_kept8 hI.clo hk (by decide)).trans (show W.heap[b]? = _ from hI.clo).symm)
  · have := ha b o' hao
    exact e b (by omega) (hb.block b (by omega))

theorem range_slot {P : Program} {m : Nat} {g : Operand} {p q r : Tmp} {assign body : Code} {Q : Exit → Act → World → Prop} {a : Act} {w : World} {gf : Nat} {lb : Array Value}
    (hg : a.eval g = .func (.func gf) #[] lb) (eg : ∀ args w, (callFunc gf args).run P w = .ok (.enter gf args) w) {pr : Nat → Prop} {xs : List (Nat × Nat)} (hpr : ∀ b, pr b → b < w.heap.size)
    (hseq : Gives2 P (m - 1) gf lb pr xs w)
    (I : List (Nat × Nat) → World → Prop) (hI : OwnFrom w.heap.size I) (h0 : I [] w)
    (hassign : ∀ (l : Nat) (x : Nat × Nat) (W : World) (K : Act → World → Prop), K { tmps := ((a.tmps.setIfInBounds p (.int .i64 (x.1 : Int))).setIfInBounds q (.int .u32 (x.2 : Int))).setIfInBounds r (.int .u32 (x.2 : Int)), defers := [] } W →
      assign.wpIn (Fence.wide.inRound l) (m - 1 - 1) P (Exit.then K (fun _ _ _ => False)) { tmps := ((#[p, q] : Array Tmp).zip #[Value.int .i64 (x.1 : Int), Value.int .u32 (x.2 : Int)]).foldl (fun t (p, v) => t.setIfInBounds p v) a.tmps, defers := [] } W)
    (hbody : ∀ (l : Nat) (pre : List (Nat × Nat)) (x : Nat × Nat) (W : World), I pre W → (pre ++ [x]) <+: xs → body.wpIn (Fence.wide.inRound l) (m - 1 - 1) P (on2 w.heap.size pr I (pre ++ [x]) W) { tmps := ((a.tmps.setIfInBounds p (.int .i64 (x.1 : Int))).setIfInBounds q (.int .u32 (x.2 : Int))).setIfInBounds r (.int .u32 (x.2 : Int)), defers := [] } W)
    (hdone : ∀ (W : World), I xs W → W.heap[w.heap.size]? = some (.deferred (some [])) → Q .normal { a with defers := { target := .collected w.heap.size, args := #[] } :: a.defers } W) :
    (Code.rangeFunc g #[p, q] assign body).wpIn Fence.wide m P Q a w := range_two hg eg hpr hseq I hI h0 _ hassign hbody hdone
set_option maxHeartbeats 1600000 in
theorem text_zero (w : World) (ao : Option Addr) (cap : Nat) :
    Calls Tryd.prog 15 #[.agg #[.bool false, .slice ao 0 cap]] w fun e w' => e = .returned (.string ⟨#[48]⟩) ∧ Below w.heap.size w w' := by
  have hb := hidden ((Below.refl w.heap.size w).alloc (Nat.le_refl _) (.cells #[.bool false, .slice ao 0 cap] 25))
  go_enter Tryd.func15, Tryd.ntmps15
  go_wp2
  go_ret
  exact ⟨rfl, hb.out⟩
set_option maxRecDepth 100000 in
set_option maxHeartbeats 3200000 in
theorem text_in (neg : Bool) (ao : Option Addr) (cap n : Nat) (l : List Nat) (w : World) (hn : l.length = n + 1) (hlim : n < 100000000) (hc : n + 1 ≤ cap) (hs : SrcN w ao l) (hd : Dig l) (ht : Trm l) (hT : Tab w) :
    CallsIn Fence.wide 9 Tryd.prog 15 #[.agg #[.bool neg, .slice ao (n + 1) cap]] w fun e w' => e = .returned (.string ⟨(sgnT neg ++ Lib.decDigits (val l)).toArray⟩) ∧ Below w.heap.size w w' := by
  obtain ⟨bk, off, rfl, hbk, hAt⟩ := hs (by omega)
  have hcl := hAt.get n (by omega)
  have hxl := dig_get hd n
  have hx0 : 0 < l.getD n 0 := by
    have := ht (by omega)
    rw [hn, Nat.add_sub_cancel] at this
    omega
  obtain ⟨x, hx⟩ : ∃ x, l.getD n 0 = x := ⟨_, rfl⟩
  rw [hx] at hcl hxl hx0
  have HX := hidden hx
  have HN := hidden hn
  have HS := hidden hs
  have HD := hidden hd
  have HTB := hidden hT
  have HCL := hidden hcl
  have hmk := make_bytes .i64 .i64 0 (1 + 9 * (n + 1)) (by omega) (by omega) 0 (1 + 9 * ((n : Int) + 1)) rfl (by omega)
  clear hx hn hs hd ht hT hcl hAt
  refine callsIn_of_wp_marks Tryd.func15 rfl trivial (wpIn_wide.2 ?_) rfl
  simp only [Tryd.ntmps15, List.size_toArray, List.length_cons, List.length_nil, Nat.reduceAdd, Nat.reduceSub, Array.replicate_succ, Array.replicate_zero, List.push_toArray, List.append_toArray, List.nil_append, List.cons_append]
  have hb3 := fun b => ((((Below.refl w.heap.size w).alloc (Nat.le_refl _) (.cells #[.bool b, .slice (some ⟨bk, off, none⟩) (n + 1) cap] 25)).alloc (by simp) (.cells (zrow (1 + 9 * (n + 1))) 5)).alloc (by simp; omega) (.cells #[.slice (some ⟨w.heap.size + 1, 0, none⟩) 0 (1 + 9 * (n + 1))] 72))
  have ha3 := fun (b : Bool) => (show Blk (((w.alloc (.cells #[.bool b, .slice (some ⟨bk, off, none⟩) (n + 1) cap] 25)).alloc (.cells (zrow (1 + 9 * (n + 1))) 5)).alloc (.cells #[.slice (some ⟨w.heap.size + 1, 0, none⟩) 0 (1 + 9 * (n + 1))] 72)) w.heap.size (.bool b) (.slice (some ⟨bk, off, none⟩) (n + 1) cap) from ((blk_new w _ _).below ((Below.refl _ _).alloc (Nat.le_refl _) _) (by simp)).below ((Below.refl _ _).alloc (Nat.le_refl _) _) (by simp; omega))
  have hx3 := fun (b : Bool) => (show Boxed (((w.alloc (.cells #[.bool b, .slice (some ⟨bk, off, none⟩) (n + 1) cap] 25)).alloc (.cells (zrow (1 + 9 * (n + 1))) 5)).alloc (.cells #[.slice (some ⟨w.heap.size + 1, 0, none⟩) 0 (1 + 9 * (n + 1))] 72)) (w.heap.size + 1 + 1) 72 (.slice (some ⟨w.heap.size + 1, 0, none⟩) 0 (1 + 9 * (n + 1))) from by
    have := heap_alloc_new ((w.alloc (.cells #[.bool b, .slice (some ⟨bk, off, none⟩) (n + 1) cap] 25)).alloc (.cells (zrow (1 + 9 * (n + 1))) 5)) (.cells #[.slice (some ⟨w.heap.size + 1, 0, none⟩) 0 (1 + 9 * (n + 1))] 72)
    rwa [World.size_alloc, World.size_alloc] at this)
  have ho3 := fun (b : Bool) => (show OwnB (((w.alloc (.cells #[.bool b, .slice (some ⟨bk, off, none⟩) (n + 1) cap] 25)).alloc (.cells (zrow (1 + 9 * (n + 1))) 5)).alloc (.cells #[.slice (some ⟨w.heap.size + 1, 0, none⟩) 0 (1 + 9 * (n + 1))] 72)) (w.heap.size + 1) (.slice (some ⟨w.heap.size + 1, 0, none⟩) 0 (1 + 9 * (n + 1))) [] from by
    have := ownB_zeros (w.alloc (.cells #[.bool b, .slice (some ⟨bk, off, none⟩) (n + 1) cap] 25)) (w.heap.size + 1) 0 (1 + 9 * (n + 1)) (by omega) (by omega) (by simp)
    rw [World.size_alloc] at this
    exact this.of_eq fun k _ hk => Below.heap_alloc _ _ k hk)
  have HB3 := hidden hb3
  have HA3 := hidden ha3
  have HX3 := hidden hx3
  have HO3 := hidden ho3
  clear hb3 ha3 hx3 ho3
  cases neg
  · go_wp2
    have HAg := hidden (HA3.out false)
    have HXg := hidden (HX3.out false)
    have HOg := hidden (HO3.out false)
    have HBg := hidden (HB3.out false)
    have hzg : w.heap.size + 3 ≤ (((w.alloc (.cells #[.bool false, .slice (some ⟨bk, off, none⟩) (n + 1) cap] 25)).alloc (.cells (zrow (1 + 9 * (n + 1))) 5)).alloc (.cells #[.slice (some ⟨w.heap.size + 1, 0, none⟩) 0 (1 + 9 * (n + 1))] 72)).heap.size := by simp
    generalize hv0 : (Value.slice (some ⟨w.heap.size + 1, 0, none⟩) 0 (1 + 9 * (n + 1))) = v0 at HAg HXg HOg HBg hzg ⊢
    clear hv0
    generalize ((w.alloc (.cells #[.bool false, .slice (some ⟨bk, off, none⟩) (n + 1) cap] 25)).alloc (.cells (zrow (1 + 9 * (n + 1))) 5)).alloc (.cells #[v0] 72) = Wg at HAg HXg HOg HBg hzg ⊢
    clear HA3 HX3 HO3 HB3 hmk
    obtain ⟨c0, c1, _, _⟩ := HAg.out.facts
    have x0 := HXg.out.cell
    have x1 := HXg.out.frozen
    have hni : ¬ ((n : Int) + 1 ≤ (n : Int)) := by omega
    have HC6 := hidden (fun W' (h : Below (w.heap.size + 1) Wg W') => (show W'.cell? ⟨w.heap.size, 1, none⟩ = some (.slice (some ⟨bk, off, none⟩) (n + 1) cap) ∧ W'.cell? ⟨bk, off + n, none⟩ = some (.int .u32 (x : Int)) ∧ True ∧ True ∧ True ∧ True from
      ⟨(HAg.out.below h (by omega)).facts.2.1, (h.cell (p := ⟨bk, off + n, none⟩) (by show bk < w.heap.size + 1; omega)).trans ((HBg.out.cell (p := ⟨bk, off + n, none⟩) hbk).trans HCL.out), trivial, trivial, trivial, trivial⟩))
    have HTBg := hidden (show Tab Wg.drew from (HTB.out.below HBg.out).below (Below.refl _ _).drew)
    refine wp_region_noPanic ?_
    refine wp_region_held_drew (S := fun W => Below (w.heap.size + 1) Wg W) (by kernel_rfl) (Below.refl _ _).drew (fun hH0 => ?_)
    refine take_val' (i := 1) (v := (.pointer (some ⟨w.heap.size, 1, none⟩))) rfl (by kernel_rfl) (by kernel_rfl) (by kernel_rfl) (some 27) rfl (fun _ _ _ h => h) (Or.inl ⟨by rfl, fun W hW => by go_simp⟩) hH0 ?_
    try simp only [Act.put, List.setIfInBounds_toArray, List.set_cons_zero, List.set_cons_succ]
    refine take_val' (i := 2) (v := (.slice (some ⟨bk, off, none⟩) (n + 1) cap)) rfl (by kernel_rfl) (by kernel_rfl) (by kernel_rfl) (some 28) rfl (fun _ _ _ h => h) (Or.inl ⟨by rfl, fun W hW => by obtain ⟨k0, k1, k2, k3, k4, k5⟩ := HC6.out W hW; go_simp⟩) hH0 ?_
    try simp only [Act.put, List.setIfInBounds_toArray, List.set_cons_zero, List.set_cons_succ]
    refine take_val' (i := 3) (v := (.int .i64 (n : Int))) rfl (by kernel_rfl) (by kernel_rfl) (by kernel_rfl) (some 29) rfl (fun _ _ _ h => h) (Or.inl ⟨by rfl, fun W hW => by go_simp⟩) hH0 ?_
    try simp only [Act.put, List.setIfInBounds_toArray, List.set_cons_zero, List.set_cons_succ]
    refine take_val' (i := 4) (v := (.pointer (some ⟨bk, off + n, none⟩))) rfl (by kernel_rfl) (by kernel_rfl) (by kernel_rfl) (some 30) rfl (fun _ _ _ h => h) (Or.inl ⟨by rfl, fun W hW => by go_simp⟩) hH0 ?_
    try simp only [Act.put, List.setIfInBounds_toArray, List.set_cons_zero, List.set_cons_succ]
    refine take_val' (i := 5) (v := (.int .u32 (x : Int))) rfl (by kernel_rfl) (by kernel_rfl) (by kernel_rfl) (some 31) rfl (fun _ _ _ h => h) (Or.inl ⟨by rfl, fun W hW => by obtain ⟨k0, k1, k2, k3, k4, k5⟩ := HC6.out W hW; go_simp⟩) hH0 ?_
    try simp only [Act.put, List.setIfInBounds_toArray, List.set_cons_zero, List.set_cons_succ]
    refine take_val' (i := 6) (v := (.int .u64 (x : Int))) rfl (by kernel_rfl) (by kernel_rfl) (by kernel_rfl) (some 32) rfl (fun _ _ _ h => h) (Or.inl ⟨by rfl, fun W hW => by have hxw : IntKind.u64.wrap (x : Int) = (x : Int) := (by rw [IntKind.wrap_u64]; omega); go_simp⟩) hH0 ?_
    try simp only [Act.put, List.setIfInBounds_toArray, List.set_cons_zero, List.set_cons_succ]
    refine wpAnyH_ready (rs := [0]) (by kernel_rfl) (by simp) ?_
    refine AllReadyH.cons rfl (fun K hK => ?_) AllReadyH.nil
    go_simp
    refine hK.out _ _ ((Below.refl _ _).drew) (fun hH1 => ?_)
    clear hK K
    try simp only [Act.put, List.setIfInBounds_toArray, List.set_cons_zero, List.set_cons_succ]
    refine wpAnyH_ready (rs := [7]) (by kernel_rfl) (by simp) ?_
    refine AllReadyH.cons rfl (fun K hK => ?_) AllReadyH.nil
    go_simp
    refine (appendUint_any x (w.heap.size + 1) (by omega) v0 (sgnT false) _ (show OwnB Wg.drew (w.heap.size + 1) v0 (sgnT false) from HOg.out) (show w.heap.size + 1 ≤ Wg.heap.size by omega) (by simp [sgnT]) HTBg.out).mono ?_
    rintro e w1 ⟨v1, rfl, ho1, hb1, hk1⟩
    have hB1 := hidden (show Below (w.heap.size + 1) Wg w1 from ((Below.refl _ _).drew).trans hb1)
    have hX1 := boxed_kept8 (show Boxed Wg.drew (w.heap.size + 1 + 1) 72 v0 from HXg.out) hk1 (by decide)
    have HX1 := hidden hX1
    have HO1 := hidden ho1
    obtain ⟨vo, vc, hv1, _, _⟩ := ho1.at
    obtain ⟨m1, hm1⟩ : ∃ m, (sgnT false ++ Lib.decDigits x).length = m := ⟨_, rfl⟩
    rw [hm1] at hv1
    subst hv1
    have f0 := hX1.cell
    have f1 := hX1.frozen
    clear hX1 ho1 hb1 hk1 hm1
    refine hK.out _ _ (hB1.out) (fun hH2 => ?_)
    clear hK K
    try simp only [Act.put, List.setIfInBounds_toArray, List.set_cons_zero, List.set_cons_succ]
    refine wpAnyH_ready (rs := [8]) (by kernel_rfl) (by simp) ?_
    refine AllReadyH.cons rfl (fun K hK => ?_) AllReadyH.nil
    go_simp
    refine hK.out _ _ (Turn.below hB1.out ((Turn.refl (w.heap.size + 1 + 1) w1).setCell 0 (.slice vo m1 vc)) (by omega) (by have := HX1.out.lt; omega)) (fun hH3 => ?_)
    clear hK K
    try simp only [Act.put, List.setIfInBounds_toArray, List.set_cons_zero, List.set_cons_succ]
    refine wpAnyH_done (by kernel_rfl) ?_ _
    refine NoPanic.normal ?_
    have hW2b := hidden (show Below w.heap.size w (w1.setCell ⟨w.heap.size + 1 + 1, 0, none⟩ (.slice vo m1 vc)) from (HBg.out.trans (hB1.out.mono (by omega))).setCell (show w.heap.size ≤ w.heap.size + 1 + 1 by omega) _)
    have hX2 := hidden (HX1.out.set (.slice vo m1 vc))
    have hO2 := hidden (show OwnB (w1.setCell ⟨w.heap.size + 1 + 1, 0, none⟩ (.slice vo m1 vc)) (w.heap.size + 1) (.slice vo m1 vc) (sgnT false ++ Lib.decDigits x) from HO1.out.setBox HX1.out)
    have hA2 := hidden (HAg.out.below (Turn.below hB1.out ((Turn.refl (w.heap.size + 1 + 1) w1).setCell 0 (.slice vo m1 vc)) (by omega) (by have := HX1.out.lt; omega)) (show w.heap.size < w.heap.size + 1 by omega))
    have hz2 : w.heap.size + 3 ≤ (w1.setCell ⟨w.heap.size + 1 + 1, 0, none⟩ (.slice vo m1 vc)).heap.size := by have := hX2.out.lt; omega
    clear c0 c1 x0 x1 f0 f1
    generalize w1.setCell ⟨w.heap.size + 1 + 1, 0, none⟩ (.slice vo m1 vc) = W2 at hW2b hX2 hO2 hA2 hz2 ⊢
    obtain ⟨c0, c1, _, _⟩ := hA2.out.facts
    go_wp2_with fail
    refine (backward_any _ _ _ _).mono ?_
    rintro e w' ⟨rfl, rfl⟩
    go_wp2
    have HX0 := hidden hx0
    have hlen : (l.take n).length = n := by rw [List.length_take, HN.out]; omega
    have hwl := W2.heap.size
    have hcl2 := hidden (show Boxed (W2.alloc (.cells #[.slice (some ⟨bk, off, none⟩) n cap] 23)) W2.heap.size 23 (.slice (some ⟨bk, off, none⟩) n cap) from heap_alloc_new _ _)
    have hgv := backward_gives 8 n cap (some ⟨bk, off, none⟩) (l.take n) W2 hlen (by omega) ((HS.out.below hW2b.out).take n)
    have HLAST := hidden (val_last l n HN.out)
    have hJ0 : TxJ w (w.heap.size + 1 + 1) W2.heap.size (.slice (some ⟨bk, off, none⟩) n cap) (sgnT false) x [] (W2.alloc (.cells #[.slice (some ⟨bk, off, none⟩) n cap] 23)) := by
      refine ⟨.slice vo m1 vc, hX2.out.alloc _, hO2.out.of_eq fun k _ hk => Below.heap_alloc _ _ k hk, ?_, hcl2.out, hW2b.out.alloc hW2b.out.size _, by simp; omega⟩
      rw [List.length_append]
      show (sgnT false).length + (Lib.decDigits x).length ≤ 21 + 9 * 0
      rw [Lib.decDigits_length]
      have := Lib.nDigits_le20 x (by omega)
      simp [sgnT]; omega
    have hpr : ∀ b, reads W2.heap.size (some ⟨bk, off, none⟩) b → b < (W2.alloc (.cells #[.slice (some ⟨bk, off, none⟩) n cap] 23)).heap.size := by
      rintro b (rfl | ⟨_, o, ho⟩)
      · simp
      · cases ho; simp; omega
    clear hX2 hO2 hA2 hcl2
    refine (wpIn_wide (n := 9)).1 (range_slot (m := 9) (r := 6) (gf := 60) rfl (enters_of Tryd.func60 (by kernel_rfl) rfl) hpr hgv (TxJ w (w.heap.size + 1 + 1) W2.heap.size (.slice (some ⟨bk, off, none⟩) n cap) (sgnT false) x) (TxJ.own _ _ _ _ _ _ _ (by simp; omega)) hJ0 ?assign ?body ?done)
    case assign =>
      intro l2 y W K hK
      gi_wp2
      exact hK
    case body =>
      rintro l2 pre y W ⟨v, hI⟩ hpx
      try simp only [List.setIfInBounds_toArray, List.set_cons_zero, List.set_cons_succ]
      have hyb := hpx.subset (show y ∈ pre ++ [y] by simp)
      have hy := backs_dig (dig_take HD.out n) hyb
      have hpl : pre.length ≤ n := by
        have := hpx.length_le
        unfold backs at this
        simp only [List.length_append, List.length_reverse, List.length_map, List.length_range] at this
        omega
      obtain ⟨vo2, vc2, hv2, _, _⟩ := hI.row.at
      obtain ⟨m2, hm2⟩ : ∃ m, (sgnT false ++ Lib.decDigits (accN x pre)).length = m := ⟨_, rfl⟩
      rw [hm2] at hv2
      subst hv2
      have hbx := hI.box.cell
      have HI := hidden hI
      have HAP := hidden (appendPart_any y.2 (w.heap.size + 1) hy _ _ W hI.row hI.size (by have := hI.len; omega))
      have hpy := hidden (List.IsPrefix.length_le hpx)
      clear hI hm2 hyb hpx hgv hJ0 hpr
      gi_wp2
      refine ⟨trivial, (CallsIn.inRound l2 (callsIn_wide.2 HAP.out)).mono ?_⟩
      rintro e w5 ⟨v5, rfl, ho5, hb5, hk5⟩
      have hnx := HI.out.next (by omega) (by omega) HX0.out hy ho5 hb5 hk5
      have hsm := same_box (u := v5) HI.out (by omega) (by omega) (fun b o h => by cases h; exact hbk) hb5 hk5
      have hkp := keeps_box (u := v5) (W2.heap.size + 1) HI.out.box hb5.size hk5
      have hX5 := boxed_kept8 HI.out.box hk5 (by decide)
      have f0 := hX5.cell
      have f1 := hX5.frozen
      obtain ⟨vo3, vc3, hv3, _, _⟩ := ho5.at
      obtain ⟨m3, hm3⟩ : ∃ m, (sgnT false ++ Lib.decDigits (accN x pre) ++ dN 9 y.2).length = m := ⟨_, rfl⟩
      rw [hm3] at hv3
      subst hv3
      have HNX := hidden hnx
      have HSM := hidden hsm
      have HKP := hidden hkp
      clear hnx hsm hkp hX5 ho5 hb5 hk5 hm3
      gi_wp2
      exact ⟨by rw [World.size_alloc]; exact HKP.out, HSM.out, _, HNX.out⟩
    case done =>
      rintro W ⟨v, hI⟩ hK
      have hacc : accN x (backs (l.take n)) = val l := by rw [accN_backs, ← HX.out]; exact HLAST.out
      have hrow := hI.row
      rw [hacc] at hrow
      obtain ⟨vo2, vc2, hv2, _, hat⟩ := hrow.at
      have hlen0 : 0 < (sgnT false ++ Lib.decDigits (val l)).length := by
        rw [List.length_append, Lib.decDigits_length]
        have := Lib.nDigits_pos (val l)
        omega
      obtain ⟨g, rfl, _, _, hA⟩ := hat hlen0
      subst hv2
      have hcv := conv_back W g (sgnT false ++ Lib.decDigits (val l)).length vc2 (sgnT false ++ Lib.decDigits (val l)) rfl hA
      have hbx := hI.box.cell
      have HI := hidden hI
      have HK := hidden hK
      generalize (sgnT false ++ Lib.decDigits (val l)).length = m2 at hcv hbx HI
      clear hI hK hat hA hrow hacc hlen0 hgv hJ0 hpr
      have hWs : w.heap.size + 1 ≤ W.heap.size := HI.out.size
      go_wp2
      refine ⟨by simp, .inl ⟨_, _, rfl, run_takeDeferred HK.out, ?_⟩⟩
      refine ⟨.string ⟨(sgnT false ++ Lib.decDigits (val l)).toArray⟩, by simp [results, Tryd.results15, go_sem], rfl, ?_⟩
      exact HI.out.below.trans ((Below.refl w.heap.size _).grown (grownBy_putObj' _ _ _) (by omega) (fun j e => by cases e; simp; omega))
  · go_upto_region 5 with fail
    have HAg := hidden (HA3.out true)
    have HXg := hidden (HX3.out true)
    have HOg := hidden (HO3.out true)
    have HBg := hidden (HB3.out true)
    have hzg : w.heap.size + 3 ≤ (((w.alloc (.cells #[.bool true, .slice (some ⟨bk, off, none⟩) (n + 1) cap] 25)).alloc (.cells (zrow (1 + 9 * (n + 1))) 5)).alloc (.cells #[.slice (some ⟨w.heap.size + 1, 0, none⟩) 0 (1 + 9 * (n + 1))] 72)).heap.size := by simp
    generalize hv0 : (Value.slice (some ⟨w.heap.size + 1, 0, none⟩) 0 (1 + 9 * (n + 1))) = v0 at HAg HXg HOg HBg hzg ⊢
    clear hv0
    generalize ((w.alloc (.cells #[.bool true, .slice (some ⟨bk, off, none⟩) (n + 1) cap] 25)).alloc (.cells (zrow (1 + 9 * (n + 1))) 5)).alloc (.cells #[v0] 72) = Wf at HAg HXg HOg HBg hzg ⊢
    clear HA3 HX3 HO3 HB3 hmk
    have x0 := HXg.out.cell
    have x1 := HXg.out.frozen
    obtain ⟨c0, c1, _, _⟩ := HAg.out.facts
    have HL := hidden (lit_byte Wf 45 45 rfl)
    have HO4 := hidden (HOg.out.of_eq (W' := Wf.alloc (.cells #[.int .u8 45] 5)) fun k _ hk => Below.heap_alloc Wf _ k hk)
    have HX4 := hidden (show Boxed (Wf.alloc (.cells #[.int .u8 45] 5)) (w.heap.size + 1 + 1) 72 v0 from HXg.out.alloc _)
    have HB4 := hidden ((Below.refl (w.heap.size + 1) Wf).alloc (show w.heap.size + 1 ≤ Wf.heap.size by omega) (.cells #[.int .u8 45] 5))
    go_wp2_with (at_builtin; refine append_bytes (Wf.alloc (.cells #[.int .u8 45] 5)) rfl (.tmp 19) (.tmp 20) rfl (w.heap.size + 1) v0 [] [45] rfl HO4.out Wf.heap.size 0 1 1 rfl rfl HL.out (by simp) (by simp; omega) ?_; intro v6 w6 h1 h2 h3; have HX6 := hidden (boxed_kept8 HX4.out h3 (by decide)); have HO6 := hidden h1; have HB6 := hidden (HB4.out.trans h2); obtain ⟨vo6, vc6, hv6, _, _⟩ := h1.at; subst hv6; have f0 := HX6.out.cell; have f1 := HX6.out.frozen; obtain ⟨c2, c3, _, _⟩ := (HAg.out.below HB6.out (by omega)).facts; clear h1 h2 h3)
    have HA7 := hidden (HAg.out.below (Turn.below HB6.out ((Turn.refl (w.heap.size + 1 + 1) w6).setCell 0 (.slice vo6 1 vc6)) (by omega) (by have := HX6.out.lt; omega)) (show w.heap.size < w.heap.size + 1 by omega))
    have HX7 := hidden (HX6.out.set (.slice vo6 1 vc6))
    have HO7 := hidden (show OwnB (w6.setCell ⟨w.heap.size + 1 + 1, 0, none⟩ (.slice vo6 1 vc6)) (w.heap.size + 1) (.slice vo6 1 vc6) (sgnT true) from HO6.out.setBox HX6.out)
    have HB7 := hidden (show Below w.heap.size w (w6.setCell ⟨w.heap.size + 1 + 1, 0, none⟩ (.slice vo6 1 vc6)) from Turn.below (HBg.out.trans (HB6.out.mono (by omega))) ((Turn.refl (w.heap.size + 1 + 1) w6).setCell 0 _) (by omega) (by have := HX6.out.lt; omega))
    have hz7 : w.heap.size + 3 ≤ (w6.setCell ⟨w.heap.size + 1 + 1, 0, none⟩ (.slice vo6 1 vc6)).heap.size := by have := HX7.out.lt; omega
    clear HAg HXg HOg HBg hzg x0 x1 c0 c1 f0 f1 c2 c3 HX6 HO6 HB6 HL HO4 HX4 HB4
    have HAg := HA7
    have HXg := HX7
    have HOg := HO7
    have HBg := HB7
    have hzg := hz7
    clear HA7 HX7 HO7 HB7 hz7
    generalize w6.setCell ⟨w.heap.size + 1 + 1, 0, none⟩ (.slice vo6 1 vc6) = Wg at HAg HXg HOg HBg hzg ⊢
    obtain ⟨c0, c1, _, _⟩ := HAg.out.facts
    have x0 := HXg.out.cell
    have x1 := HXg.out.frozen
    have hni : ¬ ((n : Int) + 1 ≤ (n : Int)) := by omega
    have HC6 := hidden (fun W' (h : Below (w.heap.size + 1) Wg W') => (show W'.cell? ⟨w.heap.size, 1, none⟩ = some (.slice (some ⟨bk, off, none⟩) (n + 1) cap) ∧ W'.cell? ⟨bk, off + n, none⟩ = some (.int .u32 (x : Int)) ∧ True ∧ True ∧ True ∧ True from
      ⟨(HAg.out.below h (by omega)).facts.2.1, (h.cell (p := ⟨bk, off + n, none⟩) (by show bk < w.heap.size + 1; omega)).trans ((HBg.out.cell (p := ⟨bk, off + n, none⟩) hbk).trans HCL.out), trivial, trivial, trivial, trivial⟩))
    have HTBg := hidden (show Tab Wg.drew from (HTB.out.below HBg.out).below (Below.refl _ _).drew)
    refine wp_region_noPanic ?_
    refine wp_region_held_drew (S := fun W => Below (w.heap.size + 1) Wg W) (by kernel_rfl) (Below.refl _ _).drew (fun hH0 => ?_)
    refine take_val' (i := 1) (v := (.pointer (some ⟨w.heap.size, 1, none⟩))) rfl (by kernel_rfl) (by kernel_rfl) (by kernel_rfl) (some 27) rfl (fun _ _ _ h => h) (Or.inl ⟨by rfl, fun W hW => by go_simp⟩) hH0 ?_
    try simp only [Act.put, List.setIfInBounds_toArray, List.set_cons_zero, List.set_cons_succ]
    refine take_val' (i := 2) (v := (.slice (some ⟨bk, off, none⟩) (n + 1) cap)) rfl (by kernel_rfl) (by kernel_rfl) (by kernel_rfl) (some 28) rfl (fun _ _ _ h => h) (Or.inl ⟨by rfl, fun W hW => by obtain ⟨k0, k1, k2, k3, k4, k5⟩ := HC6.out W hW; go_simp⟩) hH0 ?_
    try simp only [Act.put, List.setIfInBounds_toArray, List.set_cons_zero, List.set_cons_succ]
    refine take_val' (i := 3) (v := (.int .i64 (n : Int))) rfl (by kernel_rfl) (by kernel_rfl) (by kernel_rfl) (some 29) rfl (fun _ _ _ h => h) (Or.inl ⟨by rfl, fun W hW => by go_simp⟩) hH0 ?_
    try simp only [Act.put, List.setIfInBounds_toArray, List.set_cons_zero, List.set_cons_succ]
    refine take_val' (i := 4) (v := (.pointer (some ⟨bk, off + n, none⟩))) rfl (by kernel_rfl) (by kernel_rfl) (by kernel_rfl) (some 30) rfl (fun _ _ _ h => h) (Or.inl ⟨by rfl, fun W hW => by go_simp⟩) hH0 ?_
    try simp only [Act.put, List.setIfInBounds_toArray, List.set_cons_zero, List.set_cons_succ]
    refine take_val' (i := 5) (v := (.int .u32 (x : Int))) rfl (by kernel_rfl) (by kernel_rfl) (by kernel_rfl) (some 31) rfl (fun _ _ _ h => h) (Or.inl ⟨by rfl, fun W hW => by obtain ⟨k0, k1, k2, k3, k4, k5⟩ := HC6.out W hW; go_simp⟩) hH0 ?_
    try simp only [Act.put, List.setIfInBounds_toArray, List.set_cons_zero, List.set_cons_succ]
    refine take_val' (i := 6) (v := (.int .u64 (x : Int))) rfl (by kernel_rfl) (by kernel_rfl) (by kernel_rfl) (some 32) rfl (fun _ _ _ h => h) (Or.inl ⟨by rfl, fun W hW => by have hxw : IntKind.u64.wrap (x : Int) = (x : Int) := (by rw [IntKind.wrap_u64]; omega); go_simp⟩) hH0 ?_
    try simp only [Act.put, List.setIfInBounds_toArray, List.set_cons_zero, List.set_cons_succ]
    refine wpAnyH_ready (rs := [0]) (by kernel_rfl) (by simp) ?_
    refine AllReadyH.cons rfl (fun K hK => ?_) AllReadyH.nil
    go_simp
    refine hK.out _ _ ((Below.refl _ _).drew) (fun hH1 => ?_)
    clear hK K
    try simp only [Act.put, List.setIfInBounds_toArray, List.set_cons_zero, List.set_cons_succ]
    refine wpAnyH_ready (rs := [7]) (by kernel_rfl) (by simp) ?_
    refine AllReadyH.cons rfl (fun K hK => ?_) AllReadyH.nil
    go_simp
    refine (appendUint_any x (w.heap.size + 1) (by omega) (.slice vo6 1 vc6) (sgnT true) _ (show OwnB Wg.drew (w.heap.size + 1) (.slice vo6 1 vc6) (sgnT true) from HOg.out) (show w.heap.size + 1 ≤ Wg.heap.size by omega) (by simp [sgnT]) HTBg.out).mono ?_
    rintro e w1 ⟨v1, rfl, ho1, hb1, hk1⟩
    have hB1 := hidden (show Below (w.heap.size + 1) Wg w1 from ((Below.refl _ _).drew).trans hb1)
    have hX1 := boxed_kept8 (show Boxed Wg.drew (w.heap.size + 1 + 1) 72 (.slice vo6 1 vc6) from HXg.out) hk1 (by decide)
    have HX1 := hidden hX1
    have HO1 := hidden ho1
    obtain ⟨vo, vc, hv1, _, _⟩ := ho1.at
    obtain ⟨m1, hm1⟩ : ∃ m, (sgnT true ++ Lib.decDigits x).length = m := ⟨_, rfl⟩
    rw [hm1] at hv1
    subst hv1
    have f0 := hX1.cell
    have f1 := hX1.frozen
    clear hX1 ho1 hb1 hk1 hm1
    refine hK.out _ _ (hB1.out) (fun hH2 => ?_)
    clear hK K
    try simp only [Act.put, List.setIfInBounds_toArray, List.set_cons_zero, List.set_cons_succ]
    refine wpAnyH_ready (rs := [8]) (by kernel_rfl) (by simp) ?_
    refine AllReadyH.cons rfl (fun K hK => ?_) AllReadyH.nil
    go_simp
    refine hK.out _ _ (Turn.below hB1.out ((Turn.refl (w.heap.size + 1 + 1) w1).setCell 0 (.slice vo m1 vc)) (by omega) (by have := HX1.out.lt; omega)) (fun hH3 => ?_)
    clear hK K
    try simp only [Act.put, List.setIfInBounds_toArray, List.set_cons_zero, List.set_cons_succ]
    refine wpAnyH_done (by kernel_rfl) ?_ _
    refine NoPanic.normal ?_
    have hW2b := hidden (show Below w.heap.size w (w1.setCell ⟨w.heap.size + 1 + 1, 0, none⟩ (.slice vo m1 vc)) from (HBg.out.trans (hB1.out.mono (by omega))).setCell (show w.heap.size ≤ w.heap.size + 1 + 1 by omega) _)
    have hX2 := hidden (HX1.out.set (.slice vo m1 vc))
    have hO2 := hidden (show OwnB (w1.setCell ⟨w.heap.size + 1 + 1, 0, none⟩ (.slice vo m1 vc)) (w.heap.size + 1) (.slice vo m1 vc) (sgnT true ++ Lib.decDigits x) from HO1.out.setBox HX1.out)
    have hA2 := hidden (HAg.out.below (Turn.below hB1.out ((Turn.refl (w.heap.size + 1 + 1) w1).setCell 0 (.slice vo m1 vc)) (by omega) (by have := HX1.out.lt; omega)) (show w.heap.size < w.heap.size + 1 by omega))
    have hz2 : w.heap.size + 3 ≤ (w1.setCell ⟨w.heap.size + 1 + 1, 0, none⟩ (.slice vo m1 vc)).heap.size := by have := hX2.out.lt; omega
    clear c0 c1 x0 x1 f0 f1
    generalize w1.setCell ⟨w.heap.size + 1 + 1, 0, none⟩ (.slice vo m1 vc) = W2 at hW2b hX2 hO2 hA2 hz2 ⊢
    obtain ⟨c0, c1, _, _⟩ := hA2.out.facts
    go_wp2_with fail
    refine (backward_any _ _ _ _).mono ?_
    rintro e w' ⟨rfl, rfl⟩
    go_wp2
    have HX0 := hidden hx0
    have hlen : (l.take n).length = n := by rw [List.length_take, HN.out]; omega
    have hwl := W2.heap.size
    have hcl2 := hidden (show Boxed (W2.alloc (.cells #[.slice (some ⟨bk, off, none⟩) n cap] 23)) W2.heap.size 23 (.slice (some ⟨bk, off, none⟩) n cap) from heap_alloc_new _ _)
    have hgv := backward_gives 8 n cap (some ⟨bk, off, none⟩) (l.take n) W2 hlen (by omega) ((HS.out.below hW2b.out).take n)
    have HLAST := hidden (val_last l n HN.out)
    have hJ0 : TxJ w (w.heap.size + 1 + 1) W2.heap.size (.slice (some ⟨bk, off, none⟩) n cap) (sgnT true) x [] (W2.alloc (.cells #[.slice (some ⟨bk, off, none⟩) n cap] 23)) := by
      refine ⟨.slice vo m1 vc, hX2.out.alloc _, hO2.out.of_eq fun k _ hk => Below.heap_alloc _ _ k hk, ?_, hcl2.out, hW2b.out.alloc hW2b.out.size _, by simp; omega⟩
      rw [List.length_append]
      show (sgnT true).length + (Lib.decDigits x).length ≤ 21 + 9 * 0
      rw [Lib.decDigits_length]
      have := Lib.nDigits_le20 x (by omega)
      simp [sgnT]; omega
    have hpr : ∀ b, reads W2.heap.size (some ⟨bk, off, none⟩) b → b < (W2.alloc (.cells #[.slice (some ⟨bk, off, none⟩) n cap] 23)).heap.size := by
      rintro b (rfl | ⟨_, o, ho⟩)
      · simp
      · cases ho; simp; omega
    clear hX2 hO2 hA2 hcl2
    refine (wpIn_wide (n := 9)).1 (range_slot (m := 9) (r := 6) (gf := 60) rfl (enters_of Tryd.func60 (by kernel_rfl) rfl) hpr hgv (TxJ w (w.heap.size + 1 + 1) W2.heap.size (.slice (some ⟨bk, off, none⟩) n cap) (sgnT true) x) (TxJ.own _ _ _ _ _ _ _ (by simp; omega)) hJ0 ?assign ?body ?done)
    case assign =>
      intro l2 y W K hK
      gi_wp2
      exact hK
    case body =>
      rintro l2 pre y W ⟨v, hI⟩ hpx
      try simp only [List.setIfInBounds_toArray, List.set_cons_zero, List.set_cons_succ]
      have hyb := hpx.subset (show y ∈ pre ++ [y] by simp)
      have hy := backs_dig (dig_take HD.out n) hyb
      have hpl : pre.length ≤ n := by
        have := hpx.length_le
        unfold backs at this
        simp only [List.length_append, List.length_reverse, List.length_map, List.length_range] at this
        omega
      obtain ⟨vo2, vc2, hv2, _, _⟩ := hI.row.at
      obtain ⟨m2, hm2⟩ : ∃ m, (sgnT true ++ Lib.decDigits (accN x pre)).length = m := ⟨_, rfl⟩
      rw [hm2] at hv2
      subst hv2
      have hbx := hI.box.cell
      have HI := hidden hI
      have HAP := hidden (appendPart_any y.2 (w.heap.size + 1) hy _ _ W hI.row hI.size (by have := hI.len; omega))
      have hpy := hidden (List.IsPrefix.length_le hpx)
      clear hI hm2 hyb hpx hgv hJ0 hpr
      gi_wp2
      refine ⟨trivial, (CallsIn.inRound l2 (callsIn_wide.2 HAP.out)).mono ?_⟩
      rintro e w5 ⟨v5, rfl, ho5, hb5, hk5⟩
      have hnx := HI.out.next (by omega) (by omega) HX0.out hy ho5 hb5 hk5
      have hsm := same_box (u := v5) HI.out (by omega) (by omega) (fun b o h => by cases h; exact hbk) hb5 hk5
      have hkp := keeps_box (u := v5) (W2.heap.size + 1) HI.out.box hb5.size hk5
      have hX5 := boxed_kept8 HI.out.box hk5 (by decide)
      have f0 := hX5.cell
      have f1 := hX5.frozen
      obtain ⟨vo3, vc3, hv3, _, _⟩ := ho5.at
      obtain ⟨m3, hm3⟩ : ∃ m, (sgnT true ++ Lib.decDigits (accN x pre) ++ dN 9 y.2).length = m := ⟨_, rfl⟩
      rw [hm3] at hv3
      subst hv3
      have HNX := hidden hnx
      have HSM := hidden hsm
      have HKP := hidden hkp
      clear hnx hsm hkp hX5 ho5 hb5 hk5 hm3
      gi_wp2
      exact ⟨by rw [World.size_alloc]; exact HKP.out, HSM.out, _, HNX.out⟩
    case done =>
      rintro W ⟨v, hI⟩ hK
      have hacc : accN x (backs (l.take n)) = val l := by rw [accN_backs, ← HX.out]; exact HLAST.out
      have hrow := hI.row
      rw [hacc] at hrow
      obtain ⟨vo2, vc2, hv2, _, hat⟩ := hrow.at
      have hlen0 : 0 < (sgnT true ++ Lib.decDigits (val l)).length := by
        rw [List.length_append, Lib.decDigits_length]
        have := Lib.nDigits_pos (val l)
        omega
      obtain ⟨g, rfl, _, _, hA⟩ := hat hlen0
      subst hv2
      have hcv := conv_back W g (sgnT true ++ Lib.decDigits (val l)).length vc2 (sgnT true ++ Lib.decDigits (val l)) rfl hA
      have hbx := hI.box.cell
      have HI := hidden hI
      have HK := hidden hK
      generalize (sgnT true ++ Lib.decDigits (val l)).length = m2 at hcv hbx HI
      clear hI hK hat hA hrow hacc hlen0 hgv hJ0 hpr
      have hWs : w.heap.size + 1 ≤ W.heap.size := HI.out.size
      go_wp2
      refine ⟨by simp, .inl ⟨_, _, rfl, run_takeDeferred HK.out, ?_⟩⟩
      refine ⟨.string ⟨(sgnT true ++ Lib.decDigits (val l)).toArray⟩, by simp [results, Tryd.results15, go_sem], rfl, ?_⟩
      exact HI.out.below.trans ((Below.refl w.heap.size _).grown (grownBy_putObj' _ _ _) (by omega) (fun j e => by cases e; simp; omega))
theorem text_any (a : Value) (x : Int) (k : Nat) (w : World) (h : NumAt w a x k) (hk : k < 100000000) (hT : Tab w) :
    Calls Tryd.prog 15 #[a] w fun e w' => e = .returned (.string ⟨(txt x).toArray⟩) ∧ Below w.heap.size w w' := by
  obtain ⟨neg, ao, cap, l, rfl, hc, hs, hd, ht, hl, hp, rfl⟩ := h
  by_cases h0 : l.length = 0
  · obtain rfl : l = [] := List.length_eq_zero_iff.1 h0
    have hn : neg = false := by
      cases neg with
      | false => rfl
      | true => exact absurd (hp rfl) (by simp)
    subst hn
    have e : txt (sgnv false (val [])) = [48] := by decide +kernel
    rw [e]
    exact text_zero w ao cap
  · obtain ⟨n, hn⟩ : ∃ n, l.length = n + 1 := ⟨l.length - 1, by omega⟩
    rw [txt_sgnv (fun h => val_pos ht (hp h))]
    have := callsIn_wide.1 (text_in neg ao cap n l w hn (by omega) (by omega) hs hd ht hT)
    rw [hn]
    exact this
end Nm
end Go.Proofs.YtapdkibiegeijaaDoor
