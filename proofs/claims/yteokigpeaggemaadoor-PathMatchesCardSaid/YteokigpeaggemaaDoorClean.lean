/- What path.Clean answers at every text. Conditions: a text of fewer than 2^31 bytes; internal/bytealg.MaxLen holds some number, smithy/api.ErrPath the value that is told. -/
import Derived.Test.YteokigpeaggemaaDoorSeq
import Derived.Test.YteokigpeaggemaaDoorLastByte
import Derived.Test.YteokigpeaggemaaDoorCleanPlain
import Derived.Test.YteokigpeaggemaaDoorMatchAll
import Derived.Maps.AppendAt
import Derived.Deep.DeepMust
import Derived.Lib.BufferRead
import Derived.Laws.IdiomStrings
import Derived.Test.YteokigpeaggemaaDoorCleanLaw
namespace Go.Proofs.YteokigpeaggemaaDoor
open Go.RowKit Go.Shelf
attribute [local go_sem] Oper.semAt_some

def lists (ts : List ByteArray) : List (List UInt8) := ts.map fun t => t.data.toList
theorem lists_texts (l : List UInt8) : lists (texts l) = Pth.parts l := by
  unfold lists texts; rw [List.map_map]
  have : ((fun t : ByteArray => t.data.toList) ∘ fun p : List UInt8 => (⟨p.toArray⟩ : ByteArray)) = id := by funext p; simp
  rw [this, List.map_id]
def bytesV (l : List UInt8) : List Value := l.map fun b => Value.int .u8 (b.toNat : Int)
def cleanPost (ev : Value) (s : ByteArray) (w : World) (e : Ending) (w' : World) : Prop :=
  e = .returned (.tuple (match Cln.clean s.data.toList with
    | some l => #[.string ⟨l.toArray⟩, .nilIface]
    | none => #[.string ⟨#[]⟩, ev])) ∧ Below w.heap.size w w'

/-- What holds between two rounds: B: the block of the first of Clean's variables; L: where the rows begin. -/
structure Inv (B L : Nat) (w : World) (acc : List UInt8) (v : Value) (W : World) : Prop where
  box : Boxed W (B + 1 + 1) 53 v
  row : W.ownsRow L 5 1 v acc.length (bytesV acc)
  res : Boxed W B 9 (.string ⟨#[]⟩)
  err : Boxed W (B + 1) 25 .nilIface
  below : Below B w W
  size : L ≤ W.heap.size
def InvI (B L : Nat) (w : World) (pre : List ByteArray) (W : World) : Prop := ∃ acc v, Cln.run (lists pre) = some acc ∧ Inv B L w acc v W
structure InvX (B : Nat) (ev : Value) (w : World) (c : Code) (pre : List ByteArray) (W : World) : Prop where
  isRet : c = .ret
  none : Cln.run (lists pre) = none
  res : Boxed W B 9 (.string ⟨#[]⟩)
  err : Boxed W (B + 1) 25 ev
  below : Below B w W

theorem Inv.step {B L : Nat} {w W W' : World} {acc acc' : List UInt8} {v v' : Value} (h : Inv B L w acc v W) (hBL : B + 3 ≤ L) (hs : Stp.Step L (B + 1 + 1) W W') (hb : Boxed W' (B + 1 + 1) 53 v') (hr : W'.ownsRow L 5 1 v' acc'.length (bytesV acc')) : Inv B L w acc' v' W' :=
  ⟨hb, hr, hs.box h.res (by omega) (by omega), hs.box h.err (by omega) (by omega), h.below.trans (hs.below (by omega) (by omega) (by have := h.size; omega)), Nat.le_trans h.size hs.keeps.size⟩
theorem row_own (L : Nat) (v : Value) (n : Nat) (xs : List Value) : Own (fun (_ : Unit) W => W.ownsRow L 5 1 v n xs) := fun s X Y row hs hg hr => by
  refine hs.kept hg ?_
  cases e : v.ownBlock with
  | none => exact .inl rfl
  | some k =>
    refine .inr fun e2 => ?_
    obtain ⟨o, ho, hc⟩ := hr k e2.symm
    rcases hs.2 with ⟨rfl, _⟩ | ⟨g, cap, cur, rfl, _, hgb, _⟩
    · simp [Value.ownBlock] at e
    · simp [Value.ownBlock] at e
      subst e
      rw [hgb] at ho; cases ho; cases hc
theorem InvI.own (B L : Nat) (w : World) (K : Nat) (hw : B ≤ w.heap.size) (hK : B ≤ K) : OwnFrom K (InvI B L w) := by
  rintro pre X Y row ⟨acc, v, hrun, h⟩ hg hr
  have hr' : ∀ r, row = some r → ∃ o : Obj, X.heap[r]? = some o ∧ o.isCells = false := fun r e => (hr r e).2
  exact ⟨acc, v, hrun, boxed_own _ _ (fun _ : Unit => v) () X Y row h.box hg hr', row_own L v _ _ () X Y row h.row hg hr', boxed_own _ _ (fun _ : Unit => _) () X Y row h.res hg hr', boxed_own _ _ (fun _ : Unit => _) () X Y row h.err hg hr',
    ownFrom_below (β := Unit) hw hK () X Y row h.below hg hr, Nat.le_trans h.size hg.size⟩
theorem InvX.own (B : Nat) (ev : Value) (w : World) (c : Code) (K : Nat) (hw : B ≤ w.heap.size) (hK : B ≤ K) : OwnFrom K (InvX B ev w c) := by
  rintro pre X Y row h hg hr
  have hr' : ∀ r, row = some r → ∃ o : Obj, X.heap[r]? = some o ∧ o.isCells = false := fun r e => (hr r e).2
  exact ⟨h.isRet, h.none, boxed_own _ _ (fun _ : Unit => _) () X Y row h.res hg hr', boxed_own _ _ (fun _ : Unit => _) () X Y row h.err hg hr', ownFrom_below (β := Unit) hw hK () X Y row h.below hg hr⟩
theorem InvI.set (B L : Nat) (w : World) (lo : Nat) (hlo : B + 1 + 1 < lo) (hL : lo < L) (pre : List ByteArray) (W : World) (u : Value) (h : InvI B L w pre W) : InvI B L w pre (W.setCell ⟨lo, 0, none⟩ u) := by
  obtain ⟨acc, v, hrun, h⟩ := h
  exact ⟨acc, v, hrun, h.box.other (by omega) u, Stp.row_set hL h.row, h.res.other (by omega) u, h.err.other (by omega) u, h.below.setCell (p := ⟨lo, 0, none⟩) (by show B ≤ lo; omega) u, Nat.le_trans h.size (by simp)⟩

theorem left_err {B L L0 lo hi : Nat} {w W : World} {ev : Value} {acc : List UInt8} {v : Value} {pre : List ByteArray} (a : Act) (hI : Inv B L w acc v W) (hrun : Cln.run (lists pre) = none) :
    Rng.left L0 lo hi (InvI B L w) (InvX B ev w) pre W .ret a (((W.setCell ⟨B, 0, none⟩ (.string ⟨#[]⟩)).setCell ⟨B + 1, 0, none⟩ ev).drew) :=
  ⟨(((KeepsOthers.setCell _ _ _).trans (KeepsOthers.setCell _ _ _)).trans (KeepsOthers.drew _)).from _,
    rfl, hrun, (hI.res.set (.string ⟨#[]⟩)).other (by omega) ev, (hI.err.other (by omega) (.string ⟨#[]⟩)).set ev,
    ((hI.below.setCell (p := ⟨B, 0, none⟩) (Nat.le_refl _) _).setCell (p := ⟨B + 1, 0, none⟩) (by show B ≤ B + 1; omega) _).drew⟩

theorem info_byte : (Tryd.prog.info? 5).map (fun i => (i.zero, i.size, i.bytes)) = some (some (.int .u8 0), 1, 1) := by kernel_rfl
theorem first_part {w1 : World} {L : Nat} {v' : Value} {x : ByteArray} (h : w1.ownsRow L 5 1 v' (([] : List UInt8).length + x.size) (bytesV [] ++ Lib.strCells x)) : w1.ownsRow L 5 1 v' x.size (bytesV x.data.toList) := by
  simpa [bytesV, Lib.strCells] using h
theorem stroke {w1 : World} {L : Nat} {v' : Value} {acc : List UInt8} (h : w1.ownsRow L 5 1 v' (acc.length + 1) (bytesV acc ++ [.int .u8 47])) : w1.ownsRow L 5 1 v' (acc.length + 1) (bytesV (acc ++ [47])) := by
  simpa [bytesV] using h
theorem next_part {w1 : World} {L : Nat} {v' : Value} {acc : List UInt8} {x : ByteArray} (h : w1.ownsRow L 5 1 v' (acc.length + 1 + x.size) (bytesV (acc ++ [47]) ++ Lib.strCells x)) : w1.ownsRow L 5 1 v' (acc.length + 1 + x.size) (bytesV (acc ++ [47] ++ x.data.toList)) := by
  simpa [bytesV, Lib.strCells] using h
theorem first_len (x : ByteArray) : x.data.toList.length = x.size := (Lib.size_eq x).symm
theorem next_len (acc : List UInt8) (x : ByteArray) : (acc ++ [47] ++ x.data.toList).length = acc.length + 1 + x.size := by
  rw [List.length_append, ← Lib.size_eq]; simp
theorem leaves_two {R : Ending → World → Prop} {tmps : Array Value} {W : World} {B D : Nat} {x y : Value} (hx : Boxed W B 9 x) (hy : Boxed W (B + 1) 25 y) (h2 : tmps[2]?.getD undef = .pointer (some ⟨B, 0, none⟩)) (h3 : tmps[3]?.getD undef = .pointer (some ⟨B + 1, 0, none⟩))
    (_hx1 : x.oneCell' = true) (_hy1 : y.oneCell' = true) (hD : B + 1 < D) (hK : W.heap[D]? = some (.deferred (some []))) (hR : R (.returned (.tuple #[x, y])) (W.putObj D (.deferred none))) :
    bodyPostM Fence.wide 9 Tryd.prog Tryd.f10 R .ret { tmps := tmps, defers := [{ target := .collected D, args := #[] }] } W := by
  refine ⟨by simp, .inl ⟨_, _, rfl, run_takeDeferred hK, ?_⟩⟩
  have cx := (hx.kept (grownBy_putObj' W D (.deferred none)) (by simp; omega)).cell
  have cy := (hy.kept (grownBy_putObj' W D (.deferred none)) (by simp; omega)).cell
  refine ⟨.tuple #[x, y], ?_, hR⟩
  simp [results, Tryd.results10, h2, h3, go_sem, cx, cy]
theorem leaves_set {R : Ending → World → Prop} {tmps : Array Value} {w W : World} {B D : Nat} {acc : List UInt8} {v x y : Value} (hI : Inv B (B + 6) w acc v W) (h2 : tmps[2]?.getD undef = .pointer (some ⟨B, 0, none⟩)) (h3 : tmps[3]?.getD undef = .pointer (some ⟨B + 1, 0, none⟩))
    (hx1 : x.oneCell' = true) (hy1 : y.oneCell' = true) (hD : B + 1 < D) (hK : W.heap[D]? = some (.deferred (some []))) (hR : ∀ Wz, Below B w Wz → R (.returned (.tuple #[x, y])) Wz) :
    bodyPostM Fence.wide 9 Tryd.prog Tryd.f10 R .ret { tmps := tmps, defers := [{ target := .collected D, args := #[] }] } ((W.setCell ⟨B, 0, none⟩ x).setCell ⟨B + 1, 0, none⟩ y) := by
  have k : ((W.setCell ⟨B, 0, none⟩ x).setCell ⟨B + 1, 0, none⟩ y).heap[D]? = some (.deferred (some [])) := (KeepsOthers.setCell _ _ _).same _ _ ((KeepsOthers.setCell _ _ _).same _ _ hK rfl) rfl
  have hb : Below B w ((W.setCell ⟨B, 0, none⟩ x).setCell ⟨B + 1, 0, none⟩ y) := (hI.below.setCell (p := ⟨B, 0, none⟩) (Nat.le_refl _) _).setCell (p := ⟨B + 1, 0, none⟩) (by show B ≤ B + 1; omega) _
  exact leaves_two ((hI.res.set x).other (by omega) y) ((hI.err.other (by omega) x).set y) h2 h3 hx1 hy1 hD k
    (hR _ (hb.trans ((Below.refl B _).grown (grownBy_putObj' _ D _) (Nat.le_trans (by have := hI.size; omega) ((KeepsOthers.setCell W _ _).trans (KeepsOthers.setCell _ _ _)).size) (fun j e => by cases e; omega))))
theorem leaves_drew {R : Ending → World → Prop} {tmps : Array Value} {w W : World} {B D : Nat} {acc : List UInt8} {v x y : Value} (hI : Inv B (B + 6) w acc v W) (h2 : tmps[2]?.getD undef = .pointer (some ⟨B, 0, none⟩)) (h3 : tmps[3]?.getD undef = .pointer (some ⟨B + 1, 0, none⟩))
    (hx1 : x.oneCell' = true) (hy1 : y.oneCell' = true) (hD : B + 1 < D) (hK : W.heap[D]? = some (.deferred (some []))) (hR : ∀ Wz, Below B w Wz → R (.returned (.tuple #[x, y])) Wz) :
    bodyPostM Fence.wide 9 Tryd.prog Tryd.f10 R .ret { tmps := tmps, defers := [{ target := .collected D, args := #[] }] } (((W.setCell ⟨B, 0, none⟩ x).setCell ⟨B + 1, 0, none⟩ y).drew) := by
  have k : (((W.setCell ⟨B, 0, none⟩ x).setCell ⟨B + 1, 0, none⟩ y).drew).heap[D]? = some (.deferred (some [])) := (KeepsOthers.drew _).same _ _ ((KeepsOthers.setCell _ _ _).same _ _ ((KeepsOthers.setCell _ _ _).same _ _ hK rfl) rfl) rfl
  have hb : Below B w (((W.setCell ⟨B, 0, none⟩ x).setCell ⟨B + 1, 0, none⟩ y).drew) := ((hI.below.setCell (p := ⟨B, 0, none⟩) (Nat.le_refl _) _).setCell (p := ⟨B + 1, 0, none⟩) (by show B ≤ B + 1; omega) _).drew
  exact leaves_two (W := ((W.setCell ⟨B, 0, none⟩ x).setCell ⟨B + 1, 0, none⟩ y).drew) (x := x) (y := y) ((hI.res.set x).other (by omega) y) ((hI.err.other (by omega) x).set y) h2 h3 hx1 hy1 hD k
    (hR _ (hb.trans ((Below.refl B _).grown (grownBy_putObj' _ D _) (Nat.le_trans (by have := hI.size; omega) (((KeepsOthers.setCell W _ _).trans (KeepsOthers.setCell _ _ _)).trans (KeepsOthers.drew _)).size) (fun j e => by cases e; omega))))
/-- A round that goes on, where nothing but the one variable and rows has turned. -/
theorem left_on {B L0 : Nat} {w W W' : World} {ev : Value} {acc acc' : List UInt8} {v v' : Value} {pre : List ByteArray} (a : Act) (hI : Inv B (B + 6) w acc v W) (hs : Stp.Step (B + 6) (B + 1 + 1) W W') (hb : Boxed W' (B + 1 + 1) 53 v')
    (hr : W'.ownsRow (B + 6) 5 1 v' acc'.length (bytesV acc')) (hrun : Cln.run (lists pre) = some acc') :
    Rng.left L0 (B + 1 + 1 + 1) (B + 1 + 1 + 1 + 3) (InvI B (B + 6) w) (InvX B ev w) pre W .normal a W' :=
  ⟨hs.keeps.from _, hs.same (by omega) (by omega) (by have := hI.size; omega), acc', v', hrun, hI.step (by omega) hs hb hr⟩
theorem left_cut {B L0 g cap : Nat} {w W : World} {ev : Value} {acc : List UInt8} {pre : List ByteArray} (a : Act) (k : Nat) (hI : Inv B (B + 6) w acc (.slice (some ⟨g, 0, none⟩) acc.length cap) W) (hk : k ≤ acc.length) (hrun : Cln.run (lists pre) = some (acc.take k)) :
    Rng.left L0 (B + 1 + 1 + 1) (B + 1 + 1 + 1 + 3) (InvI B (B + 6) w) (InvX B ev w) pre W .normal a ((W.setCell ⟨B + 1 + 1, 0, none⟩ (.slice (some ⟨g, 0, none⟩) k cap)).drew) := by
  refine left_on (acc' := acc.take k) (v' := .slice (some ⟨g, 0, none⟩) k cap) a hI ((Stp.Step.setCell _ _ _ _).trans (Stp.Step.drew _ _ _)) (hI.box.set _) ?_ hrun
  have h := Stp.row_set (b := B + 1 + 1) (u := .slice (some ⟨g, 0, none⟩) k cap) (by omega) (Stp.row_take hI.row hk)
  have e : (acc.take k).length = k := by rw [List.length_take]; omega
  rw [e]
  unfold bytesV at h ⊢
  rw [List.map_take]
  exact h

set_option maxRecDepth 100000 in
set_option maxHeartbeats 2000000 in
theorem Clean_in (et : TypeId) (ex : Value) (s : ByteArray) (w : World) (hs : s.size < 2147483648) (hR : Ready (.iface et ex) w) :
    CallsIn Fence.wide 9 Tryd.prog 10 #[.string s] w (cleanPost (.iface et ex) s w) := by
  have hmx : Tryd.prog.follows .mixedOrders = true := by kernel_rfl
  obtain ⟨i0, hi, hz0, hz1, hz2⟩ := info_parts info_byte
  refine callsIn_of_wp_marks Tryd.func10 rfl trivial ?_ rfl
  simp only [Tryd.ntmps10, List.size_toArray, List.length_cons, List.length_nil, Nat.reduceAdd, Nat.reduceSub, Array.replicate_succ, Array.replicate_zero, List.push_toArray, List.append_toArray, List.nil_append, List.cons_append]
  gi_wp2_with (refine ⟨trivial, ?_⟩; gi_at_call 34; refine (callsIn_wide.2 (SplitSeq_any _ _ _)).mono ?_; rintro e w' ⟨rfl, rfl⟩)
  have hgv := splitSeq_gives 8 s (by omega) (((w.alloc (.cells #[.string ⟨#[]⟩] 9)).alloc (.cells #[.nilIface] 25)).alloc (.cells #[.slice none 0 0] 53))
  simp only [World.size_alloc] at hgv
  have b0 := ((((((Boxed.new w 9 (.string ⟨#[]⟩)).alloc (.cells #[.nilIface] 25)).alloc (.cells #[.slice none 0 0] 53)).alloc (.cells #[.string s] 9)).alloc (.cells #[.string ⟨#[47]⟩] 9)).alloc (.cells #[.int .i64 0] 3))
  have b1 := (((((Boxed.new (w.alloc (.cells #[.string ⟨#[]⟩] 9)) 25 .nilIface).alloc (.cells #[.slice none 0 0] 53)).alloc (.cells #[.string s] 9)).alloc (.cells #[.string ⟨#[47]⟩] 9)).alloc (.cells #[.int .i64 0] 3))
  have b2 := ((((Boxed.new ((w.alloc (.cells #[.string ⟨#[]⟩] 9)).alloc (.cells #[.nilIface] 25)) 53 (.slice none 0 0)).alloc (.cells #[.string s] 9)).alloc (.cells #[.string ⟨#[47]⟩] 9)).alloc (.cells #[.int .i64 0] 3))
  have hB : Below w.heap.size w ((((((w.alloc (.cells #[.string ⟨#[]⟩] 9)).alloc (.cells #[.nilIface] 25)).alloc (.cells #[.slice none 0 0] 53)).alloc (.cells #[.string s] 9)).alloc (.cells #[.string ⟨#[47]⟩] 9)).alloc (.cells #[.int .i64 0] 3)) :=
    ((((((Below.refl _ w).alloc (Nat.le_refl _) _).alloc (by simp) _).alloc (by simp; omega) _).alloc (by simp; omega) _).alloc (by simp; omega) _).alloc (by simp; omega) _
  simp only [World.size_alloc] at b0 b1 b2
  have hz : ((((((w.alloc (.cells #[.string ⟨#[]⟩] 9)).alloc (.cells #[.nilIface] 25)).alloc (.cells #[.slice none 0 0] 53)).alloc (.cells #[.string s] 9)).alloc (.cells #[.string ⟨#[47]⟩] 9)).alloc (.cells #[.int .i64 0] 3)).heap.size = w.heap.size + 6 := by simp
  generalize ((((((w.alloc (.cells #[.string ⟨#[]⟩] 9)).alloc (.cells #[.nilIface] 25)).alloc (.cells #[.slice none 0 0] 53)).alloc (.cells #[.string s] 9)).alloc (.cells #[.string ⟨#[47]⟩] 9)).alloc (.cells #[.int .i64 0] 3)) = w0 at hgv b0 b1 b2 hB hz ⊢
  have Hz := Lib.hid hz
  refine Rng.range_stores (m := 9) (gf := 79) rfl (enters_of Tryd.func79 (by kernel_rfl) rfl) (lo := w.heap.size + 1 + 1 + 1) (hi := w.heap.size + 1 + 1 + 1 + 3) (by omega) (by omega) hgv
    (InvI w.heap.size (w.heap.size + 6) w) (InvX w.heap.size (.iface et ex) w) (InvI.own _ _ _ _ (Nat.le_refl _) (by omega)) (fun pre W v h => InvI.set _ _ _ _ (by omega) (by omega) pre W v h) (fun c => InvX.own _ _ _ _ _ (Nat.le_refl _) (by omega))
    ⟨[], .slice none 0 0, rfl, b2, World.ownsRow_nil _ _ _ _, b0, b1, hB, by omega⟩
    (fun x => { tmps := #[.string s, undef, .pointer (some ⟨w.heap.size, 0, none⟩), .pointer (some ⟨w.heap.size + 1, 0, none⟩), .pointer (some ⟨w.heap.size + 1 + 1, 0, none⟩), .string x, .string s, .func (.func 79) #[] #[.pointer (some ⟨w.heap.size + 1 + 1 + 1 + 1, 0, none⟩), .pointer (some ⟨w.heap.size + 1 + 1 + 1, 0, none⟩), .pointer (some ⟨w.heap.size + 1 + 1 + 1 + 2, 0, none⟩)], .string x, undef, undef, undef, undef, undef, undef, undef, undef, undef, undef, undef, undef, undef, undef, undef, undef, undef, undef, undef, undef, undef, undef, undef, undef, undef, undef, undef, undef, undef, undef, undef, undef, undef, undef, undef, undef, undef, undef], defers := [] })
    ?assign ?body ?done ?stop
  case assign =>
    intro l x W K hK
    gi_wp2
    exact hK
  case body =>
    rintro l pre x W ⟨acc, v, hrun, hI⟩ hpx
    have Hrun : Hid (Cln.run (lists (pre ++ [x])) = Cln.step acc x.data.toList) := Lib.hid (by
      unfold lists; rw [List.map_append]; show Cln.run (lists pre ++ [x.data.toList]) = _; rw [Cln.run_snoc, hrun]; rfl)
    have hlen : acc.length ≤ s.size + 1 := by
      have h1 := Cln.run_le hrun
      have h2 : lists pre <+: Pth.parts s.data.toList := by
        rw [← lists_texts]
        exact List.IsPrefix.map _ ((List.prefix_append pre [x]).trans hpx)
      have h3 := Cln.taken_prefix h2
      rw [Cln.taken_parts, ← Lib.size_eq] at h3
      omega
    have hxs : x.size ≤ s.size := by
      have h1 : x ∈ texts s.data.toList := hpx.subset (by simp)
      unfold texts at h1
      obtain ⟨p, hp, e⟩ := List.mem_map.1 h1
      have h2 := Pth.parts_le _ p hp
      rw [← Lib.size_eq] at h2
      rw [← e]
      show p.toArray.size ≤ s.size
      rw [List.size_toArray]; exact h2
    have ed := Lib.hid (Lib.toList_data x)
    clear hrun hpx
    by_cases hskip : x.toList = [] ∨ x.toList = [46]
    · have hstep : Hid (Cln.run (lists (pre ++ [x])) = some acc) := Lib.hid (by
        rw [Hrun.out, ← ed.out]; unfold Cln.step; rw [if_pos hskip])
      clear Hrun
      rcases hskip with h | h
      all_goals
        gi_wp2
        exact ⟨KeepsFrom.refl _ _, Rng.Same.refl _ _ _, acc, v, hstep.out, hI⟩
    · have e0 : x.toList.isEmpty = false := by
        cases e : x.toList with
        | nil => exact absurd (.inl e) hskip
        | cons => rfl
      have e1 : (x.toList == [46]) = false := by
        rw [beq_eq_false_iff_ne]; exact fun e => hskip (.inr e)
      have hc := hI.box.cell
      have hf := hI.box.frozen
      have hc0 := hI.res.cell
      have hf0 := hI.res.frozen
      have hc1 := hI.err.cell
      have hf1 := hI.err.frozen
      have he := (hR.below hI.below).err
      have hn1 : ¬ w.heap.size = 0 := by have := hR.low.1; omega
      have HI := Lib.hid hI
      clear hI
      by_cases hup : x.toList = [46, 46]
      · by_cases hnil : acc = []
        · subst hnil
          have hstep : Hid (Cln.run (lists (pre ++ [x])) = none) := Lib.hid (by
            rw [Hrun.out, ← ed.out]; unfold Cln.step; rw [if_neg hskip, if_pos hup, if_pos rfl])
          clear Hrun hskip
          rcases HI.out.row.2 with ⟨hv, _⟩ | ⟨g, cap, cur, hv, _⟩
          · subst hv
            gi_wp2
            gi_region_with_o (fail)
            all_goals gi_wp2
            all_goals exact left_err _ HI.out hstep.out
          · subst hv
            gi_wp2
            gi_region_with_o (fail)
            all_goals gi_wp2
            all_goals exact left_err _ HI.out hstep.out
        · have hstep : Hid (Cln.run (lists (pre ++ [x])) = some (acc.take (Cln.cutN acc))) := Lib.hid (by
            rw [Hrun.out, ← ed.out]; unfold Cln.step; rw [if_neg hskip, if_pos hup, if_neg hnil])
          have hpos : 0 < acc.length := List.length_pos_iff.2 hnil
          clear Hrun hskip
          rcases HI.out.row.2 with ⟨_, h⟩ | ⟨g, cap, cur, hv, hgl, hgc, hnc, hcm, _⟩
          · omega
          · subst hv
            have hn2 : (((acc.length : Nat) : Int) == 0) = false := by rw [beq_eq_false_iff_ne]; omega
            have HB : Hid (Bytes W.drew g acc) := Lib.hid fun j hj => by
              show W.cell? ⟨g, j, none⟩ = _
              rw [World.ownsRow.cellAt HI.out.row j (by omega)]
              simp [bytesV, hj]
            unfold maxLen at hcm
            clear hgc hnil
            rcases Lib.lastIndexByte_spec ⟨acc.toArray⟩ 47 with ⟨h, _⟩ | ⟨i, hi, h, _⟩
            · have Hcut : Hid (Cln.cutN acc = 0) := Lib.hid (by unfold Cln.cutN; rw [h]; rfl)
              gi_wp2
              gi_region_with_o (refine ⟨trivial, ?_⟩; gi_at_call 35; refine (CallsIn.inRound l (callsIn_wide.2 (LastIndexByte_any acc _ g cap _ (by omega) HB.out))).mono ?_; rintro e w' ⟨rfl, rfl⟩)
              all_goals gi_wp2
              all_goals exact left_cut _ 0 HI.out (Nat.zero_le _) (by rw [← Hcut.out]; exact hstep.out)
            · have Hcut : Hid (Cln.cutN acc = i) := Lib.hid (by unfold Cln.cutN; rw [h]; rfl)
              have hi2 : i < acc.length := by simpa [ByteArray.size] using hi
              clear hi
              gi_wp2
              gi_region_with_o (refine ⟨trivial, ?_⟩; gi_at_call 35; refine (CallsIn.inRound l (callsIn_wide.2 (LastIndexByte_any acc _ g cap _ (by omega) HB.out))).mono ?_; rintro e w' ⟨rfl, rfl⟩)
              all_goals gi_wp2
              all_goals exact left_cut _ i HI.out (by omega) (by rw [← Hcut.out]; exact hstep.out)
      · have e2 : (x.toList == [46, 46]) = false := by
          rw [beq_eq_false_iff_ne]; exact hup
        obtain ⟨m, hm⟩ := (hR.below HI.out.below).len
        have Hm := Lib.hid hm
        clear hm
        cases hok : Pth.partOK x.data.toList
        · have hstep : Hid (Cln.run (lists (pre ++ [x])) = none) := Lib.hid (by
            rw [Hrun.out, ← ed.out]; unfold Cln.step; rw [if_neg hskip, if_neg hup, ed.out, if_neg (by rw [hok]; simp)])
          clear Hrun hskip hup
          gi_wp2_with (refine ⟨trivial, ?_⟩; gi_at_call 36; refine (CallsIn.inRound l (callsIn_wide.2 (isPart_any x m _ (by omega) Hm.out))).mono ?_; rintro e w' ⟨rfl, rfl⟩)
          gi_region_with_o (fail)
          all_goals gi_wp2
          all_goals exact left_err _ HI.out hstep.out
        · have hxn : 0 < x.size := by
            rw [Lib.size_eq, ← ed.out]
            cases e : x.toList with
            | nil => rw [e] at e0; cases e0
            | cons => simp
          have hrow := HI.out.row
          have hbox := HI.out.box
          have hsz := HI.out.size
          by_cases hnil : acc = []
          · subst hnil
            have hstep : Hid (Cln.run (lists (pre ++ [x])) = some x.data.toList) := Lib.hid (by
              rw [Hrun.out, ← ed.out]; unfold Cln.step; rw [if_neg hskip, if_neg hup, ed.out, if_pos hok, if_pos rfl])
            clear Hrun hskip hup
            have Hok := Lib.hid hok
            rcases hrow.2 with ⟨hv, _⟩ | ⟨g, cap, cur, hv, _⟩
            all_goals
              subst hv
              gi_wp2_with (first | (refine ⟨trivial, ?_⟩; gi_at_call 36; refine (CallsIn.inRound l (callsIn_wide.2 (isPart_any x m _ (by omega) Hm.out))).mono ?_; rintro e w' ⟨rfl, rfl⟩) | (gi_at_builtin; refine Stp.append_text _ rfl (.tmp 38) (.tmp 39) 53 9 rfl (w.heap.size + 6) 5 i0 Tryd.underlying53 Tryd.underlying9 hi hz0 hz1 hz2 _ _ _ rfl hrow x rfl (by unfold maxLen; have := hxs; have := hs; have := hlen; omega) (by have := hxs; have := hs; have := hlen; omega) hsz ?_; intro v6 w6 hown6 hgrow6 _; have hrow6 := first_part hown6; obtain ⟨g6, cap6, rfl⟩ := Stp.row_form hrow6 (by omega); have hbox6 := Stp.box_grown hbox (by omega) hrow hgrow6; have hc6 := hbox6.cell; have hf6 := hbox6.frozen))
              exact left_on _ HI.out ((Stp.Step.grown hrow hgrow6).trans (Stp.Step.setCell _ _ _ _)) (hbox6.set _) (by rw [first_len]; exact Stp.row_set (by omega) hrow6) hstep.out
          · have hstep : Hid (Cln.run (lists (pre ++ [x])) = some (acc ++ [47] ++ x.data.toList)) := Lib.hid (by
              rw [Hrun.out, ← ed.out]; unfold Cln.step; rw [if_neg hskip, if_neg hup, ed.out, if_pos hok, if_neg hnil])
            have hpos : 0 < acc.length := List.length_pos_iff.2 hnil
            clear Hrun hskip hup hnil
            rcases hrow.2 with ⟨_, h⟩ | ⟨g, cap, cur, hv, _⟩
            · omega
            · subst hv
              gi_wp2_with (first | (refine ⟨trivial, ?_⟩; gi_at_call 36; refine (CallsIn.inRound l (callsIn_wide.2 (isPart_any x m _ (by omega) Hm.out))).mono ?_; rintro e w' ⟨rfl, rfl⟩) | (gi_at_builtin; refine wpListIn_append_own _ rfl (.tmp 35) (.tmp 36) 53 rfl (w.heap.size + 6) 5 i0 (.int .u8 0) 1 1 Tryd.underlying53 hi hz0 hz1 hz2 rfl (by decide) _ _ _ rfl (hrow.alloc _) ⟨W.heap.size, 0, none⟩ 1 1 [.int .u8 47] rfl rfl (cell_one_new _ _ _) (by simp [Value.oneCell']) (by unfold maxLen; have := hs; have := hlen; omega) (by have := hs; have := hlen; omega) (by simp; omega) ?_; intro v5 w5 hown5 hgrow5 _; have hrow5 := stroke hown5; obtain ⟨g5, cap5, rfl⟩ := Stp.row_form hrow5 (by omega); have hbox5 := Stp.box_grown (hbox.alloc _) (by omega) (hrow.alloc _) hgrow5; have hc5 := hbox5.cell; have hf5 := hbox5.frozen; have hrow7 := Stp.row_set (b := w.heap.size + 1 + 1) (u := .slice (some ⟨g5, 0, none⟩) (acc.length + 1) cap5) (by omega) hrow5; have hbox7 := hbox5.set (.slice (some ⟨g5, 0, none⟩) (acc.length + 1) cap5); have hs7 := ((Stp.Step.alloc (w.heap.size + 6) (w.heap.size + 1 + 1) W (.cells #[.int .u8 47] 5)).trans (Stp.Step.grown (hrow.alloc _) hgrow5)).trans (Stp.Step.setCell _ _ _ (.slice (some ⟨g5, 0, none⟩) (acc.length + 1) cap5)); have hsz7 := Nat.le_trans hsz hs7.keeps.size) | (gi_at_builtin; refine Stp.append_text _ rfl (.tmp 38) (.tmp 39) 53 9 rfl (w.heap.size + 6) 5 i0 Tryd.underlying53 Tryd.underlying9 hi hz0 hz1 hz2 _ _ _ rfl hrow7 x rfl (by unfold maxLen; have := hxs; have := hs; have := hlen; omega) (by have := hxs; have := hs; have := hlen; omega) hsz7 ?_; intro v6 w6 hown6 hgrow6 _; have hrow6 := next_part hown6; obtain ⟨g6, cap6, rfl⟩ := Stp.row_form hrow6 (by omega); have hbox6 := Stp.box_grown hbox7 (by omega) hrow7 hgrow6; have hc6 := hbox6.cell; have hf6 := hbox6.frozen))
              exact left_on _ HI.out ((hs7.trans (Stp.Step.grown hrow7 hgrow6)).trans (Stp.Step.setCell _ _ _ _)) (hbox6.set _) (by rw [next_len]; exact Stp.row_set (by omega) hrow6) hstep.out
  case done =>
    rintro W ⟨acc, v, hrun, hI⟩ hK
    rw [lists_texts] at hrun
    have hc := hI.box.cell
    have hf := hI.box.frozen
    have hc0 := hI.res.cell
    have hf0 := hI.res.frozen
    have hc1 := hI.err.cell
    have hf1 := hI.err.frozen
    have he := (hR.below hI.below).err
    have hn1 : ¬ w.heap.size = 0 := by have := hR.low.1; omega
    have HI := Lib.hid hI
    have Hrun := Lib.hid hrun
    have HK := Lib.hid hK
    clear hI hrun hK hB b0 b1 b2 hz
    by_cases hbig : 200 < acc.length
    · rcases HI.out.row.2 with ⟨_, h⟩ | ⟨g, cap, cur, hv, _⟩
      · omega
      · subst hv
        gi_wp2
        gi_region_with_o (fail)
        all_goals gi_wp2
        all_goals
          refine leaves_drew HI.out rfl rfl rfl rfl (by rw [Hz.out]; omega) HK.out ?_
          intro Wz hb
          refine ⟨?_, hb⟩
          rw [show Cln.clean s.data.toList = none from by unfold Cln.clean; rw [Hrun.out]; simp; omega]
    · rcases HI.out.row.2 with ⟨hv, hz0'⟩ | ⟨g, cap, cur, hv, _⟩
      · subst hv
        have hconv := fun wx => Lib.run_convert_nil_bytes (P := Tryd.prog) wx 53 9 5 0 Tryd.underlying53 Tryd.underlying5 Tryd.underlying9
        gi_wp2
        refine leaves_set HI.out rfl rfl rfl rfl (by rw [Hz.out]; omega) HK.out ?_
        intro Wz hb
        refine ⟨?_, hb⟩
        obtain rfl : acc = [] := List.eq_nil_of_length_eq_zero hz0'
        rw [show Cln.clean s.data.toList = some [] from by unfold Cln.clean; rw [Hrun.out]; rfl]
      · subst hv
        have hconv := run_convert_bytes_back (P := Tryd.prog) W 53 9 5 ⟨g, 0, none⟩ cap acc Tryd.underlying53 Tryd.underlying5 Tryd.underlying9 (fun j hj => HI.out.row.cells (g := g) rfl j _ (by simp [bytesV, hj]))
        gi_wp2
        refine leaves_set HI.out rfl rfl rfl rfl (by rw [Hz.out]; omega) HK.out ?_
        intro Wz hb
        refine ⟨?_, hb⟩
        rw [show Cln.clean s.data.toList = some acc from by unfold Cln.clean; rw [Hrun.out]; simp; omega]
  case stop =>
    rintro c pre W hpre hX hK
    obtain rfl := hX.isRet
    have HX := Lib.hid hX
    have HK := Lib.hid hK
    clear hX hK hB b0 b1 b2 hz
    gi_wp2
    refine leaves_two HX.out.res HX.out.err rfl rfl rfl rfl (by rw [Hz.out]; omega) HK.out ⟨?_, ?_⟩
    · have hp : lists pre <+: Pth.parts s.data.toList := by
        rw [← lists_texts]; exact List.IsPrefix.map _ hpre
      rw [Cln.clean_none hp HX.out.none]
    · exact HX.out.below.trans (belowK_b (w := w0) (by rw [Hz.out]; omega) _ _ _ _ (Nat.le_refl _) HK.out rfl rfl)

theorem Clean_any (et : TypeId) (ex : Value) (s : ByteArray) (w : World) (hs : s.size < 2147483648) (hR : Ready (.iface et ex) w) :
    Calls Tryd.prog 10 #[.string s] w (cleanPost (.iface et ex) s w) :=
  callsIn_wide.1 (Clean_in et ex s w hs hR)

end Go.Proofs.YteokigpeaggemaaDoor
