/- What path.splitPatterns answers at every list of texts: the parts of each, or the first that is no pattern. Conditions: internal/bytealg.MaxLen holds some number, smithy/api.ErrPath an error; texts of fewer than 2^31 bytes, fewer than 2^31 of them. -/
import Derived.Test.YteokigpeaggemaaDoorSaysLaw
import Derived.Deep.RegionWith
namespace Go.Proofs.YteokigpeaggemaaDoor
open Go.RowKit

theorem append_keep {P : Program} {ops : Array Oper} {rest : List Oper} {o : Oper} {a : Act} {Q : Exit → Act → World → Prop} {W1 : World} (w : World) (hgd : o.guard = none) (s x : Operand) (t : TypeId)
    (ho : o.op = .call { callee := .builtin .append, args := #[s, x], argTypes := #[t, t] }) (base : Nat) (e : TypeId) (i : TypeInfo) (z : Value) (bytes : Nat) (ht : P.underlying t = some (.slice e)) (hi : P.info? e = some i) (hz : i.zero = some z)
    (hsize : i.size = 1) (hby : i.bytes = bytes) (hzs : z.cells.size = 1) (v : Value) (n : Nat) (xs : List Value) (hs : a.eval s = v) (hown : w.ownsRow base e 1 v n xs) (u : Value) (hW : W1 = w.alloc (.cells #[u] e))
    (bk : Nat) (hbk : w.heap.size = bk) (hx : a.eval x = .slice (some ⟨bk, 0, none⟩) 1 1) (h1 : u.oneCell' = true) (hbytes : (n + 1) * bytes ≤ 140737488355328) (h63 : n + 1 ≤ maxLen) (hbase : base ≤ w.heap.size) (B : Nat) (w0 : World) (hb : Below B w0 w) (hB : B ≤ base)
    (h : ∀ g cap w', w'.ownsRow base e 1 (.slice (some ⟨g, 0, none⟩) (n + 1) cap) (n + 1) (xs ++ [u]) → Below B w0 w' → w.heap.size ≤ w'.heap.size → (∀ k, k < w.heap.size → some k ≠ v.ownBlock → w'.heap[k]? = w.heap[k]?) → wpList P ops Q rest (a.put o.dst (.slice (some ⟨g, 0, none⟩) (n + 1) cap)) w') :
    wpList P ops Q (o :: rest) a W1 := by
  subst hW
  subst hbk
  refine wpList_append_own (w.alloc (.cells #[u] e)) hgd s x t ho base e i z 1 bytes ht hi hz hsize hby hzs (by decide) v n xs hs (hown.alloc _) ⟨w.heap.size, 0, none⟩ 1 1 [u] hx rfl (cell_one_new _ _ _) (fun y hy => by simp at hy; subst hy; exact h1) h63 hbytes (by simp; omega) ?_
  intro v' w' hown' hg _
  obtain ⟨g, cap, rfl⟩ := ownsRow_succ hown'
  refine h g cap w' hown' ((hb.alloc (Nat.le_trans hB hbase) _).grown hg (by simp; omega) fun k hk => ?_) ?_ ?_
  · exact Nat.le_trans hB (hown.lt k hk).1
  · have := hg.size; simp at this; omega
  · intro k hk hne
    rw [hg.block k (by simp; omega) hne, Below.heap_alloc _ _ _ hk]

/-- A text's parts, as a slice in block b. -/
def partsV (b : Nat) (x : ByteArray) : Value := .slice (some ⟨b, 0, none⟩) (Pth.parts x.data.toList).length (Pth.parts x.data.toList).length
/-- The first k texts' parts lie in blocks of their own, from B on. -/
def PatRow (W : World) (B : Nat) (xs : List ByteArray) (k : Nat) (vs : List Value) : Prop :=
  vs.length = k ∧ ∀ j (h : j < xs.length), j < k → ∃ b, vs[j]? = some (partsV b xs[j]) ∧ B ≤ b ∧ W.heap[b]? = some (pieces xs[j])
theorem PatRow.zero (W : World) (B : Nat) (xs : List ByteArray) : PatRow W B xs 0 [] := ⟨rfl, fun _ _ h => absurd h (by omega)⟩
theorem PatRow.below {W W' : World} {B : Nat} {xs : List ByteArray} {k : Nat} {vs : List Value} (h : PatRow W B xs k vs) (hb : Below W.heap.size W W') : PatRow W' B xs k vs :=
  ⟨h.1, fun j hj hk => by
    obtain ⟨b, h1, h2, h3⟩ := h.2 j hj hk
    exact ⟨b, h1, h2, (hb.block b (Array.getElem?_eq_some_iff.1 h3).1).trans h3⟩⟩
theorem PatRow.snoc {W W' : World} {B : Nat} {xs : List ByteArray} {k : Nat} {vs : List Value} {v : Value} {n : Nat} (h : PatRow W B xs k vs) (hk : k < xs.length) (hB : B ≤ W.heap.size)
    (hown : W.ownsRow B 22 1 v n vs) (hkeep : ∀ i, i < (W.alloc (pieces xs[k])).heap.size → some i ≠ v.ownBlock → W'.heap[i]? = (W.alloc (pieces xs[k])).heap[i]?) : PatRow W' B xs (k + 1) (vs ++ [partsV W.heap.size xs[k]]) := by
  refine ⟨by simp [h.1], fun j hj hjk => ?_⟩
  by_cases e : j = k
  · subst e
    refine ⟨W.heap.size, by simp [h.1], hB, ?_⟩
    rw [hkeep _ (by simp) (fun e => by have := (hown.lt _ e.symm).2; omega)]
    exact World.alloc_heap_new W _
  · obtain ⟨b, h1, h2, h3⟩ := h.2 j hj (by omega)
    have hb : b < W.heap.size := (Array.getElem?_eq_some_iff.1 h3).1
    refine ⟨b, ?_, h2, ?_⟩
    · rw [List.getElem?_append_left (by rw [h.1]; omega)]; exact h1
    · rw [hkeep b (by simp; omega) ?_, Below.heap_alloc _ _ _ hb]
      · exact h3
      · intro e2
        rcases hown.2 with ⟨rfl, _⟩ | ⟨g, cap, cur, rfl, _, hh, _⟩
        · simp [Value.ownBlock] at e2
        · obtain rfl : b = g := by simpa [Value.ownBlock] using e2
          rw [hh] at h3
          simp [pieces] at h3
/-- All the texts' parts. -/
def PatsOf (W : World) (B : Nat) (v : Value) (xs : List ByteArray) : Prop := ∃ vs, W.ownsRow B 22 1 v xs.length vs ∧ PatRow W B xs xs.length vs
def patsOK (xs : List ByteArray) (k : Nat) : Prop := ∀ j (h : j < xs.length), j < k → Pth.splitOK Pth.patOK xs[j].data.toList = true
theorem info_texts : (Tryd.prog.info? 22).map (fun i => (i.zero, i.size, i.bytes)) = some (some (.slice none 0 0), 1, 24) := by kernel_rfl
/-- An error with a place. -/
def PlacedAt (W : World) (B : Nat) (v : Value) (pos : Int) (ev : Value) : Prop := ∃ b, v = .iface 89 (.pointer (some ⟨b, 0, none⟩)) ∧ B ≤ b ∧ W.heap[b]? = some (.cells #[.int .i64 pos, ev] 91 (0, 0))

/-- A slice of texts' parts, to be read. -/
def PatsAt (W : World) (ao : Option Addr) (xs : List ByteArray) : Prop :=
  xs = [] ∨ ∃ g, ao = some ⟨g, 0, none⟩ ∧ g < W.heap.size ∧ ∀ j (h : j < xs.length), ∃ b, W.cell? ⟨g, j, none⟩ = some (partsV b xs[j]) ∧ W.heap[b]? = some (pieces xs[j])
theorem PatsAt.below {W W' : World} {ao : Option Addr} {xs : List ByteArray} (h : PatsAt W ao xs) (hb : Below W.heap.size W W') : PatsAt W' ao xs := by
  rcases h with h | ⟨g, h1, h2, h3⟩
  · exact .inl h
  · refine .inr ⟨g, h1, Nat.lt_of_lt_of_le h2 hb.size, fun j hj => ?_⟩
    obtain ⟨b, h4, h5⟩ := h3 j hj
    exact ⟨b, (hb.cell (p := ⟨g, j, none⟩) h2).trans h4, (hb.block b (Array.getElem?_eq_some_iff.1 h5).1).trans h5⟩
theorem PatsOf.at {W : World} {B : Nat} {v : Value} {xs : List ByteArray} (h : PatsOf W B v xs) : ∃ ao cap, v = .slice ao xs.length cap ∧ PatsAt W ao xs := by
  obtain ⟨vs, h1, h2⟩ := h
  rcases h1.2 with ⟨rfl, h0⟩ | ⟨g, cap, cur, rfl, _, hh, _⟩
  · obtain rfl := List.eq_nil_of_length_eq_zero h0
    exact ⟨none, 0, rfl, .inl rfl⟩
  · refine ⟨_, cap, rfl, .inr ⟨g, rfl, (h1.lt g rfl).2, fun j hj => ?_⟩⟩
    obtain ⟨b, h3, _, h5⟩ := h2.2 j hj hj
    refine ⟨b, ?_, h5⟩
    rw [h1.cellAt j (by omega), h3]

def patsPost (f : Int) (xs : List ByteArray) (ev : Value) (w : World) (e : Ending) (w' : World) : Prop :=
  (patsOK xs xs.length ∧ (∃ ao cap, e = .returned (.tuple #[.slice ao xs.length cap, .nilIface]) ∧ PatsAt w' ao xs) ∧ Below w.heap.size w w') ∨
  (∃ k, ∃ h : k < xs.length, patsOK xs k ∧ Pth.splitOK Pth.patOK xs[k].data.toList = false ∧ (∃ v, e = .returned (.tuple #[.slice none 0 0, v]) ∧ PlacedAt w' w.heap.size v (f + (k : Int)) ev) ∧ Below w.heap.size w w')

set_option maxRecDepth 100000 in
set_option maxHeartbeats 2000000 in
theorem splitPatterns_any (et : TypeId) (ex : Value) (f : Int) (ao : Option Addr) (c : Nat) (xs : List ByteArray) (w : World) (hf : 0 ≤ f ∧ f < 2147483648) (hn : xs.length < 2147483648) (hxs : ∀ x ∈ xs, x.size < 2147483648)
    (hL : SliceOf w ao c xs) (hR : Ready (.iface et ex) w) : Calls Tryd.prog 49 #[.slice ao xs.length c, .int .i64 f] w (patsPost f xs (.iface et ex) w) := by
  obtain ⟨i0, hi, hz0, hz1, hz2⟩ := info_parts info_texts
  have HL := Lib.hid hL
  have HR := Lib.hid hR
  have Hxs := Lib.hid hxs
  clear hL hR hxs
  go_enter Tryd.func49, Tryd.ntmps49
  go_wp2
  go_loopw [6, 13] (fun v i wr => ∃ k : Nat, ∃ vs, k ≤ xs.length ∧ i = .int .i64 k ∧ Hid (patsOK xs k) ∧ wr.ownsRow w.heap.size 22 1 v k vs ∧ Hid (PatRow wr w.heap.size xs k vs) ∧ Below w.heap.size w wr ∧ w.heap.size ≤ wr.heap.size) (fun _ i _ => xs.length - (intOf i).toNat)
  case atStart => exact ⟨0, [], Nat.zero_le _, rfl, Lib.hid fun _ _ h => absurd h (by omega), World.ownsRow_nil _ _ _ _, Lib.hid (PatRow.zero _ _ _), Below.refl _ _, Nat.le_refl _⟩
  case round =>
    obtain ⟨k, vs, hk, rfl, hok, hown, hrow, hb, hsz⟩ := hrel
    by_cases hlt : k < xs.length
    · rcases HL.out with h0 | ⟨bk, o, rfl, h2, h3, h4⟩
      · rw [h0] at hlt; exact absurd hlt (by simp)
      · have hcell : wr.cell? ⟨bk, o + k, none⟩ = some (.string xs[k]) := (hb.cell (p := ⟨bk, o + k, none⟩) h3).trans (h4 k _ (List.getElem?_eq_getElem hlt))
        have hxk := Hxs.out _ (List.getElem_mem hlt)
        have hRr := HR.out.below hb
        obtain ⟨m, hm⟩ := hRr.len
        have Hp : Hid (∀ q : List UInt8, q.length ≤ 200 → Calls Tryd.prog 46 #[.string ⟨q.toArray⟩] (wr.alloc (pieces xs[k])) fun e w' => e = .returned (.bool (Pth.patOK q)) ∧ wr.alloc (pieces xs[k]) = w') :=
          Lib.hid fun q hq => by
            obtain ⟨m', hm'⟩ := (hRr.alloc (pieces xs[k])).len
            exact isPatternPart_any ⟨q.toArray⟩ m' _ (by show q.toArray.size < _; simp; omega) hm'
        have HS := Lib.hid (split_any 46 Pth.patOK (enters_of Tryd.func46 (by kernel_rfl) rfl) xs[k] m wr (by omega) hm Hp)
        have HRr := Lib.hid hRr
        clear h4 hm Hp hRr
        go_wp2_with fail
        refine HS.out.mono ?_
        rintro e w1 (⟨h, rfl, rfl⟩ | ⟨h, rfl, hw⟩)
        · have hok' : Hid (patsOK xs (k + 1)) := Lib.hid fun j hj hjk => by
            by_cases e : j = k
            · subst e; exact h
            · exact hok.out j hj (by omega)
          have hb1 : Below w.heap.size w (wr.alloc (pieces xs[k])) := hb.alloc hsz _
          have Hsnoc := Lib.hid (fun W' => PatRow.snoc (W' := W') hrow.out hlt hsz hown)
          clear h hcell HS hrow
          go_wp2_with (at_builtin; refine append_keep (wr.alloc (pieces xs[k])) rfl (.tmp 32) (.tmp 34) 68 rfl w.heap.size 22 i0 (.slice none 0 0) 24 Tryd.underlying68 hi hz0 hz1 hz2 rfl _ _ _ rfl (hown.alloc _) (partsV wr.heap.size xs[k]) rfl (wr.heap.size + 1) (by simp) rfl rfl (by omega) (by unfold maxLen; omega) (by simp; omega) w.heap.size w hb1 (Nat.le_refl _) ?_; intro g2 cap2 w2 hown2 hb2 hsz2 hkeep)
          go_roundw
          case rel => exact ⟨k + 1, vs ++ [partsV wr.heap.size xs[k]], by omega, by go_num, hok', hown2, Lib.hid (Hsnoc.out w2 hkeep), hb2, by simp at hsz2; omega⟩
          case measure => simp [intOf]; omega
        · have H := Lib.hid h
          have HW : Hid (Below wr.heap.size wr w1) := Lib.hid (by
            rcases hw with rfl | rfl
            · exact Below.refl _ _
            · exact (Below.refl _ _).alloc (Nat.le_refl _) _)
          have he := (HRr.out.below HW.out).err
          have HB1 : Hid (Below w.heap.size w w1) := Lib.hid (hb.trans (HW.out.mono hsz))
          have hz1' : w.heap.size ≤ w1.heap.size := Nat.le_trans hsz HW.out.size
          clear h hw hcell HS hrow hown hb
          go_wp2_with fail
          go_region
          all_goals go_wp2
          all_goals go_ret2
          all_goals exact .inr ⟨k, hlt, hok.out, H.out, ⟨_, rfl, w1.heap.size, rfl, hz1', World.alloc_heap_new w1 _⟩, (HB1.out.alloc hz1' _).drew⟩
    · obtain rfl : k = xs.length := by omega
      go_wp2_with fail
      go_ret2
      obtain ⟨ao', cap', e1, hat⟩ := PatsOf.at ⟨vs, hown, hrow.out⟩
      exact .inl ⟨hok.out, ⟨ao', cap', by rw [e1]; rfl, hat⟩, hb⟩

end Go.Proofs.YteokigpeaggemaaDoor
