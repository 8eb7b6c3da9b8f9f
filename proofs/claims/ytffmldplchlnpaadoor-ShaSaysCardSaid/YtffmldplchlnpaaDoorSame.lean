/- smithyref17.SameSum answers true of a digest and itself. No conditions. -/
import Derived.Test.YtffmldplchlnpaaDoorHex
import Derived.Deep.RegionHeld3
namespace Go.Proofs.YtffmldplchlnpaaDoor
open Go.RowKit

theorem range_of {W : World} {g : Nat} {cg : Array Value} {t : TypeId} (hg : W.heap[g]? = some (.cells cg t (0, 0))) : W.rangeAt g 0 cg.toList := fun j v hv => by
  rw [cell_of_row W g (0 + j) cg t (0, 0) hg, Nat.zero_add]
  simpa using hv
theorem range_below {W W' : World} {B g : Nat} {cs : List Value} (h : W.rangeAt g 0 cs) (hb : Below B W W') (hg : g < B) : W'.rangeAt g 0 cs := fun j v hv => (hb.cell (p := ⟨g, 0 + j, none⟩) hg).trans (h j v hv)
/-- A load of a long array, taken first, its slot said. -/
theorem take_load {ops : Array Oper} {md : Region.Mode} {Q : Exit → Act → World → Prop} {S : World → Prop} {i : Nat} {oi : Oper} {fuel : Nat} {listed : Array Bool} {a : Act} {w : World} (hi : ops[i]? = some oi)
    (hs : Region.noSelect ops = true) (hf : Region.free md ops listed i = true) (hr : (Region.ready md ops listed).contains i = true) (d : Option Tmp) (hd : oi.dst = d) (hw : Region.wanted oi (yielded ops a.tmps) = true)
    (ty : TypeId) (x : Operand) (ho : oi.op = .load ty x) (g : Nat) (hx : a.eval x = .pointer (some ⟨g, 0, none⟩)) (cg : Array Value) (dd : TypeDesc) (hQ : ∀ c a w, Q (.panic c) (a.put d (.agg cg)) w → Q (.panic c) a w) (hS : ∀ w, S w → w.rangeAt g 0 cg.toList)
    (hu : Tryd.prog.underlying ty = some dd) (hdd : dd.isRow = true) (hn : (Tryd.prog.info? ty).map (·.size) = some cg.toList.length) (hSw : S w)
    (h : wpAnyH Tryd.prog md ops Q S fuel (listed.setIfInBounds i true) (a.put d (.agg cg)) w) : wpAnyH Tryd.prog md ops Q S (fuel + 1) listed a w := by
  subst hd
  have hy : YieldsIf Tryd.prog ops S oi (.agg cg) a := by
    have := yieldsIf_load_mid (P := Tryd.prog) hw ty x ho g 0 hx cg.toList dd hS hu hdd hn
    rwa [Array.toArray_toList] at this
  exact wpAnyH_take hi hs hf hr hQ hy hSw h
/-- What yields its value in every world that meets S, taken first, its slot said. -/
theorem take_val {ops : Array Oper} {md : Region.Mode} {Q : Exit → Act → World → Prop} {S : World → Prop} {i : Nat} {oi : Oper} {v : Value} {fuel : Nat} {listed : Array Bool} {a : Act} {w : World} (hi : ops[i]? = some oi)
    (hs : Region.noSelect ops = true) (hf : Region.free md ops listed i = true) (hr : (Region.ready md ops listed).contains i = true) (d : Option Tmp) (hd : oi.dst = d) (hQ : ∀ c a w, Q (.panic c) (a.put d v) w → Q (.panic c) a w)
    (hy : YieldsIf Tryd.prog ops S oi v a) (hSw : S w) (h : wpAnyH Tryd.prog md ops Q S fuel (listed.setIfInBounds i true) (a.put d v) w) : wpAnyH Tryd.prog md ops Q S (fuel + 1) listed a w := by
  subst hd
  exact wpAnyH_take hi hs hf hr hQ hy hSw h

set_option maxHeartbeats 1600000 in
theorem same_any (bs : List UInt8) (hl : bs.length = 32) (w : World) :
    Calls Tryd.prog 16 #[.agg (bcells bs), .agg (bcells bs)] w fun e w' => e = .returned (.bool true) ∧ Below w.heap.size w w' := by
  have hinfo2 : (Tryd.prog.info? 25).map (·.size) = some 32 := by kernel_rfl
  have hu := Tryd.underlying25
  have hcs := bcells_size bs
  rw [hl] at hcs
  have htx := fun W => hex_any bs hl W
  generalize bcells bs = cg at htx hcs ⊢
  generalize hexT bs = hx at htx
  have HTX := hidden htx
  have hi : (Tryd.prog.info? 25).map (·.size) = some cg.toList.length := by rw [Array.length_toList, hcs]; exact hinfo2
  clear htx
  go_enter Tryd.func16, Tryd.ntmps16
  go_wp2_with fail
  have hb1 : Below w.heap.size w ((w.alloc (.cells cg 25)).alloc (.cells cg 25)) := ((Below.refl _ _).alloc (Nat.le_refl _) _).alloc (by simp) _
  have hr1 : ((w.alloc (.cells cg 25)).alloc (.cells cg 25)).rangeAt w.heap.size 0 cg.toList := range_of ((Below.heap_alloc _ _ _ (by simp)).trans (heap_alloc_new _ _))
  have hr2 : ((w.alloc (.cells cg 25)).alloc (.cells cg 25)).rangeAt (w.heap.size + 1) 0 cg.toList := range_of (by
    rw [show w.heap.size + 1 = (w.alloc (.cells cg 25)).heap.size by simp]
    exact heap_alloc_new _ _)
  have hsz : ((w.alloc (.cells cg 25)).alloc (.cells cg 25)).heap.size = w.heap.size + 2 := by simp
  generalize (w.alloc (.cells cg 25)).alloc (.cells cg 25) = w2 at hb1 hr1 hr2 hsz ⊢
  have hs1 : w.heap.size < w2.heap.size := by omega
  have hs2 : w.heap.size + 1 < w2.heap.size := by omega
  have keep : ∀ W, Below w2.heap.size w2 W → (Below w2.heap.size w2 W ∧ W.rangeAt w.heap.size 0 cg.toList ∧ W.rangeAt (w.heap.size + 1) 0 cg.toList) := fun W h => ⟨h, range_below hr1 h hs1, range_below hr2 h hs2⟩
  have hex : ∀ W, Below w2.heap.size w2 W → Calls Tryd.prog 11 #[.agg cg] W fun e W' => e = .returned (.string ⟨hx.toArray⟩) ∧ Below w2.heap.size w2 W' := fun W h => (HTX.out W).mono fun e W' h' => ⟨h'.1, h.trans (h'.2.mono h.size)⟩
  clear hsz
  refine wp_region_held_drew (S := fun W => Below w2.heap.size w2 W ∧ W.rangeAt w.heap.size 0 cg.toList ∧ W.rangeAt (w.heap.size + 1) 0 cg.toList) (by kernel_rfl) (keep _ (Below.refl _ _).drew) (fun hHeld => ?_)
  refine take_load (i := 0) rfl (by kernel_rfl) (by kernel_rfl) (by kernel_rfl) (some 5) rfl (by rfl) 25 (.tmp 2) rfl w.heap.size rfl cg _ (fun _ _ _ h => h) (fun W h => h.2.1) hu rfl hi hHeld ?_
  simp only [Act.put, List.setIfInBounds_toArray, List.set_cons_zero, List.set_cons_succ]
  refine take_load (i := 2) rfl (by kernel_rfl) (by kernel_rfl) (by kernel_rfl) (some 7) rfl (by rfl) 25 (.tmp 3) rfl (w.heap.size + 1) rfl cg _ (fun _ _ _ h => h) (fun W h => h.2.2) hu rfl hi hHeld ?_
  simp only [Act.put, List.setIfInBounds_toArray, List.set_cons_zero, List.set_cons_succ]
  refine wpAnyH_ready (rs := [1]) (by kernel_rfl) (by simp) ?_
  refine AllReadyH.cons rfl (fun K hK => ?_) AllReadyH.nil
  go_simp
  refine (hex _ (Below.refl _ _).drew).mono ?_
  rintro e W3 ⟨rfl, hG⟩
  refine hK.out _ _ (keep _ hG) (fun hHeld => ?_)
  clear hK K
  refine wpAnyH_ready (rs := [3]) (by kernel_rfl) (by simp) ?_
  refine AllReadyH.cons rfl (fun K hK => ?_) AllReadyH.nil
  go_simp
  refine (hex _ hG).mono ?_
  rintro e W4 ⟨rfl, hG4⟩
  refine hK.out _ _ (keep _ hG4) (fun hHeld => ?_)
  clear hK K
  refine take_val (i := 4) (v := .bool true) rfl (by kernel_rfl) (by kernel_rfl) (by kernel_rfl) (some 9) rfl (fun _ _ _ h => h) (Or.inl ⟨by rfl, fun W hW => by go_simp⟩) hHeld ?_
  simp only [Act.put, List.setIfInBounds_toArray, List.set_cons_zero, List.set_cons_succ]
  refine take_val (i := 5) (v := .bool true) rfl (by kernel_rfl) (by kernel_rfl) (by kernel_rfl) (some 4) rfl (fun _ _ _ h => h) (Or.inl ⟨by rfl, fun W hW => by go_simp⟩) hHeld ?_
  simp only [Act.put, List.setIfInBounds_toArray, List.set_cons_zero, List.set_cons_succ]
  refine wpAnyH_done (by kernel_rfl) ?_ _
  go_wp2
  go_ret
  exact ⟨rfl, hb1.trans (hG4.mono (by omega))⟩
end Go.Proofs.YtffmldplchlnpaaDoor
