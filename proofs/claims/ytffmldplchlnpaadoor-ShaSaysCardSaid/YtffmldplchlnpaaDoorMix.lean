/- What mix makes of a digest under way and a block of 64 bytes. Conditions: the state's cells and the block's hold them; the package's table is as its text lays it. -/
import Derived.Test.YtffmldplchlnpaaDoorSpread
import Derived.Deep.WholeRow
namespace Go.Proofs.YtffmldplchlnpaaDoor
open Go.RowKit

/-- A digest under way, as its cells hold it. -/
def stCells (hs : List W32) (rest : List UInt8) (n : Nat) : Array Value := (hs.map (fun x => Value.int .u32 (wv x)) ++ (rest.map bval ++ [Value.int .u64 (n : Int)])).toArray
def StateAt (w : World) (sb : Nat) (hs : List W32) (rest : List UInt8) (n : Nat) : Prop :=
  w.heap[sb]? = some (.cells (stCells hs rest n) 64 (0, 0)) ∧ hs.length = 8 ∧ rest.length = 64
/-- The package's two tables. -/
structure Tabs (w : World) : Prop where
  keys : ∀ i, i < 64 → w.cell? ⟨2, i, none⟩ = some (.int .u32 (wv (kTab.getD i 0)))
  first : ∀ i, i < 8 → w.cell? ⟨1, i, none⟩ = some (.int .u32 (wv (h0.getD i 0)))
theorem below_drewN {B : Nat} {a w : World} (h : Below B a w) (n : Nat) : Below B a (w.drewN n) := ⟨h.os, h.tape, h.output, h.size, h.block⟩
/-- But for one block, all that was there is as it was. -/
structure Turned (sb : Nat) (w w' : World) : Prop where
  os : w'.os = w.os
  tape : w'.tape = w.tape
  output : w'.output = w.output
  size : w.heap.size ≤ w'.heap.size
  block : ∀ k, k < w.heap.size → k ≠ sb → w'.heap[k]? = w.heap[k]?
theorem Turned.refl (sb : Nat) (w : World) : Turned sb w w := ⟨rfl, rfl, rfl, Nat.le_refl _, fun _ _ _ => rfl⟩
theorem Turned.trans {sb : Nat} {a b c : World} (h : Turned sb a b) (k : Turned sb b c) : Turned sb a c :=
  ⟨k.os.trans h.os, k.tape.trans h.tape, k.output.trans h.output, Nat.le_trans h.size k.size, fun i hi hn => (k.block i (Nat.lt_of_lt_of_le hi h.size) hn).trans (h.block i hi hn)⟩
theorem Turned.of_below {sb : Nat} {w w' : World} (h : Below w.heap.size w w') : Turned sb w w' := ⟨h.os, h.tape, h.output, h.size, fun k hk _ => h.block k hk⟩
theorem Turned.below {sb B : Nat} {w0 w w' : World} (h0 : Below B w0 w) (h : Turned sb w w') (h1 : B ≤ sb) (h2 : B ≤ w.heap.size) : Below B w0 w' :=
  h0.trans ⟨h.os, h.tape, h.output, h.size, fun k hk => h.block k (by omega) (by omega)⟩
theorem Turned.drew {sb : Nat} {a w : World} (h : Turned sb a w) : Turned sb a w.drew := ⟨h.os, h.tape, h.output, h.size, h.block⟩
theorem Turned.setCell {sb : Nat} {a w : World} (h : Turned sb a w) (i : Nat) (u : Value) : Turned sb a (w.setCell ⟨sb, i, none⟩ u) :=
  h.trans ⟨rfl, rfl, rfl, by simp [World.setCell], fun k _ hk => heap_setCell_other _ _ _ _ hk⟩
theorem Turned.setRow {sb : Nat} {a w : World} (h : Turned sb a w) (cs : Array Value) : Turned sb a (w.setRow sb cs) :=
  h.trans ⟨rfl, rfl, rfl, by simp, fun k _ hk => setRow_other _ _ _ _ hk⟩
theorem Turned.cell {sb : Nat} {w w' : World} (h : Turned sb w w') (p : Addr) (h1 : p.block < w.heap.size) (h2 : p.block ≠ sb) : w'.cell? p = w.cell? p := by
  simp only [World.cell?, h.block p.block h1 h2]
theorem Tabs.lt {w : World} (h : Tabs w) : 2 < w.heap.size ∧ 1 < w.heap.size :=
  ⟨World.block_lt_of_cell? w _ (h.keys 0 (by omega)), World.block_lt_of_cell? w _ (h.first 0 (by omega))⟩
theorem Tabs.turned {sb : Nat} {w w' : World} (h : Tabs w) (ht : Turned sb w w') (h1 : 2 < sb) (_h2 : 1 < sb) : Tabs w' :=
  ⟨fun i hi => (ht.cell ⟨_, i, none⟩ h.lt.1 (by simp only; omega)).trans (h.keys i hi), fun i hi => (ht.cell ⟨_, i, none⟩ h.lt.2 (by simp only; omega)).trans (h.first i hi)⟩
theorem Tabs.below {B : Nat} {w w' : World} (h : Tabs w) (hb : Below B w w') (h1 : 2 < B) (h2 : 1 < B) : Tabs w' :=
  ⟨fun i hi => (hb.cell (p := ⟨_, i, none⟩) h1).trans (h.keys i hi), fun i hi => (hb.cell (p := ⟨_, i, none⟩) h2).trans (h.first i hi)⟩

theorem stCells_hash (hs : List W32) (rest : List UInt8) (n i : Nat) (h : i < hs.length) : (stCells hs rest n)[i]? = some (.int .u32 (wv (hs.getD i 0))) := by
  simp only [stCells, List.getElem?_toArray]
  rw [List.getElem?_append_left (by simpa using h)]
  simp [List.getElem?_eq_getElem h]
theorem stCells_set (hs : List W32) (rest : List UInt8) (n i : Nat) (x : W32) (h : i < hs.length) : (stCells hs rest n).setIfInBounds i (.int .u32 (wv x)) = stCells (hs.set i x) rest n := by
  simp only [stCells, List.setIfInBounds_toArray]
  rw [List.set_append_left _ _ (by simpa using h), List.map_set]
theorem stCells_rest (hs : List W32) (rest : List UInt8) (n i : Nat) (hh : hs.length = 8) (h : i < rest.length) : (stCells hs rest n)[8 + i]? = some (bval (rest.getD i 0)) := by
  simp only [stCells, List.getElem?_toArray]
  rw [List.getElem?_append_right (by simp; omega), List.getElem?_append_left (by simp; omega)]
  simp [hh, List.getElem?_eq_getElem h]
theorem stCells_len (hs : List W32) (rest : List UInt8) (n : Nat) (hh : hs.length = 8) (h : rest.length = 64) : (stCells hs rest n)[72]? = some (.int .u64 (n : Int)) := by
  simp only [stCells, List.getElem?_toArray]
  rw [List.getElem?_append_right (by simp; omega), List.getElem?_append_right (by simp; omega)]
  simp [hh, h]
theorem stCells_size (hs : List W32) (rest : List UInt8) (n : Nat) (hh : hs.length = 8) (h : rest.length = 64) : (stCells hs rest n).size = 73 := by simp [stCells, hh, h]
theorem StateAt.hash {w : World} {sb : Nat} {hs : List W32} {rest : List UInt8} {n : Nat} (h : StateAt w sb hs rest n) (i : Nat) (hi : i < 8) : w.cell? ⟨sb, i, none⟩ = some (.int .u32 (wv (hs.getD i 0))) :=
  (cell_of_row w sb i _ _ _ h.1).trans (stCells_hash hs rest n i (by rw [h.2.1]; exact hi))
theorem StateAt.len {w : World} {sb : Nat} {hs : List W32} {rest : List UInt8} {n : Nat} (h : StateAt w sb hs rest n) : w.cell? ⟨sb, 72, none⟩ = some (.int .u64 (n : Int)) :=
  (cell_of_row w sb 72 _ _ _ h.1).trans (stCells_len hs rest n h.2.1 h.2.2)
theorem StateAt.lt {w : World} {sb : Nat} {hs : List W32} {rest : List UInt8} {n : Nat} (h : StateAt w sb hs rest n) : sb < w.heap.size := World.block_lt_of_cell? w _ h.len
theorem StateAt.below {w w' : World} {sb B : Nat} {hs : List W32} {rest : List UInt8} {n : Nat} (h : StateAt w sb hs rest n) (hb : Below B w w') (hB : sb < B) : StateAt w' sb hs rest n :=
  ⟨(hb.block sb hB).trans h.1, h.2⟩
theorem StateAt.setHash {w : World} {sb : Nat} {hs : List W32} {rest : List UInt8} {n : Nat} (h : StateAt w sb hs rest n) (i : Nat) (hi : i < 8) (x : W32) : StateAt (w.setCell ⟨sb, i, none⟩ (.int .u32 (wv x))) sb (hs.set i x) rest n :=
  ⟨(heap_setCell_same w sb i _ _ _ h.1).trans (by rw [stCells_set _ _ _ _ _ (by rw [h.2.1]; exact hi)]), by rw [List.length_set]; exact h.2.1, h.2.2⟩

theorem agg_index (V : V8) (t : Nat) (h : t < 8) (W : World) :
    (Instr.index 61 (.agg #[.int .u32 (wv V.a), .int .u32 (wv V.b), .int .u32 (wv V.c), .int .u32 (wv V.d), .int .u32 (wv V.e), .int .u32 (wv V.f), .int .u32 (wv V.g), .int .u32 (wv V.h)]) (.int .i64 (t : Int))).run Tryd.prog W =
      .ok (.int .u32 (wv (V.list.getD t 0))) W := by
  match t, h with
  | 0, _ => go_simp; rfl
  | 1, _ => go_simp; rfl
  | 2, _ => go_simp; rfl
  | 3, _ => go_simp; rfl
  | 4, _ => go_simp; rfl
  | 5, _ => go_simp; rfl
  | 6, _ => go_simp; rfl
  | 7, _ => go_simp; rfl

set_option maxHeartbeats 1600000 in
set_option maxRecDepth 4000 in
theorem mix_core (sb : Nat) (hs ws : List W32) (rest : List UInt8) (n : Nat) (bk off cap : Nat) (bs : List UInt8) (w : World) (hws : ws.length = 64) (hB : bk < w.heap.size) (hA : At w bk off bs)
    (hsp : ∀ w, bk < w.heap.size → At w bk off bs → Calls Tryd.prog 32 #[.slice (some ⟨bk, off, none⟩) 64 cap] w fun e w' => e = .returned (.agg (wcells ws)) ∧ Below w.heap.size w w')
    (hS : StateAt w sb hs rest n) (hT : Tabs w) (h1 : 2 < sb) :
    Calls Tryd.prog 27 #[.pointer (some ⟨sb, 0, none⟩), .slice (some ⟨bk, off, none⟩) 64 cap] w fun e w' => e = .returned (.tuple #[]) ∧ StateAt w' sb (addUp hs (rnds ws (v8 hs) 64).list 8) rest n ∧ Turned sb w w' := by
  have hsz : (Tryd.prog.info? 68).map (·.size) = some 64 := by kernel_rfl
  have hlt := hS.lt
  have HA := hidden hA
  have HS := hidden hS
  have HT := hidden hT
  have hl8 := hS.2.1
  have hcs : (wcells ws).size = 64 := by rw [wcells_size, hws]
  obtain ⟨cs, hce⟩ : ∃ cs, wcells ws = cs := ⟨_, rfl⟩
  rw [hce] at hcs hsp
  have HC := hidden hce
  have HP := hidden hsp
  clear hA hS hT hce hsp
  go_enter Tryd.func27, Tryd.ntmps27
  go_wp2_with fail
  refine (HP.out _ hB HA.out).mono ?_; rintro e w1 ⟨rfl, hb1⟩
  go_wp2
  rw [run_storeCells_new w1 68 _ cs (by rw [hcs]; exact hsz) (by rw [hcs]; rfl) (wcells_one _ _ HC.out)]
  have hb2 : Below w.heap.size w (w1.alloc (.cells cs 68)) := hb1.alloc hb1.size _
  have hg2 : (w1.alloc (.cells cs 68)).heap[w1.heap.size]? = some (.cells cs 68 (0, 0)) := heap_alloc_new _ _
  generalize w1.alloc (.cells cs 68) = w2 at hb2 hg2 ⊢
  obtain ⟨g, hg⟩ : ∃ g, w1.heap.size = g := ⟨_, rfl⟩
  have hgs : w.heap.size ≤ g := hg ▸ hb1.size
  rw [hg] at hg2 ⊢
  clear hb1 hg
  have hS2 := HS.out.below hb2 hlt
  have HG := hidden hg2
  have HB := hidden hb2
  have hg2lt : g < w2.heap.size := by
    have := Array.getElem?_eq_some_iff.1 hg2
    exact this.1
  clear hg2 hb2
  obtain ⟨v, hv⟩ : ∃ v, v8 hs = v := ⟨_, rfl⟩
  have e0 : hs.getD 0 0 = v.a := by rw [← hv]; rfl
  have e1 : hs.getD 1 0 = v.b := by rw [← hv]; rfl
  have e2 : hs.getD 2 0 = v.c := by rw [← hv]; rfl
  have e3 : hs.getD 3 0 = v.d := by rw [← hv]; rfl
  have e4 : hs.getD 4 0 = v.e := by rw [← hv]; rfl
  have e5 : hs.getD 5 0 = v.f := by rw [← hv]; rfl
  have e6 : hs.getD 6 0 = v.g := by rw [← hv]; rfl
  have e7 : hs.getD 7 0 = v.h := by rw [← hv]; rfl
  have c0 := hS2.hash 0 (by omega)
  have c1 := hS2.hash 1 (by omega)
  have c2 := hS2.hash 2 (by omega)
  have c3 := hS2.hash 3 (by omega)
  have c4 := hS2.hash 4 (by omega)
  have c5 := hS2.hash 5 (by omega)
  have c6 := hS2.hash 6 (by omega)
  have c7 := hS2.hash 7 (by omega)
  rw [e0] at c0; rw [e1] at c1; rw [e2] at c2; rw [e3] at c3; rw [e4] at c4; rw [e5] at c5; rw [e6] at c6; rw [e7] at c7
  clear e0 e1 e2 e3 e4 e5 e6 e7
  have HS2 := hidden hS2
  have HV := hidden hv
  clear hS2 hv
  go_wp2
  go_quiet (fail)
  have hb3 := below_drewN (Below.refl w2.heap.size w2) nq
  have d4 := (hb3.cell (p := ⟨sb, 4, none⟩) (by simp only; omega)).trans c4
  have d5 := (hb3.cell (p := ⟨sb, 5, none⟩) (by simp only; omega)).trans c5
  have d6 := (hb3.cell (p := ⟨sb, 6, none⟩) (by simp only; omega)).trans c6
  have d7 := (hb3.cell (p := ⟨sb, 7, none⟩) (by simp only; omega)).trans c7
  clear c0 c1 c2 c3 c4 c5 c6 c7
  have HB3 := hidden hb3
  clear hb3
  generalize w2.drewN nq = w3 at HB3 d4 d5 d6 d7 ⊢
  go_wp2
  go_quiet (fail)
  have HB4 := hidden (below_drewN HB3.out nq)
  generalize w3.drewN nq = w4 at HB4 ⊢
  clear d4 d5 d6 d7 HB3
  go_wp2
  have hsz2 : w.heap.size ≤ w2.heap.size := HB.out.size
  go_loopw [5, 6, 7, 8, 9, 10, 11, 12, 64] (fun a b c d e f g h i wr => ∃ t : Nat, ∃ V : V8, t ≤ 64 ∧ i = .int .i64 t ∧ a = .int .u32 (wv V.a) ∧ b = .int .u32 (wv V.b) ∧ c = .int .u32 (wv V.c) ∧ d = .int .u32 (wv V.d) ∧ e = .int .u32 (wv V.e) ∧ f = .int .u32 (wv V.f) ∧ g = .int .u32 (wv V.g) ∧ h = .int .u32 (wv V.h) ∧ Hid (V = rnds ws v t) ∧ Hid (Below w2.heap.size w2 wr)) (fun _ _ _ _ _ _ _ _ i _ => 64 - (intOf i).toNat)
  case atStart => exact ⟨0, v, Nat.zero_le _, rfl, rfl, rfl, rfl, rfl, rfl, rfl, rfl, rfl, rfl, HB4⟩
  case round =>
    obtain ⟨t, V, ht, rfl, rfl, rfl, rfl, rfl, rfl, rfl, rfl, rfl, hV, hb⟩ := hrel
    by_cases hlt2 : t < 64
    · have hk := ((HT.out.below HB.out (by omega) (by omega)).below hb.out (by omega) (by omega)).keys t hlt2
      have hw : wr.cell? ⟨g, t, none⟩ = some (.int .u32 (wv (ws.getD t 0))) := by
        rw [cell_of_row wr g t cs _ (0, 0) ((hb.out.block g hg2lt).trans HG.out), ← HC.out]
        exact wcells_get _ _ (by omega)
      generalize eK : kTab.getD t 0 = kt at hk
      generalize eW : ws.getD t 0 = wt at hw
      have EK := hidden eK
      have EW := hidden eW
      clear eK eW
      have l1 : bits .xor .u32 (bits .xor .u32 (wv (rotr V.e 6)) (wv (rotr V.e 11))) (wv (rotr V.e 25)) = wv (sum1 V.e) := by rw [w_xor, w_xor]; rfl
      have l0 : bits .xor .u32 (bits .xor .u32 (wv (rotr V.a 2)) (wv (rotr V.a 13))) (wv (rotr V.a 22)) = wv (sum0 V.a) := by rw [w_xor, w_xor]; rfl
      have lc : bits .xor .u32 (bits .and .u32 (wv V.e) (wv V.f)) (bits .and .u32 (bits .xor .u32 IntKind.u32.max (wv V.e)) (wv V.g)) = wv (cho V.e V.f V.g) := by rw [w_not, w_and, w_and, w_xor]; rfl
      have lm : bits .xor .u32 (bits .xor .u32 (bits .and .u32 (wv V.a) (wv V.b)) (bits .and .u32 (wv V.a) (wv V.c))) (bits .and .u32 (wv V.b) (wv V.c)) = wv (maj V.a V.b V.c) := by rw [w_and, w_and, w_and, w_xor, w_xor]; rfl
      have l2 := w_add5 V.h (sum1 V.e) (cho V.e V.f V.g) kt wt
      have l3 := w_add' (sum0 V.a) (maj V.a V.b V.c)
      rw [show V.h + sum1 V.e + cho V.e V.f V.g + kt + wt = tee kt wt V from rfl] at l2
      generalize eT : tee kt wt V = T1 at l2
      generalize eU : sum0 V.a + maj V.a V.b V.c = T2 at l3
      have l4 := w_add' T1 T2
      have l5 := w_add' V.d T1
      have ET := hidden eT
      have EU := hidden eU
      clear eT eU
      go_wp2_with (go_at_call 33; (first | with_reducible refine (rot_at V.e 6 (-6) rfl (by omega) (by omega) _).mono ?_ | with_reducible refine (rot_at V.e 11 (-11) rfl (by omega) (by omega) _).mono ?_ | with_reducible refine (rot_at V.e 25 (-25) rfl (by omega) (by omega) _).mono ?_); rintro e w' ⟨rfl, rfl⟩)
      go_quiet (fail)
      have hb' := below_drewN hb.out nq
      generalize World.drewN w' nq = w5 at hb' ⊢
      go_wp2_with (go_at_call 33; (first | with_reducible refine (rot_at V.a 2 (-2) rfl (by omega) (by omega) _).mono ?_ | with_reducible refine (rot_at V.a 13 (-13) rfl (by omega) (by omega) _).mono ?_ | with_reducible refine (rot_at V.a 22 (-22) rfl (by omega) (by omega) _).mono ?_); rintro e w' ⟨rfl, rfl⟩)
      go_roundw
      case rel =>
        refine ⟨t + 1, rnd kt wt V, by omega, by go_num, ?_, rfl, rfl, rfl, ?_, rfl, rfl, rfl, ?_, hidden hb'⟩
        · rw [rnd, ET.out, EU.out]; exact congrArg (Value.int .u32) l4
        · rw [rnd, ET.out]; exact congrArg (Value.int .u32) l5
        · refine hidden ?_
          rw [rnds, ← hV.out, EK.out, EW.out]
      case measure => simp [intOf]; omega
    · have h64 : Hid (t = 64) := hidden (by omega)
      go_wp2
      have HS4 := hidden (HS2.out.below hb.out (by omega))
      have HV4 := hidden (show V.list = (rnds ws (v8 hs) 64).list by rw [hV.out, h64.out, HV.out])
      have HB5 := hidden (Turned.of_below (sb := sb) (HB.out.trans (hb.out.mono hsz2)))
      clear HV HS2 HB HB4 HT HA HS HP HC HG hV h64 hb
      go_loopw [140] (fun i wr => ∃ t : Nat, t ≤ 8 ∧ i = .int .i64 t ∧ Hid (StateAt wr sb (addUp hs V.list t) rest n) ∧ Hid (Turned sb w wr)) (fun i _ => 8 - (intOf i).toNat)
      case atStart => exact ⟨0, Nat.zero_le _, rfl, HS4, HB5⟩
      case round =>
        clear HS4 HB5
        obtain ⟨t, ht, rfl, hS, hb⟩ := hrel
        by_cases hlt8 : t < 8
        · have hcc := hS.out.hash t hlt8
          have hff := frozen_of_row wr sb t _ _ hS.out.1
          generalize eH : (addUp hs V.list t).getD t 0 = ht0 at hcc
          have EH := hidden eH
          clear eH
          have hix := agg_index V t hlt8
          generalize eX : V.list.getD t 0 = xt at hix
          have EX := hidden eX
          clear eX
          have l6 := w_add' ht0 xt
          go_wp2
          go_region
          rw [l6]
          have HN := hidden (hS.out.setHash t hlt8 (ht0 + xt))
          have HM := hidden (hb.out.setCell t (.int .u32 (wv (ht0 + xt))))
          go_wp2
          go_roundw
          case rel =>
            refine ⟨t + 1, by omega, by go_num, hidden ?_, hidden HM.out.drew⟩
            rw [addUp, EH.out, EX.out]
            exact HN.out
          case measure => simp [intOf]; omega
        · have h8 : Hid (t = 8) := hidden (by omega)
          go_wp2
          have hE : StateAt wr sb (addUp hs (rnds ws (v8 hs) 64).list 8) rest n := by rw [← HV4.out, ← h8.out]; exact hS.out
          go_end0
          exact ⟨rfl, hE, hb.out⟩
theorem mix_any (sb : Nat) (hs : List W32) (rest : List UInt8) (n : Nat) (bk off cap : Nat) (bs : List UInt8) (w : World) (hn : bs.length = 64) (hc : 64 ≤ cap) (hB : bk < w.heap.size) (hA : At w bk off bs)
    (hS : StateAt w sb hs rest n) (hT : Tabs w) (h1 : 2 < sb) :
    Calls Tryd.prog 27 #[.pointer (some ⟨sb, 0, none⟩), .slice (some ⟨bk, off, none⟩) 64 cap] w fun e w' => e = .returned (.tuple #[]) ∧ StateAt w' sb (mixF hs bs) rest n ∧ Turned sb w w' :=
  mix_core sb hs (wsB bs 48) rest n bk off cap bs w (wsB_len _ _) hB hA (fun w hB hA => spread_any bk off cap bs w hn hc hB hA) hS hT h1
end Go.Proofs.YtffmldplchlnpaaDoor
