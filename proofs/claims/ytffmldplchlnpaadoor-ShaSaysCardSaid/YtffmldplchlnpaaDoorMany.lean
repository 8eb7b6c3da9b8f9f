/- What Many answers, and that the chapter's example stands. Conditions: the package's tables are as its text lays them; fewer than 2^30 bytes. -/
import Derived.Test.YtffmldplchlnpaaDoorText
import Derived.Test.YtffmldplchlnpaaDoorAbc
import Derived.Lib.ConvBytes
import Derived.ArgAppend
namespace Go.Proofs.YtffmldplchlnpaaDoor
open Go.RowKit

/-- A list of texts that comes in. -/
def TextsAt (W : World) (ao : Option Addr) (xs : List ByteArray) : Prop :=
  xs = [] ∨ ∃ bk o, ao = some ⟨bk, o, none⟩ ∧ bk < W.heap.size ∧ ∀ (j : Nat) z, xs[j]? = some z → W.cell? ⟨bk, o + j, none⟩ = some (.string z)
theorem TextsAt.below {W W' : World} {ao : Option Addr} {xs : List ByteArray} (h : TextsAt W ao xs) (hb : Below W.heap.size W W') : TextsAt W' ao xs := by
  rcases h with h | ⟨bk, o, h1, h3, h4⟩
  · exact .inl h
  · exact .inr ⟨bk, o, h1, Nat.lt_of_lt_of_le h3 hb.size, fun j z hz => (hb.cell (p := ⟨bk, o + j, none⟩) h3).trans (h4 j z hz)⟩

/-- The chapter's example, its answer under a name. -/
theorem abc_of : ∃ dg : List UInt8, dg.length = 32 ∧ hexT dg = [98, 97, 55, 56, 49, 54, 98, 102, 56, 102, 48, 49, 99, 102, 101, 97, 52, 49, 52, 49, 52, 48, 100, 101, 53, 100, 97, 101, 50, 50, 50, 51, 98, 48, 48, 51, 54, 49, 97, 51, 57, 54, 49, 55, 55, 97, 57, 99, 98, 52, 49, 48, 102, 102, 54, 49, 102, 50, 48, 48, 49, 53, 97, 100] ∧ ∀ ao cap w, 3 ≤ cap → Src w ao [97, 98, 99] → Tabs w → 2 < w.heap.size →
    Calls Tryd.prog 10 #[.slice ao 3 cap] w fun e w' => e = .returned (.agg (bcells dg)) ∧ Below w.heap.size w w' :=
  ⟨_, digest_len _, abc_hex, fun ao cap w hc hX hT h1 => of_any ao cap [97, 98, 99] w hc (by decide) hX hT h1⟩
theorem three_at (a b c : UInt8) (w : World) (t : TypeId) : At (w.alloc (.cells #[bval a, bval b, bval c] t)) w.heap.size 0 [a, b, c] := fun j x hx => by
  rw [cell_of_row _ w.heap.size (0 + j) _ _ _ (heap_alloc_new _ _), Nat.zero_add]
  match j, hx with
  | 0, hx => simp at hx; subst hx; rfl
  | 1, hx => simp at hx; subst hx; rfl
  | 2, hx => simp at hx; subst hx; rfl
  | j + 3, hx => simp at hx

/-- The world behind the conversion of a literal of bytes. -/
def marked (w : World) (cs : Array Value) (t : TypeId) : World := (w.alloc (.cells cs t)).freeze ⟨w.heap.size, cs.size, none⟩ 1
theorem marked_old (w : World) (cs : Array Value) (t : TypeId) (j : Nat) (hj : j < w.heap.size) : (marked w cs t).heap[j]? = w.heap[j]? := by
  have h1 : w.heap.size ≠ j := by omega
  simp [marked, World.freeze, World.alloc, -World.alloc_eq, Array.getElem?_modify, Array.getElem?_push, h1, Ne.symm h1]
theorem marked_new (w : World) (cs : Array Value) (t : TypeId) : (marked w cs t).heap[w.heap.size]? = some (.cells cs t (cs.size, cs.size + 1)) := by
  simp [marked, World.freeze, World.alloc, -World.alloc_eq]
  rw [Array.getElem_modify_self]
  simp
theorem marked_size (w : World) (cs : Array Value) (t : TypeId) : (marked w cs t).heap.size = w.heap.size + 1 := by
  simp [marked, World.freeze, World.alloc, -World.alloc_eq]
theorem marked_below (w : World) (cs : Array Value) (t : TypeId) : Below w.heap.size w (marked w cs t) :=
  ⟨rfl, rfl, rfl, by rw [marked_size]; omega, fun k hk => marked_old w cs t k hk⟩
theorem marked_at (w : World) (a b c : UInt8) (t : TypeId) : At (marked w #[bval a, bval b, bval c] t) w.heap.size 0 [a, b, c] := fun j x hx => by
  rw [cell_of_row _ w.heap.size (0 + j) _ _ _ (marked_new _ _ _), Nat.zero_add]
  match j, hx with
  | 0, hx => simp at hx; subst hx; rfl
  | 1, hx => simp at hx; subst hx; rfl
  | 2, hx => simp at hx; subst hx; rfl
  | j + 3, hx => simp at hx
theorem run_convert_same (w : World) (cs : Array Value) (l c : Nat) :
    (convert 22 22 (.slice (some ⟨w.heap.size, 0, none⟩) l c)).run Tryd.prog (w.alloc (.cells cs 5)) = .ok (.slice (some ⟨w.heap.size, 0, none⟩) l c) (marked w cs 5) := by
  have hsh : (w.alloc (.cells cs 5)).shape? w.heap.size = some (5, cs.size) := by
    simp [World.shape?, World.alloc, -World.alloc_eq]
  simp [convert, run_underlying Tryd.underlying22, run_underlying Tryd.underlying5, markStringish, hsh, marked, Result.andThen]

theorem example_any (w : World) (hT : Tabs w) (h1 : 2 < w.heap.size) :
    Calls Tryd.prog 6 #[] w fun e w' => e = .returned (.bool true) ∧ Below w.heap.size w w' := by
  obtain ⟨dg, hl, hx, hof⟩ := abc_of
  have htx := fun W => text_any dg hl W
  rw [hx] at htx
  have hb1 : Below w.heap.size w (marked w #[.int .u8 97, .int .u8 98, .int .u8 99] 5) := marked_below _ _ _
  have hs1 := marked_size w #[.int .u8 97, .int .u8 98, .int .u8 99] 5
  have hA : Src (marked w #[.int .u8 97, .int .u8 98, .int .u8 99] 5) (some ⟨w.heap.size, 0, none⟩) [97, 98, 99] := fun _ => ⟨_, _, rfl, by rw [hs1]; omega, marked_at w 97 98 99 _⟩
  have ho := hidden (hof (some ⟨w.heap.size, 0, none⟩) 3 _ (Nat.le_refl _) hA (hT.below hb1 h1 (by omega)) (by rw [hs1]; omega))
  have hcv := run_convert_same w #[.int .u8 97, .int .u8 98, .int .u8 99] 3 3
  have HTX := hidden htx
  have HB := hidden hb1
  generalize marked w #[.int .u8 97, .int .u8 98, .int .u8 99] 5 = w1 at HB ho hcv hs1
  have HS1 := hidden hs1
  clear htx hof hx hT hA hb1 hs1
  go_enter Tryd.func6, Tryd.ntmps6
  go_wp2_with (first | (go_at_call 10; refine ho.out.mono ?_; rintro e w2 ⟨rfl, hb2⟩) | (go_at_call 9; refine (HTX.out _).mono ?_; rintro e w3 ⟨rfl, hb3⟩))
  go_ret
  have hs2 := hb2.size
  have hs1 := HS1.out
  exact ⟨rfl, (HB.out.trans (hb2.mono (by omega))).trans (hb3.mono (by omega))⟩

def manyT (l : List ByteArray) : List UInt8 := l.flatMap fun s => words4 s.size ++ s.data.toList
theorem manyT_snoc (l : List ByteArray) (t : Nat) (h : t < l.length) : manyT (l.take (t + 1)) = manyT (l.take t) ++ words4 l[t].size ++ l[t].data.toList := by
  rw [List.take_succ_eq_append_getElem h, manyT, manyT, List.flatMap_append]
  simp
theorem manyT_le (l : List ByteArray) (t : Nat) : (manyT (l.take t)).length ≤ (manyT l).length := by
  have h : manyT l = manyT (l.take t) ++ manyT (l.drop t) := by rw [manyT, manyT, manyT, ← List.flatMap_append, List.take_append_drop]
  rw [h, List.length_append]
  omega
theorem text_at (w : World) (s : ByteArray) : At (Lib.bytesWorld w 5 s) w.heap.size 0 s.data.toList := fun j x hx => by
  have hj := (List.getElem?_eq_some_iff.1 hx).1
  rw [Nat.zero_add, Lib.bytesWorld_cell w _ s j (by rw [Array.length_toList] at hj; exact hj), List.getD_eq_getElem?_getD, hx]
  rfl

set_option maxHeartbeats 1600000 in
theorem many_core (cg : Array Value) (hdm : cg.size = 32) (hone : cg.all (·.oneCell') = true) (xs : List ByteArray) (ao : Option Addr) (cap : Nat) (w : World) (hn : xs.length < 1073741824) (htot : (manyT xs).length < 1073741824) (hsum : SumSays (manyT xs) cg)
    (hX : TextsAt w ao xs) (hT : Tabs w) (h1 : 2 < w.heap.size) :
    Calls Tryd.prog 13 #[.slice ao xs.length cap] w fun e w' => e = .returned (.agg cg) ∧ Below w.heap.size w w' := by
  have hinfo2 : (Tryd.prog.info? 26).map (·.size) = some 32 := by kernel_rfl
  have HSUM := hidden hsum
  have HX := hidden hX
  have HT := hidden hT
  have HONE := hidden hone
  obtain ⟨l, hl⟩ : ∃ l, xs.length = l := ⟨_, rfl⟩
  have HL := hidden hl
  rw [hl] at hn ⊢
  have HTOT := hidden htot
  clear hsum hX hT hone hl htot
  go_enter Tryd.func13, Tryd.ntmps13
  go_wp2_with fail
  obtain ⟨z, hz'⟩ : ∃ z : Array Value, z = #[Value.int .u8 0, Value.int .u8 0, Value.int .u8 0, Value.int .u8 0, Value.int .u8 0, Value.int .u8 0, Value.int .u8 0, Value.int .u8 0, Value.int .u8 0, Value.int .u8 0, Value.int .u8 0, Value.int .u8 0, Value.int .u8 0, Value.int .u8 0, Value.int .u8 0, Value.int .u8 0, Value.int .u8 0, Value.int .u8 0, Value.int .u8 0, Value.int .u8 0, Value.int .u8 0, Value.int .u8 0, Value.int .u8 0, Value.int .u8 0, Value.int .u8 0, Value.int .u8 0, Value.int .u8 0, Value.int .u8 0, Value.int .u8 0, Value.int .u8 0, Value.int .u8 0, Value.int .u8 0] := ⟨_, rfl⟩
  have hz32 : z.size = 32 := by rw [hz']; rfl
  rw [← hz']
  clear hz'
  have hb1 : Below w.heap.size w (w.alloc (.cells z 26)) := (Below.refl _ _).alloc (Nat.le_refl _) _
  have hres : (w.alloc (.cells z 26)).heap[w.heap.size]? = some (.cells z 26 (0, 0)) := heap_alloc_new _ _
  have hsz2 : (w.alloc (.cells z 26)).heap.size = w.heap.size + 1 := by simp
  generalize w.alloc (.cells z 26) = w2 at hb1 hres hsz2 ⊢
  have hT2 := HT.out.below hb1 (by omega) (by omega)
  refine (new_any w2 hT2).mono ?_
  rintro e w3 ⟨rfl, hS3, hb3⟩
  have hszb := hb3.size
  obtain ⟨sb, hsb⟩ : ∃ sb, w2.heap.size = sb := ⟨_, rfl⟩
  have hsw : w.heap.size < sb := by omega
  rw [hsb] at hS3 hb3 hszb ⊢
  clear hsz2
  have hlt3 : sb < w3.heap.size := by
    obtain ⟨_, h, _⟩ := hS3
    exact h.lt
  have HS3 := hidden hS3
  have HB3 := hidden hb3
  have HB1 := hidden hb1
  have HRES := hidden hres
  have HT2 := hidden hT2
  have hX2 := hidden (HX.out.below hb1)
  have hbkl : Hid (w2.heap.size = sb) := hidden hsb
  clear hS3 hb3 hb1 hres hT2 hsb hszb
  go_wp2
  go_loopw [9] (fun i wr => ∃ t : Nat, t ≤ l ∧ i = .int .i64 t ∧ Hid (StateOf wr sb (manyT (xs.take t))) ∧ Hid (Below sb w2 wr) ∧ sb < wr.heap.size) (fun i _ => l - (intOf i).toNat)
  case atStart => exact ⟨0, Nat.zero_le _, rfl, HS3, HB3, hlt3⟩
  case round =>
    clear HS3 HB3 hlt3
    obtain ⟨t, ht, rfl, hS, hb, hsz⟩ := hrel
    by_cases hlt : t < l
    · have hlt' : t < xs.length := by have := HL.out; omega
      rcases hX2.out with h0 | ⟨bk, o, rfl, hbk, hcell⟩
      · rw [h0] at hlt'; exact absurd hlt' (by simp)
      · have hbk' : bk < sb := by have := hbkl.out; omega
        have hc0 : wr.cell? ⟨bk, o + t, none⟩ = some (.string xs[t]) := (hb.out.cell (p := ⟨bk, o + t, none⟩) hbk').trans (hcell t _ (List.getElem?_eq_getElem hlt'))
        have hsn := manyT_snoc xs t hlt'
        have hle := manyT_le xs (t + 1)
        have htt := HTOT.out
        obtain ⟨x, hx⟩ : ∃ x, xs[t] = x := ⟨_, rfl⟩
        rw [hx] at hc0 hsn
        have hlen1 : (manyT (xs.take t)).length + 4 + x.size < 1073741824 := by
          rw [hsn] at hle
          simp only [List.length_append, words4_len] at hle
          have : x.data.toList.length = x.size := Array.length_toList
          omega
        have hxz : x.size < 1073741824 := by omega
        have HSN := hidden hsn
        have HLEN := hidden hlen1
        clear hcell hx hsn hle htt hlen1
        have hxl : x.data.toList.length = x.size := Array.length_toList
        have HXL := hidden hxl
        clear hxl
        go_wp2_with fail
        refine (appendWord_any wr.heap.size (.slice none 0 0) [] x.size (by omega) wr (ownB_nil _ _) (Nat.le_refl _) (by simp)).mono ?_
        rintro e w4 ⟨pv, rfl, ho, hb4⟩
        rw [List.nil_append] at ho
        obtain ⟨ao4, pc, rfl, hpc, hpat⟩ := ho.at
        have hb24 := hb.out.trans (hb4.mono (by omega))
        have hT4 := HT2.out.below hb24 (by omega) (by omega)
        have hw1 := write_any sb (manyT (xs.take t)) (words4 x.size) ao4 pc w4 hpc (by have := HLEN.out; rw [words4_len]; omega) (fun hp => by
          obtain ⟨g, e1, e2, e3, e4⟩ := hpat hp
          exact ⟨g, 0, e1, e3, by omega, e4⟩) (hS.out.below hb4 (by omega)) hT4 (by omega)
        have hsz4 := hb4.size
        have HW1 := hidden hw1
        have HB24 := hidden hb24
        clear ho hpat hw1 hb24 hb4 hb hT4
        go_wp2_with fail
        refine (HW1.out).mono ?_
        rintro e w5 ⟨rfl, hS5, hb5⟩
        have hb25 := hb5.below HB24.out (Nat.le_refl _) (by omega)
        have hsz5 := hb5.size
        have hcvt := fun W => Lib.run_convert_string_bytes (P := Tryd.prog) W 9 22 5 x Tryd.underlying9 Tryd.underlying22 Tryd.underlying5
        have hbw : Below w5.heap.size w5 (Lib.bytesWorld w5 5 x) := ⟨rfl, rfl, rfl, by rw [Lib.bytesWorld_size]; omega, fun k hk => Lib.bytesWorld_at_old w5 _ x k hk⟩
        have hb26 := hb25.trans (hbw.mono (by omega))
        have hs6 := Lib.bytesWorld_size w5 5 x
        have hge := grownCap_ge w5 x.size 0 5
        have hat6 := text_at w5 x
        have hw2 := write_any sb (manyT (xs.take t) ++ words4 x.size) x.data.toList (some ⟨w5.heap.size, 0, none⟩) (grownCap w5 x.size 0 5) (Lib.bytesWorld w5 5 x) (by rw [HXL.out]; exact hge) (by have := HLEN.out; rw [List.length_append, words4_len, HXL.out]; omega)
          (fun _ => ⟨_, _, rfl, by omega, by omega, hat6⟩) (hS5.below hbw (by omega)) (HT2.out.below hb26 (by omega) (by omega)) (by omega)
        rw [HXL.out, ← HSN.out] at hw2
        have HW2 := hidden hw2
        have HB26 := hidden hb26
        have HS6 := hidden hs6
        clear hS5 hb5 hb25 hbw hb26 hs6 hge hat6 hw2 HW1 HB24
        go_wp2_with fail
        refine (HW2.out).mono ?_
        rintro e w7 ⟨rfl, hS7, hb7⟩
        have HS7 := hidden hS7
        have hs7 := hb7.size
        have HB7 := hidden (hb7.below HB26.out (Nat.le_refl _) (by have := HS6.out; omega))
        have hs8 : sb < w7.heap.size := by have := HS6.out; omega
        clear hS7 hb7 hcvt hs7
        go_wp2
        go_roundw
        case rel => exact ⟨t + 1, by omega, by go_num, HS7, HB7, hs8⟩
        case measure => simp [intOf]; omega
    · have h32 : Hid (t = l) := hidden (by omega)
      have hfin : StateOf wr sb (manyT xs) := by
        have h := hS.out
        rwa [List.take_of_length_le (by rw [HL.out]; omega)] at h
      have hT' := HT2.out.below hb.out (by omega) (by omega)
      have HRES' := hidden ((hb.out.block w.heap.size hsw).trans HRES.out)
      have hcall := HSUM.out sb wr (by omega) hfin hT'
      have HC := hidden hcall
      clear hfin hT' hcall hS
      go_wp2_with (go_at_call 19; refine (HC.out).mono ?_; rintro e w5 ⟨rfl, hb5⟩; have hres5 := (hb5.block w.heap.size (by omega)).trans HRES'.out; have hst5 := run_storeCells_row w5 w.heap.size _ 26 z cg hres5 (by rw [hdm]; exact hinfo2) (by omega) HONE.out)
      refine bodyPost_ret (v := .agg cg) ?_ rfl ⟨rfl, ?_⟩
      · exact results_cell_row (fn := Tryd.f13) (p := 2) (ty := 26) (by kernel_rfl) _ _ w.heap.size _ cg (0, 0) _ (by simp) (setRow_heap w5 w.heap.size z cg _ _ hres5) Tryd.underlying26 rfl (by rw [hdm]; exact hinfo2)
      · exact Below.setRow' ((HB1.out.trans (hb.out.mono (by omega))).trans (hb5.mono (by omega))) (Nat.le_refl _) cg
theorem many_any (xs : List ByteArray) (ao : Option Addr) (cap : Nat) (w : World) (hn : xs.length < 1073741824) (htot : (manyT xs).length < 1073741824) (hX : TextsAt w ao xs) (hT : Tabs w) (h1 : 2 < w.heap.size) :
    Calls Tryd.prog 13 #[.slice ao xs.length cap] w fun e w' => e = .returned (.agg (bcells (digest (manyT xs)))) ∧ Below w.heap.size w w' :=
  many_core _ (by rw [bcells_size, digest_len]) (bcells_one _ _ rfl) xs ao cap w hn htot (sum_says _ htot) hX hT h1
end Go.Proofs.YtffmldplchlnpaaDoor
