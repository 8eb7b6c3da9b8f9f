/- What the reference's Many answers: the digest of the lengths and the bytes. Conditions: at most 20 texts of at most 200 bytes. -/
import Derived.Test.YtffmldplchlnpaaDoorUnhex
import Derived.Test.YtffmldplchlnpaaDoorManysLaw
namespace Go.Proofs.YtffmldplchlnpaaDoor
open Go.RowKit

theorem short_at (n : Nat) (hn : n ≤ 200) (w : World) (t : TypeId) : At (w.alloc (.cells #[.int .u8 0, .int .u8 0, .int .u8 0, .int .u8 (n : Int)] t)) w.heap.size 0 (words4 n) := fun j x hx => by
  rw [cell_of_row _ w.heap.size (0 + j) _ _ _ (heap_alloc_new _ _), Nat.zero_add]
  rw [words4] at hx
  match j, hx with
  | 0, hx =>
    obtain rfl : byteN n 24 = x := by simpa using hx
    rw [bval_byteN, show ((n / 2 ^ 24 % 256 : Nat) : Int) = 0 by omega]
    rfl
  | 1, hx =>
    obtain rfl : byteN n 16 = x := by simpa using hx
    rw [bval_byteN, show ((n / 2 ^ 16 % 256 : Nat) : Int) = 0 by omega]
    rfl
  | 2, hx =>
    obtain rfl : byteN n 8 = x := by simpa using hx
    rw [bval_byteN, show ((n / 2 ^ 8 % 256 : Nat) : Int) = 0 by omega]
    rfl
  | 3, hx =>
    obtain rfl : byteN n 0 = x := by simpa using hx
    rw [bval_byteN, show ((n / 2 ^ 0 % 256 : Nat) : Int) = n by omega]
    rfl
  | j + 4, hx => simp at hx
/-- The text of bytes of the call's own. -/
theorem OwnB.conv {W : World} {B : Nat} {v : Value} {bs : List UInt8} (h : OwnB W B v bs) : (convert 22 9 v).run Tryd.prog W = .ok (.string ⟨bs.toArray⟩) W := by
  rcases h.2 with ⟨rfl, h0⟩ | ⟨g, cap, cur, rfl, hB, hg, hc, _, hs, ht⟩
  · have : bs = [] := by simpa using h0
    subst this
    exact run_convert_bytes_nil W 22 5 Tryd.underlying22 Tryd.underlying5 0 0 9 Tryd.underlying9
  · refine conv_back W g bs.length cap bs rfl fun j x hx => ?_
    rw [cell_of_row W g (0 + j) _ _ _ hg, Nat.zero_add]
    have h1 : (bs.map bval)[j]? = some (bval x) := by rw [List.getElem?_map, hx]; rfl
    rw [← ht, List.getElem?_take] at h1
    split at h1
    · simpa using h1
    · cases h1

set_option maxHeartbeats 1600000 in
theorem rmany_core (cg : Array Value) (hcg : cg.size = 32) (hone : cg.all (·.oneCell') = true) (ao : Option Addr) (cap : Nat) (xs : List ByteArray) (w : World) (h20 : xs.length ≤ 20) (hsm : ∀ j (hj : j < xs.length), xs[j].size ≤ 200) (hX : TextsAt w ao xs)
    (hsum : ∀ W, Calls Tryd.prog 12 #[.string ⟨(manyT xs).toArray⟩] W fun e w' => e = .returned (.agg cg) ∧ Below W.heap.size W w') :
    Calls Tryd.prog 14 #[.slice ao xs.length cap] w fun e w' => e = .returned (.agg cg) ∧ Below w.heap.size w w' := by
  have HX := hidden hX
  have HSM := hidden hsm
  have HSUM := hidden hsum
  have HONE := hidden hone
  have hz := zero_arr
  obtain ⟨l, hl⟩ : ∃ l, xs.length = l := ⟨_, rfl⟩
  have HL := hidden hl
  rw [hl] at h20 ⊢
  clear hX hl hsm hsum hone
  go_enter Tryd.func14, Tryd.ntmps14
  go_wp2
  clear hz
  go_loopw [3, 4] (fun v i wr => ∃ t : Nat, t ≤ l ∧ i = .int .i64 t ∧ Hid (OwnB wr (w.heap.size + 1) v (manyT (xs.take t))) ∧ Hid (Below (w.heap.size + 1) (w.alloc (.cells zero32 25)) wr)) (fun _ i _ => l - (intOf i).toNat)
  case atStart => exact ⟨0, Nat.zero_le _, rfl, ownB_nil _ _, Below.refl _ _⟩
  case round =>
    obtain ⟨t, ht, rfl, ho, hb⟩ := hrel
    have hbw : Below w.heap.size w wr := ((Below.refl _ _).alloc (Nat.le_refl _) _).trans (hb.out.mono (by omega))
    have hle := manyT_small xs 200 t (by have := HL.out; omega) (fun j hj _ => HSM.out j hj)
    have hbs := hb.out.size
    rw [World.size_alloc] at hbs
    have HBW := hidden hbw
    clear hbw
    by_cases hlt : t < l
    · have hlt' : t < xs.length := by have := HL.out; omega
      rcases HX.out with h0 | ⟨bk, o, rfl, hbk, hcell⟩
      · rw [h0] at hlt'; exact absurd hlt' (by simp)
      · have hc0 : wr.cell? ⟨bk, o + t, none⟩ = some (.string xs[t]) := (HBW.out.cell (p := ⟨bk, o + t, none⟩) hbk).trans (hcell t _ (List.getElem?_eq_getElem hlt'))
        have hsn := manyT_snoc xs t hlt'
        have hxz := HSM.out t hlt'
        obtain ⟨x, hx⟩ : ∃ x, xs[t] = x := ⟨_, rfl⟩
        rw [hx] at hc0 hsn hxz
        have HSN := hidden hsn
        clear hcell hsn hx
        have hmt : (manyT (xs.take t)).length < 5000 := by omega
        have hA := hidden (short_at x.size hxz wr 5)
        have hO := hidden (ho.out.of_eq (W' := wr.alloc (.cells #[.int .u8 0, .int .u8 0, .int .u8 0, .int .u8 (x.size : Int)] 5)) fun k _ hk => Below.heap_alloc wr _ k hk)
        have HMT := hidden hmt
        have q1 : (x.size : Int) / 16777216 = 0 := by omega
        have q2 : (x.size : Int) / 65536 = 0 := by omega
        have q3 : (x.size : Int) / 256 = 0 := by omega
        clear hle hmt
        go_wp2_with (first | (at_builtin; refine append_bytes (wr.alloc (.cells #[.int .u8 0, .int .u8 0, .int .u8 0, .int .u8 (x.size : Int)] 5)) rfl (.tmp 17) (.tmp 29) rfl (w.heap.size + 1) _ (manyT (xs.take t)) (words4 x.size) rfl hO.out wr.heap.size 0 4 4 rfl (words4_len _) hA.out (by have := HMT.out; rw [words4_len]; omega) (by simp; omega) ?_; intro v2 w2 h2 hb2; have hb3 := ((Below.refl (w.heap.size + 1) wr).alloc hbs _).trans hb2; have hc2 := (((Below.refl w.heap.size wr).alloc (by omega) _).trans (hb2.mono (by omega)) |>.cell (p := ⟨bk, o + t, none⟩) hbk).trans hc0; have H2 := hidden h2; have HB3 := hidden hb3; clear h2 hb2 hb3) | (at_builtin; refine append_text w2 rfl (.tmp 31) (.tmp 35) rfl (w.heap.size + 1) v2 (manyT (xs.take t) ++ words4 x.size) x rfl H2.out rfl (by have := HMT.out; rw [List.length_append, words4_len]; omega) (by have := HB3.out.size; omega) ?_; intro v3 w3 h3 hb3))
        have h3' : OwnB w3 (w.heap.size + 1) v3 (manyT (xs.take (t + 1))) := by rw [HSN.out]; exact h3
        have H3 := hidden h3'
        have HB4 := hidden (hb.out.trans (HB3.out.trans hb3))
        clear h3 h3' hb3
        go_roundw
        case rel => exact ⟨t + 1, by omega, by go_num, H3, HB4⟩
        case measure => simp [intOf]; omega
    · have hta : xs.take t = xs := List.take_of_length_le (by have := HL.out; omega)
      rw [hta] at ho
      have hcv := ho.out.conv
      have HRES := hidden ((hb.out.block w.heap.size (by omega)).trans (heap_alloc_new _ _))
      have HC := hidden (HSUM.out wr)
      clear hle hta ho hb
      go_wp2_with (go_at_call 12; refine (HC.out).mono ?_; rintro e w5 ⟨rfl, hb5⟩; have hres5 := (hb5.block w.heap.size (by omega)).trans HRES.out; have hst5 := run_storeCells_row w5 w.heap.size _ 25 zero32 cg hres5 (by rw [hcg]; exact info_arr) (by rw [zero32_size, hcg]) HONE.out)
      refine bodyPost_ret (v := .agg cg) ?_ rfl ⟨rfl, ?_⟩
      · exact results_cell_row (fn := Tryd.f14) (p := 2) (ty := 25) (by kernel_rfl) _ _ w.heap.size _ cg (0, 0) _ (by simp) (setRow_heap w5 w.heap.size zero32 cg _ _ hres5) Tryd.underlying25 rfl (by rw [hcg]; exact info_arr)
      · exact Below.setRow' (HBW.out.trans (hb5.mono (by omega))) (Nat.le_refl _) cg

set_option maxHeartbeats 1600000 in
theorem rdigest_core (s : ByteArray) (cg : Array Value) (b : Bool) (hcg : cg.size = 32) (hone : cg.all (·.oneCell') = true) (w : World)
    (h : ∀ W, Calls Tryd.prog 21 #[.string s] W fun e w' => e = .returned (.tuple #[.agg cg, .bool b]) ∧ Below W.heap.size W w') :
    Calls Tryd.prog 8 #[.string s] w fun e w' => e = .returned (.tuple #[.agg cg, .bool b]) ∧ Below w.heap.size w w' := by
  have hz := zero_arr
  have HC := hidden h
  have HONE := hidden hone
  clear h hone
  have HRES : Hid ((w.alloc (.cells zero32 25)).heap[w.heap.size]? = some (.cells zero32 25 (0, 0))) := hidden (heap_alloc_new _ _)
  go_enter Tryd.func8, Tryd.ntmps8
  go_wp2_with (go_at_call 21; refine (HC.out _).mono ?_; rintro e w5 ⟨rfl, hb5⟩; have hres5 := (hb5.block w.heap.size (by simp)).trans HRES.out; have hst5 := run_storeCells_row w5 w.heap.size _ 25 zero32 cg hres5 (by rw [hcg]; exact info_arr) (by rw [zero32_size, hcg]) HONE.out)
  have hld := run_loadVar_row (P := Tryd.prog) (w5.setRow w.heap.size cg) w.heap.size _ 25 cg (0, 0) _ (setRow_heap _ _ _ _ _ _ hres5) Tryd.underlying25 rfl (by rw [hcg]; exact info_arr)
  refine bodyPost_ret (v := .tuple #[.agg cg, .bool b]) ?_ rfl ⟨rfl, Below.setRow' (((Below.refl _ _).alloc (Nat.le_refl _) _).trans (hb5.mono (by simp))) (Nat.le_refl _) _⟩
  rw [results_cell_tmp (fn := Tryd.f8) (p := 2) (u := 3) (ty := 25) (by kernel_rfl)]
  simp [asAddr, Result.andThen, hld]
end Go.Proofs.YtffmldplchlnpaaDoor
