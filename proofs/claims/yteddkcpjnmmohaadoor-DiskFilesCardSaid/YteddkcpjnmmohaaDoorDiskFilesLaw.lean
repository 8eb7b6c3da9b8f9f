/- smithylaw3.DiskFiles answers true at every list of things to do. Conditions: the errors of api lie in their variables; the library's number of bytes lies in its. -/
import Derived.Test.YteddkcpjnmmohaaDoorDiskWant
import Derived.Test.YteddkcpjnmmohaaDoorDiskArmsLaw
import Derived.Deep.RegionWith
namespace Go.Proofs.YteddkcpjnmmohaaDoor
open Go.RowKit Go.Maps

theorem three_0 (W : World) (o1 o2 o3 : Obj) : (((W.alloc o1).alloc o2).alloc o3).heap[W.heap.size]? = some o1 := by
  rw [Below.heap_alloc _ _ _ (by simp; omega), Below.heap_alloc _ _ _ (by simp)]
  exact heap_alloc_new W o1
theorem filesF_none : filesF (fun _ => false) (fun _ => ⟨#[]⟩) = fun _ => none := by
  funext key
  unfold filesF optF
  simp
/-- The law's state: the disk, the three rows. -/
structure FSt (W : World) (B sb cb q t : Nat) (o : Int) (hv : Nat → Bool) (tx : Nat → ByteArray) (hr : Nat → Bool) (tr : Nat → ByteArray) : Prop where
  d : DSt W B sb cb t o hv tx
  r6 : W.heap[q]? = some (.cells #[.string (nm 0), .string (nm 1), .string (nm 2)] 9 (0, 0))
  r7 : W.heap[q + 1]? = some (.cells (boolsR hr) 4 (0, 0))
  r8 : W.heap[q + 1 + 1]? = some (.cells (textsR tr) 9 (0, 0))
section
variable {W W' : World} {B sb cb q t : Nat} {o : Int} {hv : Nat → Bool} {tx : Nat → ByteArray} {hr : Nat → Bool} {tr : Nat → ByteArray}
theorem FSt.drew (h : FSt W B sb cb q t o hv tx hr tr) : FSt W.drew B sb cb q t o hv tx hr tr := ⟨h.d.drew, h.r6, h.r7, h.r8⟩
theorem FSt.tri (h : FSt W B sb cb q t o hv tx hr tr) (hT : Tri sb B cb W W') (hq : sb < q ∧ B < q ∧ cb < q) {t' : Nat} {o' : Int} {hv' : Nat → Bool} {tx' : Nat → ByteArray} (hD : DSt W' B sb cb t' o' hv' tx') : FSt W' B sb cb q t' o' hv' tx' hr tr :=
  ⟨hD, (hT.block q (Array.getElem?_eq_some_iff.1 h.r6).1 (by omega) (by omega) (by omega)).trans h.r6, (hT.block (q + 1) (Array.getElem?_eq_some_iff.1 h.r7).1 (by omega) (by omega) (by omega)).trans h.r7, (hT.block (q + 1 + 1) (Array.getElem?_eq_some_iff.1 h.r8).1 (by omega) (by omega) (by omega)).trans h.r8⟩
theorem FSt.cells (h : FSt W B sb cb q t o hv tx hr tr) (k : Nat) (hk : k < 3) : W.cell? ⟨q, k, none⟩ = some (.string (nm k)) ∧ W.cell? ⟨q + 1, k, none⟩ = some (.bool (hr k)) ∧ W.cell? ⟨q + 1 + 1, k, none⟩ = some (.string (tr k)) := by
  refine ⟨?_, ?_, ?_⟩
  · rw [cell_of_row W q k _ _ _ h.r6]
    match k, hk with
    | 0, _ => rfl
    | 1, _ => rfl
    | 2, _ => rfl
  · rw [cell_of_row W (q + 1) k _ _ _ h.r7, boolsR_at _ _ hk]
  · rw [cell_of_row W (q + 1 + 1) k _ _ _ h.r8, textsR_at _ _ hk]
theorem FSt.open_ (h : FSt W B sb cb q t o hv tx hr tr) (k : Nat) : W.frozen? ⟨q + 1, k, none⟩ = false ∧ W.frozen? ⟨q + 1 + 1, k, none⟩ = false :=
  ⟨frozen_of_row W (q + 1) k _ _ h.r7, frozen_of_row W (q + 1 + 1) k _ _ h.r8⟩
theorem FSt.setB (h : FSt W B sb cb q t o hv tx hr tr) (hq : sb < q ∧ B < q ∧ cb < q) (k : Nat) (hk : k < 3) (b : Bool) : FSt (W.setCell ⟨q + 1, k, none⟩ (.bool b)) B sb cb q t o hv tx (updB hr k b) tr := by
  obtain ⟨C, h1, h2⟩ := h.d
  refine ⟨⟨C, h1, h2.of_eq (heap_setCell_other _ _ _ _ (by simp only; omega)) (heap_setCell_other _ _ _ _ (by simp only; omega)) (heap_setCell_other _ _ _ _ (by simp only; omega))⟩, (heap_setCell_other _ _ _ _ (by simp only; omega)).trans h.r6, ?_, (heap_setCell_other _ _ _ _ (by simp only; omega)).trans h.r8⟩
  rw [← boolsR_set hr k hk b]
  exact heap_setCell_same _ (q + 1) k _ _ _ h.r7
theorem FSt.setT (h : FSt W B sb cb q t o hv tx hr tr) (hq : sb < q ∧ B < q ∧ cb < q) (k : Nat) (hk : k < 3) (s : ByteArray) : FSt (W.setCell ⟨q + 1 + 1, k, none⟩ (.string s)) B sb cb q t o hv tx hr (updT tr k s) := by
  obtain ⟨C, h1, h2⟩ := h.d
  refine ⟨⟨C, h1, h2.of_eq (heap_setCell_other _ _ _ _ (by simp only; omega)) (heap_setCell_other _ _ _ _ (by simp only; omega)) (heap_setCell_other _ _ _ _ (by simp only; omega))⟩, (heap_setCell_other _ _ _ _ (by simp only; omega)).trans h.r6, (heap_setCell_other _ _ _ _ (by simp only; omega)).trans h.r7, ?_⟩
  rw [← textsR_set tr k hk s]
  exact heap_setCell_same _ (q + 1 + 1) k _ _ _ h.r8
end
theorem row_tri {W W' : World} {sb fb cb base : Nat} {e : TypeId} {size n : Nat} {v : Value} {xs : List Value} (h : W.ownsRow base e size v n xs) (hT : Tri sb fb cb W W') (h1 : sb < base) (h2 : fb < base) (h3 : cb < base) : W'.ownsRow base e size v n xs :=
  ⟨h.1, h.2.imp id fun ⟨g, cap, cur, e1, e2, e3, e4⟩ => ⟨g, cap, cur, e1, e2, (hT.block g (Array.getElem?_eq_some_iff.1 e3).1 (by omega) (by omega) (by omega)).trans e3, e4⟩⟩
/-- The texts are short; a file that is not there has none. -/
def Small (t : Nat) (hv : Nat → Bool) (tx : Nat → ByteArray) : Prop := (∀ k, (tx k).size ≤ 100 * t) ∧ ∀ k, hv k = false → tx k = ⟨#[]⟩
theorem Small.goneT {t : Nat} {hv : Nat → Bool} {tx : Nat → ByteArray} (h : Small t hv tx) (k : Nat) (b : Bool) (s : ByteArray) (hb : b = false → s = ⟨#[]⟩) : ∀ j, updB hv k b j = false → updT tx k s j = ⟨#[]⟩ := fun j hj => by
  unfold updB at hj
  unfold updT
  split at hj
  · next e => rw [if_pos e]; exact hb hj
  · next e => rw [if_neg e]; exact h.2 j hj
theorem Small.step {t : Nat} {hv : Nat → Bool} {tx : Nat → ByteArray} (h : Small t hv tx) (k : Nat) (b : Bool) (s : ByteArray) (hs : s.size ≤ 100 * (t + 1)) (hb : b = false → s = ⟨#[]⟩) : Small (t + 1) (updB hv k b) (updT tx k s) := ⟨fun j => by
  unfold updT
  split
  · exact hs
  · have := h.1 j; omega, h.goneT k b s hb⟩
theorem Small.more {t : Nat} {hv : Nat → Bool} {tx : Nat → ByteArray} (h : Small t hv tx) : Small (t + 1) hv tx := ⟨fun j => by have := h.1 j; omega, h.2⟩
set_option maxRecDepth 100000 in
set_option maxHeartbeats 6400000 in
theorem DiskFiles_any (A : Nat → Addr) (m : Int) (ao : Option Addr) (cap : Nat) (xs : List DoV) (w : World) (hm : w.cell? ⟨3, 0, none⟩ = some (.int .i64 m)) (hS : Sent A w) (hX : DosAt w ao xs) :
    Calls Tryd.prog 4 #[.slice ao xs.length cap] w fun e w' => e = .returned (.bool true) ∧ Below w.heap.size w w' := by
  have hwm := World.block_lt_of_cell? w _ hm
  have hwe := World.block_lt_of_cell? w _ hS.g11
  have HF := hid' (first_any A m w hm hS)
  have HM := hid' hm
  have HS := hid' hS
  have HX := hid' hX
  clear hm hS hX
  go_enter Tryd.func4, Tryd.ntmps4
  go_wp2_with fail
  refine (HF.out).mono ?_
  rintro e w1 ⟨rfl, hb1⟩
  have hbb := hid' hb1
  by_cases h40 : 40 < xs.length
  · have h40' : (40 : Int) < (xs.length : Int) := by omega
    go_wp2
    go_ret
    exact ⟨rfl, hbb.out⟩
  · have h40' : ¬ (40 : Int) < (xs.length : Int) := by omega
    have s1 := hb1.size
    have HN0 := hid' (new_none w1)
    obtain ⟨B, hB⟩ : ∃ B, w1.heap.size = B := ⟨_, rfl⟩
    rw [hB] at HN0 s1
    obtain ⟨sb, hsb⟩ : ∃ sb, B + 1 + 1 = sb := ⟨_, rfl⟩
    obtain ⟨cb, hcb⟩ : ∃ cb, B + 1 = cb := ⟨_, rfl⟩
    rw [hsb, hcb] at HN0
    have h1sb : B ≤ sb := by omega
    have h1cb : B ≤ cb := by omega
    have HBB := hid' hB
    clear hb1 hB HF hsb hcb
    go_wp2_with fail
    refine (HN0.out).mono ?_
    rintro e w3 ⟨rfl, D3, b3⟩
    have hsl : sb < w3.heap.size := (Array.getElem?_eq_some_iff.1 D3.row).1
    have hfl := D3.files.lt
    have hcl := D3.changed.lt
    have hb3 : Below w.heap.size w w3 := hbb.out.trans (b3.mono s1)
    have s3 := hb3.size
    have F3 : FSt (((w3.alloc (.cells #[.string (nm 0), .string (nm 1), .string (nm 2)] 9)).alloc (.cells (boolsR fun _ => false) 4)).alloc (.cells (textsR fun _ => ⟨#[]⟩) 9)) B sb cb w3.heap.size 0 0 (fun _ => false) (fun _ => ⟨#[]⟩) (fun _ => false) (fun _ => ⟨#[]⟩) :=
      ⟨⟨_, HistsOK.none, by rw [filesF_none]; exact ((D3.alloc _).alloc _).alloc _⟩, three_0 _ _ _ _, three_1 _ _ _ _, three_2 _ _ _ _⟩
    have B3 : Below w.heap.size w (((w3.alloc (.cells #[.string (nm 0), .string (nm 1), .string (nm 2)] 9)).alloc (.cells (boolsR fun _ => false) 4)).alloc (.cells (textsR fun _ => ⟨#[]⟩) 9)) := ((hb3.alloc s3 _).alloc (by simp; omega) _).alloc (by simp; omega) _
    have HF3 := hid' F3
    have HB3 := hid' B3
    obtain ⟨q, hq⟩ : ∃ q, w3.heap.size = q := ⟨_, rfl⟩
    unfold boolsR textsR nm at HF3 HB3
    rw [hq] at HF3 hsl hfl hcl s3
    have HQ := hid' hq
    clear D3 b3 hb3 F3 B3 HN0
    go_wp2
    obtain ⟨w6, hw6⟩ : ∃ w6, (((w3.alloc (.cells #[.string ⟨#[97]⟩, .string ⟨#[98, 47, 99]⟩, .string ⟨#[100]⟩] 9)).alloc (.cells #[.bool false, .bool false, .bool false] 4)).alloc (.cells #[.string ⟨#[]⟩, .string ⟨#[]⟩, .string ⟨#[]⟩] 9)) = w6 := ⟨_, rfl⟩
    rw [hw6] at HF3 HB3 ⊢
    have hq3 : sb < q ∧ B < q ∧ cb < q := ⟨hsl, hfl, hcl⟩
    clear hw6 HQ hq hsl hfl hcl
    go_loopw [9] (fun i wr => ∃ (t : Nat) (hv : Nat → Bool) (tx : Nat → ByteArray), t ≤ xs.length ∧ i = .int .i64 t ∧ Hid (FSt wr B sb cb q t (2 * (t : Int)) hv tx hv tx) ∧ Hid (Below w.heap.size w wr) ∧ Hid (Small t hv tx)) (fun i _ => xs.length - (intOf i).toNat)
    case atStart => exact ⟨0, _, _, Nat.zero_le _, rfl, HF3, HB3, hid' ⟨fun _ => Nat.zero_le _, fun _ _ => rfl⟩⟩
    case round =>
      clear HF3 HB3
      obtain ⟨t, hv, tx, ht, rfl, hF, hb, hz⟩ := hrel
      have hmr := (hb.out.cell (p := ⟨3, 0, none⟩) hwm).trans HM.out
      by_cases htl : t < xs.length
      · rcases HX.out with h0 | ⟨xb, xo, rfl, xl, xc⟩
        · rw [h0] at htl; exact absurd htl (by simp)
        · obtain ⟨y0, y1, y2, y3, y4⟩ := xc t _ (List.getElem?_eq_getElem htl)
          generalize xs[t] = x at y0 y1 y2 y3 y4
          have HY := hid' y4
          have y0 := (hb.out.cell (p := ⟨xb, xo + t * 5, none⟩) xl).trans y0
          have y1 := (hb.out.cell (p := ⟨xb, xo + t * 5 + 1, none⟩) xl).trans y1
          have y4 := (hb.out.cell (p := ⟨xb, xo + t * 5 + 4, none⟩) xl).trans y4
          clear xc y2 y3
          have HNum := hid' (number_any x.n 3 (by omega) (by omega) wr)
          go_wp2_with fail
          refine (HNum.out).mono ?_
          rintro e w7 ⟨k, hk3, rfl, rfl⟩
          by_cases hl : 100 < x.t.size
          · have hl' : (100 : Int) < (x.t.size : Int) := by omega
            clear HNum
            go_wp2
            go_ret
            exact ⟨rfl, hb.out⟩
          · have hl' : ¬ (100 : Int) < (x.t.size : Int) := by omega
            clear HNum
            have hsm : (tx 0).size ≤ 60000 ∧ (tx 1).size ≤ 60000 ∧ (tx 2).size ≤ 60000 := ⟨by have := hz.out.1 0; omega, by have := hz.out.1 1; omega, by have := hz.out.1 2; omega⟩
            obtain ⟨c6, c7, c8⟩ := hF.out.cells k hk3
            have HW := hid' (fun X (hX : FSt X B sb cb q t (2 * (t : Int)) hv tx hv tx) (hmX : X.cell? ⟨3, 0, none⟩ = some (.int .i64 m)) => st_write hX.d (by omega) (by omega) (by omega) (by omega) m hmX hsm hz.out.2 k hk3 x.t (by omega))
            have hk3' : (k : Int) < 3 := by omega
            by_cases e1 : x.k = 1
            · rw [e1] at y0
              have HSM := hid' hsm
              have HMR := hid' hmr
              clear hsm hmr y1 c7 c8
              go_wp2_with fail
              go_region_with (go_at_call 9; refine (HW.out _ (by first | exact hF.out | exact hF.out.drew) (by exact HMR.out)).mono ?_; rintro e w8 ⟨rfl, D8, T8⟩)
              all_goals (
                have F8 := hF.out.drew.tri T8 hq3 D8
                have hw8 : w.heap.size ≤ w7.heap.size := hb.out.size
                have B8 : Below w.heap.size w w8 := Tri.below hb.out.drew T8 (by omega) (by omega) (by omega) hw8
                have F9 := F8.setB hq3 k hk3 true
                have F10 := F9.setT hq3 k hk3 x.t
                have B9 := B8.setCell (p := ⟨q + 1, k, none⟩) (by simp only; omega) (.bool true)
                have B10 := B9.setCell (p := ⟨q + 1 + 1, k, none⟩) (by simp only; omega) (.string x.t)
                have d7 := (F8.cells k hk3).2.1
                have f7 := (F8.open_ k).1
                have d8 := (F9.cells k hk3).2.2
                have f8 := (F9.open_ k).2
                have y9 := (B9.cell (p := ⟨xb, xo + t * 5 + 4, none⟩) xl).trans HY.out
                obtain ⟨hv', hhv⟩ : ∃ f, updB hv k true = f := ⟨_, rfl⟩
                obtain ⟨tx', htx⟩ : ∃ f, updT tx k x.t = f := ⟨_, rfl⟩
                have HSM2 : Hid (Small (t + 1) hv' tx') := hid' (by rw [← hhv, ← htx]; exact hz.out.step k true x.t (by omega) (fun h => by cases h))
                have HRD := hid' (st_read F10.d (by omega) (by omega) (by rw [hhv, htx]; exact HSM2.out.2) k hk3)
                have e6 := (F10.cells k hk3).1
                have HF10 := hid' F10
                have HB10 := hid' B10
                rw [hhv, htx] at HRD HF10
                clear F8 F9 F10 B8 B9 B10 D8 T8 HW hw8 HY HMR HSM
                go_wp2_with fail
                refine (HRD.out).mono ?_
                rintro e w11 ⟨rfl, D11, T11⟩
                have F11 := HF10.out.tri T11 hq3 D11
                have B11 := Tri.below HB10.out T11 (by omega) (by omega) (by omega) HB10.out.size
                obtain ⟨_, d11, e11⟩ := F11.cells k hk3
                have HO := hid' (st_ops D11)
                have hops : 2 * (t : Int) + 1 + 1 = 2 * (t : Int) + 2 := by omega
                have HF11 : Hid (FSt w11 B sb cb q (t + 1) (2 * ((t + 1 : Nat) : Int)) hv' tx' hv' tx') := hid' (by rw [show 2 * ((t + 1 : Nat) : Int) = 2 * (t : Int) + 1 + 1 by omega]; exact F11)
                have HB11 := hid' B11
                rw [hops] at HO
                clear F11 B11 D11 T11 HF10 HB10 HRD hops e6
                go_wp2_with fail
                refine (HO.out).mono ?_
                rintro e w12 ⟨rfl, rfl⟩
                go_wp2
                go_roundw
                case rel => exact ⟨t + 1, hv', tx', by omega, by go_num, HF11, HB11, HSM2⟩
                case measure => simp [intOf]; omega)
            · by_cases e2 : x.k = 2
              · rw [e2] at y0
                have HA := hid' (fun X (hX : FSt X B sb cb q t (2 * (t : Int)) hv tx hv tx) (hmX : X.cell? ⟨3, 0, none⟩ = some (.int .i64 m)) => st_append hX.d (by omega) (by omega) (by omega) (by omega) m hmX hsm hz.out.2 k hk3 x.t (by omega))
                have HMR := hid' hmr
                clear hsm hmr y1 c7 c8 HW
                go_wp2_with fail
                go_region_with (go_at_call 10; refine (HA.out _ (by first | exact hF.out | exact hF.out.drew) (by exact HMR.out)).mono ?_; rintro e w8 ⟨rfl, D8, T8⟩)
                all_goals (
                  have F8 := hF.out.drew.tri T8 hq3 D8
                  have hw8 : w.heap.size ≤ w7.heap.size := hb.out.size
                  have B8 : Below w.heap.size w w8 := Tri.below hb.out.drew T8 (by omega) (by omega) (by omega) hw8
                  have F9 := F8.setB hq3 k hk3 true
                  have F10 := (F9.setT hq3 k hk3 (tx k ++ x.t)).drew
                  have B9 := B8.setCell (p := ⟨q + 1, k, none⟩) (by simp only; omega) (.bool true)
                  have B10 := (B9.setCell (p := ⟨q + 1 + 1, k, none⟩) (by simp only; omega) (.string (tx k ++ x.t))).drew
                  have d7 := (F8.cells k hk3).2.1
                  have f7 := (F8.open_ k).1
                  have d8 := (F9.drew.cells k hk3).2.2
                  have f8 := (F9.drew.open_ k).2
                  have y9 := (B9.drew.cell (p := ⟨xb, xo + t * 5 + 4, none⟩) xl).trans HY.out
                  have hadd : (tx k).size + x.t.size < 1000000000 := by have := hz.out.1 k; omega
                  have HF10' := hid' F10
                  have HB10' := hid' B10
                  clear F8 F9 F10 B8 B9 B10 D8 T8
                  go_wp2_with fail
                  go_region
                  all_goals (
                    have F10 := HF10'.out
                    have B10 := HB10'.out
                    obtain ⟨hv', hhv⟩ : ∃ f, updB hv k true = f := ⟨_, rfl⟩
                    obtain ⟨tx', htx⟩ : ∃ f, updT tx k (tx k ++ x.t) = f := ⟨_, rfl⟩
                    have HSM2 : Hid (Small (t + 1) hv' tx') := hid' (by rw [← hhv, ← htx]; exact hz.out.step k true (tx k ++ x.t) (by have := hz.out.1 k; rw [ByteArray.size_append]; omega) (fun h => by cases h))
                    have HRD := hid' (st_read F10.d (by omega) (by omega) (by rw [hhv, htx]; exact HSM2.out.2) k hk3)
                    have e6 := (F10.cells k hk3).1
                    have HF10 := hid' F10
                    have HB10 := hid' B10
                    rw [hhv, htx] at HRD HF10
                    clear F10 B10 HF10' HB10' hw8 HY HMR hadd
                    go_wp2_with fail
                    refine (HRD.out).mono ?_
                    rintro e w11 ⟨rfl, D11, T11⟩
                    have F11 := HF10.out.tri T11 hq3 D11
                    have B11 := Tri.below HB10.out T11 (by omega) (by omega) (by omega) HB10.out.size
                    obtain ⟨_, d11, e11⟩ := F11.cells k hk3
                    have HO := hid' (st_ops D11)
                    have hops : 2 * (t : Int) + 1 + 1 = 2 * (t : Int) + 2 := by omega
                    have HF11 : Hid (FSt w11 B sb cb q (t + 1) (2 * ((t + 1 : Nat) : Int)) hv' tx' hv' tx') := hid' (by rw [show 2 * ((t + 1 : Nat) : Int) = 2 * (t : Int) + 1 + 1 by omega]; exact F11)
                    have HB11 := hid' B11
                    rw [hops] at HO
                    clear F11 B11 D11 T11 HF10 HB10 HRD hops e6
                    go_wp2_with fail
                    refine (HO.out).mono ?_
                    rintro e w12 ⟨rfl, rfl⟩
                    go_wp2
                    go_roundw
                    case rel => exact ⟨t + 1, hv', tx', by omega, by go_num, HF11, HB11, HSM2⟩
                    case measure => simp [intOf]; omega))
              · by_cases e3 : x.k = 3
                · rw [e3] at y0
                  have HR := hid' (st_remove hF.out.d (by omega) (by omega) (by omega) (by omega) m hmr hsm k hk3)
                  clear hsm hmr y1 c7 c8 HW
                  go_wp2_with fail
                  refine (HR.out).mono ?_
                  rintro e w8 ⟨rfl, D8, T8⟩
                  have F8 := hF.out.tri T8 hq3 D8
                  have B8 : Below w.heap.size w w8 := Tri.below hb.out T8 (by omega) (by omega) (by omega) hb.out.size
                  have F9 := F8.setB hq3 k hk3 false
                  have F10 := F9.setT hq3 k hk3 ⟨#[]⟩
                  have B9 := B8.setCell (p := ⟨q + 1, k, none⟩) (by simp only; omega) (.bool false)
                  have B10 := B9.setCell (p := ⟨q + 1 + 1, k, none⟩) (by simp only; omega) (.string ⟨#[]⟩)
                  have d7 := (F8.cells k hk3).2.1
                  have f7 := (F8.open_ k).1
                  have d8 := (F9.cells k hk3).2.2
                  have f8 := (F9.open_ k).2
                  obtain ⟨hv', hhv⟩ : ∃ f, updB hv k false = f := ⟨_, rfl⟩
                  obtain ⟨tx', htx⟩ : ∃ f, updT tx k ⟨#[]⟩ = f := ⟨_, rfl⟩
                  have HSM2 : Hid (Small (t + 1) hv' tx') := hid' (by rw [← hhv, ← htx]; exact hz.out.step k false ⟨#[]⟩ (Nat.zero_le _) (fun _ => rfl))
                  have HRD := hid' (st_read F10.d (by omega) (by omega) (by rw [hhv, htx]; exact HSM2.out.2) k hk3)
                  have e6 := (F10.cells k hk3).1
                  have HF10 := hid' F10
                  have HB10 := hid' B10
                  rw [hhv, htx] at HRD HF10
                  clear F8 F9 F10 B8 B9 B10 D8 T8 HR HY
                  go_wp2_with fail
                  refine (HRD.out).mono ?_
                  rintro e w11 ⟨rfl, D11, T11⟩
                  have F11 := HF10.out.tri T11 hq3 D11
                  have B11 := Tri.below HB10.out T11 (by omega) (by omega) (by omega) HB10.out.size
                  obtain ⟨_, d11, e11⟩ := F11.cells k hk3
                  have HO := hid' (st_ops D11)
                  have hops : 2 * (t : Int) + 1 + 1 = 2 * (t : Int) + 2 := by omega
                  have HF11 : Hid (FSt w11 B sb cb q (t + 1) (2 * ((t + 1 : Nat) : Int)) hv' tx' hv' tx') := hid' (by rw [show 2 * ((t + 1 : Nat) : Int) = 2 * (t : Int) + 1 + 1 by omega]; exact F11)
                  have HB11 := hid' B11
                  rw [hops] at HO
                  clear F11 B11 D11 T11 HF10 HB10 HRD hops e6
                  go_wp2_with fail
                  refine (HO.out).mono ?_
                  rintro e w12 ⟨rfl, rfl⟩
                  go_wp2
                  go_roundw
                  case rel => exact ⟨t + 1, hv', tx', by omega, by go_num, HF11, HB11, HSM2⟩
                  case measure => simp [intOf]; omega
                · have n1 : (x.k == 1) = false := by rw [beq_eq_false_iff_ne]; exact e1
                  have n2 : (x.k == 2) = false := by rw [beq_eq_false_iff_ne]; exact e2
                  have n3 : (x.k == 3) = false := by rw [beq_eq_false_iff_ne]; exact e3
                  have HR := hid' (st_sync hF.out.d (by omega) (by omega) (by omega) m hmr k hk3)
                  clear hsm hmr y1 c7 c8 HW
                  go_wp2_with fail
                  refine (HR.out).mono ?_
                  rintro e w8 ⟨rfl, D8, T8⟩
                  have F10 := hF.out.tri T8 hq3 D8
                  have B10 : Below w.heap.size w w8 := Tri.below hb.out T8 (by omega) (by omega) (by omega) hb.out.size
                  obtain ⟨hv', hhv⟩ : ∃ f, hv = f := ⟨_, rfl⟩
                  obtain ⟨tx', htx⟩ : ∃ f, tx = f := ⟨_, rfl⟩
                  have HSM2 : Hid (Small (t + 1) hv' tx') := hid' (by rw [← hhv, ← htx]; exact hz.out.more)
                  have HRD := hid' (st_read F10.d (by omega) (by omega) (by rw [hhv, htx]; exact HSM2.out.2) k hk3)
                  have e6 := (F10.cells k hk3).1
                  have HF10 := hid' F10
                  have HB10 := hid' B10
                  rw [hhv, htx] at HRD HF10
                  clear F10 B10 D8 T8 HR HY
                  go_wp2_with fail
                  refine (HRD.out).mono ?_
                  rintro e w11 ⟨rfl, D11, T11⟩
                  have F11 := HF10.out.tri T11 hq3 D11
                  have B11 := Tri.below HB10.out T11 (by omega) (by omega) (by omega) HB10.out.size
                  obtain ⟨_, d11, e11⟩ := F11.cells k hk3
                  have HO := hid' (st_ops D11)
                  have hops : 2 * (t : Int) + 1 + 1 = 2 * (t : Int) + 2 := by omega
                  have HF11 : Hid (FSt w11 B sb cb q (t + 1) (2 * ((t + 1 : Nat) : Int)) hv' tx' hv' tx') := hid' (by rw [show 2 * ((t + 1 : Nat) : Int) = 2 * (t : Int) + 1 + 1 by omega]; exact F11)
                  have HB11 := hid' B11
                  rw [hops] at HO
                  clear F11 B11 D11 T11 HF10 HB10 HRD hops e6
                  go_wp2_with fail
                  refine (HO.out).mono ?_
                  rintro e w12 ⟨rfl, rfl⟩
                  go_wp2
                  go_roundw
                  case rel => exact ⟨t + 1, hv', tx', by omega, by go_num, HF11, HB11, HSM2⟩
                  case measure => simp [intOf]; omega
      · obtain rfl : t = xs.length := by omega
        clear HX
        obtain ⟨wz, rfl⟩ : ∃ wz, wz = wr := ⟨_, rfl⟩
        obtain ⟨i0, hi, hz0, hz1, hz2⟩ := info_parts info_str
        have hsz : w.heap.size ≤ wz.heap.size := hb.out.size
        have hl6 : q < wz.heap.size := (Array.getElem?_eq_some_iff.1 hF.out.r6).1
        have hl7 : q + 1 < wz.heap.size := (Array.getElem?_eq_some_iff.1 hF.out.r7).1
        go_wp2
        go_loopw [15, 16] (fun v i wr => ∃ j : Nat, j ≤ 3 ∧ i = .int .i64 j ∧ Hid (wr.ownsRow wz.heap.size 9 1 v (wantN hv j).length ((wantN hv j).map Value.string)) ∧ Hid (Below wz.heap.size wz wr)) (fun _ i _ => 3 - (intOf i).toNat)
        case atStart => exact ⟨0, by omega, rfl, hid' (World.ownsRow_nil _ _ _ _), hid' (Below.refl _ _)⟩
        case round =>
          obtain ⟨j, hj, rfl, hO, hB⟩ := hrel
          by_cases hj3 : j < 3
          · obtain ⟨c6, c7, _⟩ := hF.out.cells j hj3
            have c6 := (hB.out.cell (p := ⟨q, j, none⟩) hl6).trans c6
            have c7 := (hB.out.cell (p := ⟨q + 1, j, none⟩) hl7).trans c7
            have hj3' : (j : Int) < 3 := by omega
            have hwl := wantN_le hv j
            have hzz := hB.out.size
            cases hvj : hv j with
            | true =>
              rw [hvj] at c7
              have hw1 : wantN hv (j + 1) = wantN hv j ++ [nm j] := by rw [wantN, hvj]; rfl
              go_wp2_with (at_builtin; refine append_txt wr rfl (.tmp 189) (.tmp 194) 29 rfl wz.heap.size 9 i0 (.string ⟨#[]⟩) 16 Tryd.underlying29 hi hz0 hz1 hz2 rfl u15 _ _ rfl hO.out (.string (nm j)) rfl rfl rfl (by omega) (by unfold maxLen; omega) hzz ?_; intro v4 w4 hown4 hb4; have O4 := hid' hown4; have B4 := hid' hb4; clear hown4 hb4)
              go_roundw
              case rel => exact ⟨j + 1, by omega, by go_num, hid' (by rw [hw1, List.length_append, List.map_append]; exact O4.out), hid' (hB.out.trans B4.out)⟩
              case measure => simp [intOf]; omega
            | false =>
              rw [hvj] at c7
              have hw1 : wantN hv (j + 1) = wantN hv j := by rw [wantN, hvj]; simp
              go_wp2
              go_roundw
              case rel => exact ⟨j + 1, by omega, by go_num, by rw [hw1]; exact hO, hB⟩
              case measure => simp [intOf]; omega
          · obtain rfl : j = 3 := by omega
            obtain ⟨C, hC, D1⟩ := hF.out.d.tri hB.out
            have B1 : Below w.heap.size w wr := hb.out.trans (hB.out.mono hsz)
            have hsv : (xs.length : Int) ≤ 40 := by omega
            have HL := hid' (list_up D1 (by omega) (by omega) (by decide) (by decide) (by decide) (by omega) (KN hv) (KN_nodup hv) (KN_mem hv tx))
            rw [KN_want, KN_len] at HL
            have HB1 := hid' B1
            clear D1 B1 hmr
            go_wp2_with fail
            refine (HL.out).mono ?_
            rintro e w13 ⟨v, rfl, ho, D13, T13⟩
            have O13 := row_tri hO.out T13 (by omega) (by omega) (by omega)
            obtain ⟨ao2, cap2, rfl, hT2⟩ := txs_of O13
            obtain ⟨ao3, cap3, rfl, hT3⟩ := txs_of ho
            have hwl := wantN_le hv 3
            have HDU := hid' (dump_any D13 (by omega) (KN hv) (KN_nodup hv) (KN_mem hv tx) (filesF_cont hv tx) (KN_short hv).1 (KN_short hv).2)
            rw [KN_len] at HDU
            have B13 := Tri.below HB1.out T13 (by omega) (by omega) (by omega) HB1.out.size
            have HB13 := hid' B13
            have HD13 := hid' D13
            have HT2 := hid' hT2
            have HT3 := hid' hT3
            clear O13 ho hT2 hT3 D13 T13 B13 HL hO hB HB1
            go_wp2_with fail
            refine (HDU.out).mono ?_
            rintro e w14 ⟨ao4, cap4, rfl, b14⟩
            have HSA := hid' (same_any ao3 ao2 cap3 cap2 (wantN hv 3) w14 (by omega) (HT3.out.below b14) (HT2.out.below b14))
            have D14 := HD13.out.below b14
            have B14 := HB13.out.trans (b14.mono HB13.out.size)
            have HB14 := hid' B14
            have HD14 := hid' D14
            clear D14 B14 b14 HDU HD13 HB13 HT2 HT3
            go_wp2_with fail
            refine (HSA.out).mono ?_
            rintro e w15 ⟨rfl, b15⟩
            have D15 := HD14.out.below b15
            have B15 := HB14.out.trans (b15.mono HB14.out.size)
            have S15 : Sent A w15 := HS.out.below B15
            have m15 := (B15.cell (p := ⟨3, 0, none⟩) hwm).trans HM.out
            have HWB := hid' (write_any sb ⟨#[97, 47, 47, 98]⟩ ⟨#[]⟩ (E A 11) w15 (do_bad A D15 (by omega) (by omega) (by omega) (by decide) (by decide) (by decide) ⟨#[97, 47, 47, 98]⟩ (by decide) (by decide) m m15 (filesF_no hv tx _ (by decide) (by decide) (by decide)) (by omega) S15.g11 0 true rfl))
            have HB15 := hid' B15
            clear D15 B15 S15 m15 b15 HSA HD14 HB14
            unfold E at HWB
            go_wp2_with fail
            refine (HWB.out).mono ?_
            rintro e w16 ⟨rfl, D16, T16⟩
            have B16 := Tri.below HB15.out T16 (by omega) (by omega) (by omega) HB15.out.size
            have S16 : Sent A w16 := HS.out.below B16
            have HI := hid' (Is_bare (A := A) (v := E A 11) (c := 112) 112 (.inr ⟨11, by omega, rfl, rfl⟩) w16 S16)
            have HB16 := hid' B16
            have HD16 := hid' D16
            clear D16 T16 B16 S16 HWB HB15
            unfold E tells at HI
            go_wp2_with fail
            refine (HI.out).mono ?_
            rintro e w17 ⟨rfl, b17⟩
            have D17 := HD16.out.below b17
            have B17 := HB16.out.trans (b17.mono HB16.out.size)
            have S17 : Sent A w17 := HS.out.below B17
            have m17 := (B17.cell (p := ⟨3, 0, none⟩) hwm).trans HM.out
            have HRB := hid' (remove_any sb ⟨#[]⟩ (E A 11) w17 (do_bad A D17 (by omega) (by omega) (by omega) (by decide) (by decide) (by decide) ⟨#[]⟩ (by decide) (by decide) m m17 (filesF_no hv tx _ (by decide) (by decide) (by decide)) (by omega) S17.g11 2 false rfl))
            have HB17 := hid' B17
            clear D17 B17 S17 m17 b17 HI HD16 HB16
            unfold E at HRB
            go_wp2_with fail
            refine (HRB.out).mono ?_
            rintro e w18 ⟨rfl, D18, T18⟩
            have B18 := Tri.below HB17.out T18 (by omega) (by omega) (by omega) HB17.out.size
            have S18 : Sent A w18 := HS.out.below B18
            have HI2 := hid' (Is_bare (A := A) (v := E A 11) (c := 112) 112 (.inr ⟨11, by omega, rfl, rfl⟩) w18 S18)
            have HB18 := hid' B18
            clear D18 T18 B18 S18 HRB HB17
            unfold E tells at HI2
            go_wp2_with fail
            refine (HI2.out).mono ?_
            rintro e w19 ⟨rfl, b19⟩
            have HB19 := hid' (HB18.out.trans (b19.mono HB18.out.size))
            clear b19
            go_wp2
            go_ret
            exact ⟨rfl, HB19.out⟩
end Go.Proofs.YteddkcpjnmmohaaDoor
