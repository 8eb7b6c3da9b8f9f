/- What Text answers: a digest's digits. No conditions. -/
import Derived.Test.YtffmldplchlnpaaDoorSum
import Derived.Laws.BytesArg
import Derived.Deep.RegionLaw
namespace Go.Proofs.YtffmldplchlnpaaDoor
open Go.RowKit

theorem and15 (x : UInt8) : bits .and .u8 (x.toNat : Int) 15 = (x.toNat : Int) % 16 := by
  have all : ∀ n : Fin 256, bits .and .u8 (n.1 : Int) 15 = (n.1 : Int) % 16 := by decide +kernel
  exact all ⟨x.toNat, x.toNat_lt⟩
theorem dig_at (n : Nat) (h : n < 16) (w : World) : (Instr.index 9 (.string ⟨#[48, 49, 50, 51, 52, 53, 54, 55, 56, 57, 97, 98, 99, 100, 101, 102]⟩) (.int .u8 (n : Int))).run Tryd.prog w = .ok (bval (hexDigit n)) w := by
  match n, h with
  | 0, _ => go_simp; rfl
  | 1, _ => go_simp; rfl
  | 2, _ => go_simp; rfl
  | 3, _ => go_simp; rfl
  | 4, _ => go_simp; rfl
  | 5, _ => go_simp; rfl
  | 6, _ => go_simp; rfl
  | 7, _ => go_simp; rfl
  | 8, _ => go_simp; rfl
  | 9, _ => go_simp; rfl
  | 10, _ => go_simp; rfl
  | 11, _ => go_simp; rfl
  | 12, _ => go_simp; rfl
  | 13, _ => go_simp; rfl
  | 14, _ => go_simp; rfl
  | 15, _ => go_simp; rfl
  | n + 16, h => omega
theorem dig_hi (x : UInt8) (w : World) : (Instr.index 9 (.string ⟨#[48, 49, 50, 51, 52, 53, 54, 55, 56, 57, 97, 98, 99, 100, 101, 102]⟩) (.int .u8 ((x.toNat : Int) / 16))).run Tryd.prog w = .ok (bval (hexDigit (x.toNat / 16))) w := by
  have := dig_at (x.toNat / 16) (by have := x.toNat_lt; omega) w
  rwa [show ((x.toNat / 16 : Nat) : Int) = (x.toNat : Int) / 16 by omega] at this
theorem dig_lo (x : UInt8) (w : World) : (Instr.index 9 (.string ⟨#[48, 49, 50, 51, 52, 53, 54, 55, 56, 57, 97, 98, 99, 100, 101, 102]⟩) (.int .u8 ((x.toNat : Int) % 16))).run Tryd.prog w = .ok (bval (hexDigit (x.toNat % 16))) w := by
  have := dig_at (x.toNat % 16) (by omega) w
  rwa [show ((x.toNat % 16 : Nat) : Int) = (x.toNat : Int) % 16 by omega] at this
theorem bcells_get (bs : List UInt8) (t : Nat) (h : t < bs.length) : (bcells bs)[t]? = some (bval (bs.getD t 0)) := by
  simp [bcells, List.getElem?_eq_getElem h]
theorem sum_index (bs : List UInt8) (hl : bs.length = 32) (t : Nat) (h : t < 32) (w : World) : (Instr.index 26 (.agg (bcells bs)) (.int .i64 (t : Int))).run Tryd.prog w = .ok (bval (bs.getD t 0)) w := by
  have hg := bcells_get bs t (by omega)
  obtain ⟨i, hi, hz, hz1, hz2⟩ := byte_parts
  have hu := Tryd.underlying26
  have hu5 := Tryd.underlying5
  simp [Instr.index, run_underlying hu, asIntOf, sizeOf, typeInfo, hi, hz1, h, Go.part, isAgg, run_underlying hu5, hg]
theorem conv_back (w : World) (g l c : Nat) (bs : List UInt8) (hl : bs.length = l) (hA : At w g 0 bs) : (convert 22 9 (.slice (some ⟨g, 0, none⟩) l c)).run Tryd.prog w = .ok (.string ⟨bs.toArray⟩) w := by
  have := run_convert_bytes_arg (P := Tryd.prog) w 22 5 Tryd.underlying22 Tryd.underlying5 g 0 l c (bs.map fun x => (x.toNat : Int)) (by simpa using hl) (fun i hi => by
    have hlt : i < bs.length := by omega
    rw [hA i bs[i] (List.getElem?_eq_getElem hlt)]
    simp [List.getD_eq_getElem?_getD, List.getElem?_eq_getElem hlt, bval]) 9 Tryd.underlying9
  rw [this]
  congr 2
  apply ByteArray.ext
  apply Array.toList_inj.1
  rw [strOfNums_data, List.map_map]
  refine (List.map_congr_left fun x _ => ?_).trans (List.map_id _)
  simp
theorem two_at (a b : UInt8) (w : World) (t : TypeId) : At (w.alloc (.cells #[bval a, bval b] t)) w.heap.size 0 [a, b] := fun j x hx => by
  rw [cell_of_row _ w.heap.size (0 + j) _ _ _ (heap_alloc_new _ _), Nat.zero_add]
  match j, hx with
  | 0, hx => simp at hx; subst hx; rfl
  | 1, hx => simp at hx; subst hx; rfl
  | j + 2, hx => simp at hx
theorem hexT_snoc (bs : List UInt8) (t : Nat) (h : t < bs.length) : hexT (bs.take (t + 1)) = hexT (bs.take t) ++ [hexDigit ((bs.getD t 0).toNat / 16), hexDigit ((bs.getD t 0).toNat % 16)] := by
  rw [List.take_succ_eq_append_getElem h, hexT, hexT, List.flatMap_append]
  simp [hexB, List.getD_eq_getElem?_getD, List.getElem?_eq_getElem h]
theorem hexT_len (bs : List UInt8) : (hexT bs).length = 2 * bs.length := by
  induction bs with
  | nil => rfl
  | cons b bs ih => rw [hexT, List.flatMap_cons, List.length_append]; rw [hexT] at ih; rw [ih]; simp [hexB]; omega

set_option maxHeartbeats 1600000 in
theorem text_any (bs : List UInt8) (hl : bs.length = 32) (w : World) :
    Calls Tryd.prog 9 #[.agg (bcells bs)] w fun e w' => e = .returned (.string ⟨(hexT bs).toArray⟩) ∧ Below w.heap.size w w' := by
  have hinfo2 : (Tryd.prog.info? 26).map (·.size) = some 32 := by kernel_rfl
  have hsi := sum_index bs hl
  have hbz := bcells_size bs
  rw [hl] at hbz
  generalize hcg : bcells bs = cg at hsi hbz ⊢
  have HSI := hidden hsi
  clear hsi hcg
  have hmk := make_bytes .i64 .i64 0 64 (by omega) (by omega) 0 64 rfl rfl
  go_enter Tryd.func9, Tryd.ntmps9
  go_wp2_with (with_reducible refine wpList_load_row rfl 26 _ rfl w.heap.size rfl _ cg (0, 0) _ ((Below.heap_alloc _ _ _ (by simp)).trans (heap_alloc_new _ _)) Tryd.underlying26 rfl (by rw [hbz]; exact hinfo2) ?_)
  have hown0 := ownB_zeros (w.alloc (.cells cg 26)) w.heap.size 0 64 (by omega) (by omega) (by simp)
  rw [World.size_alloc] at hown0
  have HO0 := hidden hown0
  clear hown0 hmk
  go_loopw [3, 8] (fun v i wr => ∃ t : Nat, t ≤ 32 ∧ i = .int .i64 t ∧ Hid (OwnB wr w.heap.size v (hexT (bs.take t))) ∧ Hid (Below w.heap.size w wr)) (fun _ i _ => 32 - (intOf i).toNat)
  case atStart => exact ⟨0, Nat.zero_le _, rfl, HO0, ((Below.refl _ _).alloc (Nat.le_refl _) _).alloc (by simp) _⟩
  case round =>
    clear HO0
    obtain ⟨t, ht, rfl, ho, hb⟩ := hrel
    by_cases hlt : t < 32
    · have hsn := hexT_snoc bs t (by omega)
      obtain ⟨x, hx⟩ : ∃ x, bs.getD t 0 = x := ⟨_, rfl⟩
      rw [hx] at hsn
      have hix : ∀ W, (Instr.index 26 (.agg cg) (.int .i64 (t : Int))).run Tryd.prog W = .ok (.int .u8 (x.toNat : Int)) W := fun W => hx ▸ HSI.out t hlt W
      have h1 := dig_hi x
      have h2 := dig_lo x
      have h3 := and15 x
      have hdl : (hexT (bs.take t)).length < 1073741824 := by rw [hexT_len, List.length_take]; omega
      have hbs := hb.out.size
      obtain ⟨d1, e1⟩ : ∃ d, hexDigit (x.toNat / 16) = d := ⟨_, rfl⟩
      obtain ⟨d2, e2⟩ : ∃ d, hexDigit (x.toNat % 16) = d := ⟨_, rfl⟩
      rw [e1] at hsn h1
      rw [e2] at hsn h2
      simp only [bval] at h1 h2
      obtain ⟨xs, hxs⟩ : ∃ xs, hexT (bs.take t) = xs := ⟨_, rfl⟩
      rw [hxs] at ho hsn hdl
      have HSN := hidden hsn
      have hA := hidden (show At (wr.drew.alloc (.cells #[.int .u8 (d1.toNat : Int), .int .u8 (d2.toNat : Int)] 5)) wr.heap.size 0 [d1, d2] from two_at d1 d2 wr.drew 5)
      have hO := hidden (ho.out.of_eq (W' := wr.drew.alloc (.cells #[.int .u8 (d1.toNat : Int), .int .u8 (d2.toNat : Int)] 5)) fun k _ hk => Below.heap_alloc wr.drew _ k hk)
      clear hx e1 e2 hxs hsn
      go_wp2_with fail
      go_region_law (refine step_append_bytes _ rfl (.tmp 11) (.tmp 18) rfl w.heap.size _ xs [d1, d2] (by simp [Act.eval]) hO.out wr.heap.size 0 2 2 (by simp [Act.eval]) rfl hA.out (by simp; omega) (by simp; omega) ?_; intro vN wN hN bN)
      all_goals rw [← HSN.out] at hN
      all_goals have hNN := hidden hN
      all_goals have hBN : Hid (Below w.heap.size w wN) := hidden (by first | exact (hb.out.drew.alloc hbs _).trans bN | exact (hb.out.alloc hbs _).drew.trans bN)
      all_goals clear hN bN hA hO
      all_goals (try go_wp2)
      all_goals go_roundw
      all_goals first | exact ⟨t + 1, by omega, by go_num, hNN, hBN⟩ | (simp [intOf]; omega)
    · have h32 : Hid (t = 32) := hidden (by omega)
      have hfin : bs.take t = bs := List.take_of_length_le (by omega)
      rw [hfin] at ho
      obtain ⟨ao, c, rfl, hc, hat⟩ := ho.out.at
      have hh := hexT_len bs
      obtain ⟨g, rfl, _, hg, hA⟩ := hat (by omega)
      have hcv := conv_back wr g (hexT bs).length c (hexT bs) rfl hA
      generalize (hexT bs).length = ln at hcv
      clear ho hA hat hh
      go_wp2
      go_ret
      exact ⟨rfl, hb.out⟩
end Go.Proofs.YtffmldplchlnpaaDoor
