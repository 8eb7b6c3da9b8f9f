/- What the reference's Hex answers: the same digits. No conditions. -/
import Derived.Test.YtffmldplchlnpaaDoorText
namespace Go.Proofs.YtffmldplchlnpaaDoor
open Go.RowKit

set_option maxHeartbeats 1600000 in
theorem hex_any (bs : List UInt8) (hl : bs.length = 32) (w : World) :
    Calls Tryd.prog 11 #[.agg (bcells bs)] w fun e w' => e = .returned (.string ⟨(hexT bs).toArray⟩) ∧ Below w.heap.size w w' := by
  have hsi := fun t (h : t < 32) => bcells_get bs t (by omega)
  have hbz := bcells_size bs
  rw [hl] at hbz
  generalize hcg : bcells bs = cg at hsi hbz ⊢
  have HSI := hidden hsi
  clear hsi hcg
  have hmk := make_bytes .i64 .i64 0 64 (by omega) (by omega) 0 64 rfl rfl
  go_enter Tryd.func11, Tryd.ntmps11
  go_wp2
  have hown0 := ownB_zeros (w.alloc (.cells cg 25)) (w.heap.size + 1) 0 64 (by omega) (by omega) (by simp)
  rw [World.size_alloc] at hown0
  have HO0 := hidden hown0
  clear hown0 hmk
  go_loopw [4, 5] (fun v i wr => ∃ t : Nat, t ≤ 32 ∧ i = .int .i64 t ∧ Hid (OwnB wr (w.heap.size + 1) v (hexT (bs.take t))) ∧ Hid (Below (w.heap.size + 1) (w.alloc (.cells cg 25)) wr)) (fun _ i _ => 32 - (intOf i).toNat)
  case atStart => exact ⟨0, Nat.zero_le _, rfl, HO0, (Below.refl _ _).alloc (by simp) _⟩
  case round =>
    clear HO0
    obtain ⟨t, ht, rfl, ho, hb⟩ := hrel
    by_cases hlt : t < 32
    · have hsn := hexT_snoc bs t (by omega)
      obtain ⟨x, hx⟩ : ∃ x, bs.getD t 0 = x := ⟨_, rfl⟩
      rw [hx] at hsn
      have hix : wr.cell? ⟨w.heap.size, t, none⟩ = some (.int .u8 (x.toNat : Int)) := by
        rw [cell_of_row wr w.heap.size t cg _ (0, 0) ((hb.out.block w.heap.size (by omega)).trans (heap_alloc_new _ _)), HSI.out t hlt, hx]
        rfl
      have h1 := dig_hi x
      have h2 := dig_lo x
      have h3 := and15 x
      have hdl : (hexT (bs.take t)).length < 1073741824 := by rw [hexT_len, List.length_take]; omega
      have hbs := hb.out.size
      rw [World.size_alloc] at hbs
      obtain ⟨d1, e1⟩ : ∃ d, hexDigit (x.toNat / 16) = d := ⟨_, rfl⟩
      obtain ⟨d2, e2⟩ : ∃ d, hexDigit (x.toNat % 16) = d := ⟨_, rfl⟩
      rw [e1] at hsn h1
      rw [e2] at hsn h2
      simp only [bval] at h1 h2
      obtain ⟨xs, hxs⟩ : ∃ xs, hexT (bs.take t) = xs := ⟨_, rfl⟩
      rw [hxs] at ho hsn hdl
      have HSN := hidden hsn
      have hA := hidden (show At (wr.drew.alloc (.cells #[.int .u8 (d1.toNat : Int), .int .u8 (d2.toNat : Int)] 5)) wr.heap.size 0 [d1, d2] from two_at d1 d2 wr.drew 5)
      have hO := hidden (ho.out.of_eq (W' := wr.drew.alloc (.cells #[.int .u8 (d1.toNat : Int), .int .u8 (d2.toNat : Int)] 5)) fun k _ hk => Below.heap_alloc wr.drew _ k hk)
      clear hx e1 e2 hxs hsn
      go_wp2_with fail
      go_region_law (refine step_append_bytes _ rfl (.tmp 11) (.tmp 24) rfl (w.heap.size + 1) _ xs [d1, d2] (by simp [Act.eval]) hO.out wr.heap.size 0 2 2 (by simp [Act.eval]) rfl hA.out (by simp; omega) (by simp; omega) ?_; intro vN wN hN bN)
      all_goals rw [← HSN.out] at hN
      all_goals have hNN := hidden hN
      all_goals have hBN : Hid (Below (w.heap.size + 1) (w.alloc (.cells cg 25)) wN) := hidden (by first | exact (hb.out.drew.alloc hbs _).trans bN | exact (hb.out.alloc hbs _).drew.trans bN)
      all_goals clear hN bN hA hO
      all_goals (try go_wp2)
      all_goals go_roundw
      all_goals first | exact ⟨t + 1, by omega, by go_num, hNN, hBN⟩ | (simp [intOf]; omega)
    · have h32 : Hid (t = 32) := hidden (by omega)
      have hfin : bs.take t = bs := List.take_of_length_le (by omega)
      rw [hfin] at ho
      obtain ⟨ao, c, rfl, hc, hat⟩ := ho.out.at
      have hh := hexT_len bs
      obtain ⟨g, rfl, _, hg, hA⟩ := hat (by omega)
      have hcv := conv_back wr g (hexT bs).length c (hexT bs) rfl hA
      generalize (hexT bs).length = ln at hcv
      clear ho hA hat hh
      go_wp2
      go_ret
      exact ⟨rfl, ((Below.refl _ _).alloc (Nat.le_refl _) _).trans (hb.out.mono (by omega))⟩
end Go.Proofs.YtffmldplchlnpaaDoor
