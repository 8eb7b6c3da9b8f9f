/- smithylaw11.StrRooms answers true, whatever the two numbers. Conditions: the words, and the errors, lie in their variables. -/
import Derived.Test.YtdiocmcfaneajaaGreatDoorStV
import Derived.Test.YtdiocmcfaneajaaGreatDoorErrIs
namespace Go.Proofs.YtdiocmcfaneajaaGreatDoor
open Go.RowKit
open Lx
namespace St

/-- k times z. -/
def zs (k : Nat) : ByteArray := txt (List.replicate k 122)
theorem zs_data (k : Nat) : (zs k).data.toList = List.replicate k 122 := rfl
theorem zs_size (k : Nat) : (zs k).size = k := by rw [← size_data, zs_data, List.length_replicate]
theorem zs_snoc (k : Nat) : zs k ++ ⟨#[122]⟩ = zs (k + 1) := by
  apply ByteArray.ext
  apply Array.ext'
  simp [zs, txt, ByteArray.data_append, List.replicate_succ']
theorem index_z (l : L) : Lib.index (122 :: l) [122] = 0 := by simp [Lib.index, List.isPrefixOf]
theorem split_zs : ∀ (M f : Nat) (m : Int), m < 0 → M < f → splitF [122] f m (List.replicate M 122) = List.replicate (M + 1) []
  | _, 0, _, _, h => absurd h (by omega)
  | 0, f + 1, m, hm, _ => by
    unfold splitF
    rw [if_neg (by omega)]
    rfl
  | M + 1, f + 1, m, hm, h => by
    unfold splitF
    rw [if_neg (by omega), List.replicate_succ, index_z, if_neg (by decide)]
    show (122 :: List.replicate M 122).take 0 :: splitF [122] f (m - 1) ((122 :: List.replicate M 122).drop 1) = _
    rw [List.take_zero, List.drop_succ_cons, List.drop_zero, split_zs M f (m - 1) (by omega) (by omega)]
    rfl
theorem join_empties (sep : L) : ∀ M : Nat, (joinF sep (List.replicate (M + 1) [])).length = M * sep.length := by
  intro M
  rw [List.replicate_succ, joinF, List.nil_append]
  induction M with
  | zero => simp
  | succ M ih =>
    rw [List.replicate_succ, List.flatMap_cons, List.length_append, ih, List.append_nil, Nat.succ_mul]
    omega
theorem rep_zs (M : Nat) : (repF (List.replicate M 122) [122] [121, 121] (M + 2) (-1) 0 0).length = 2 * M := by
  rw [rep_join _ _ _ (by decide) _ _ _ (Nat.zero_le _), List.drop_zero, split_zs M (M + 2) (-1) (by decide) (by omega), join_empties]
  show M * 2 = _
  omega
theorem repV_zs (E : Value) (N K M : Nat) (hN : 0 < N) (hM : N * K = M) : repV E (List.replicate N 122) K = if M ≤ 1024 then .tuple #[.string (zs M), .nilIface] else .tuple #[.string ⟨#[]⟩, E] := by
  unfold repV
  rw [List.length_replicate]
  by_cases h0 : K = 0
  · subst h0
    obtain rfl : M = 0 := by simpa using hM.symm
    rw [if_pos (.inr (by decide)), if_pos (by decide)]
    rfl
  · rw [if_neg (by omega)]
    by_cases h1 : M ≤ 1024
    · have h2 : ¬ 1024 / N < K := by
        rw [Nat.div_lt_iff_lt_mul hN, Nat.mul_comm, hM]
        omega
      rw [if_neg (by omega), if_pos h1, Int.toNat_natCast, Lib.repeatL_replicate, Nat.mul_comm, hM]
      rfl
    · have h2 : 1024 / N < K := by
        rw [Nat.div_lt_iff_lt_mul hN, Nat.mul_comm, hM]
        omega
      rw [if_pos (by omega), if_neg h1]
theorem is_lim {A : Nat → Addr} {w : World} (h : Sent A w) : Ans 10 #[.iface 153 (.pointer (some (A 7))), .int .i64 108] (.bool true) w :=
  Ans.of fun _ hb => Is_bare (c := 108) 108 (.inr ⟨7, by omega, rfl, rfl⟩) _ (h.below hb)

set_option maxRecDepth 100000 in
set_option maxHeartbeats 6400000 in
theorem strRooms_any {D : Value} {A : Nat → Addr} {m : Int} {w : World} (hL : Lw D 153 (.pointer (some (A 7))) m w) (hS : Sent A w) (n k : Int) :
    Calls Tryz.prog 4 #[.int .i64 n, .int .i64 k] w fun e w' => e = .returned (.bool true) ∧ Below w.heap.size w w' := by
  have HF := hidden hL.first
  have HB := hidden (Below.refl w.heap.size w)
  have HI := hidden (is_lim hS)
  obtain ⟨N0, hN0, hn1⟩ := number_any n 60 (by decide) (by decide) w
  obtain ⟨N, hN1, hNe⟩ : ∃ N : Nat, 1 ≤ N ∧ ((N0 : Nat) : Int) = (N : Int) - 1 := ⟨N0 + 1, by omega, by omega⟩
  have hN2 : N ≤ 60 := by omega
  rw [hNe] at hn1
  obtain ⟨K, hK, hk1⟩ := number_any k 300 (by decide) (by decide) w
  have HN : Hid (Ans 32 #[.int .i64 n, .int .i64 60] (.int .i64 ((N : Int) - 1)) w) := hidden hn1
  have HK : Hid (Ans 32 #[.int .i64 k, .int .i64 300] (.int .i64 (K : Int)) w) := hidden hk1
  obtain ⟨M, hM⟩ : ∃ M, N * K = M := ⟨_, rfl⟩
  have hMl : M ≤ 18000 := by
    have := Nat.mul_le_mul hN2 (show K ≤ 300 by omega)
    omega
  have hMi : (N : Int) * (K : Int) = (M : Int) := by rw [← hM]; push_cast; rfl
  have hmw : IntKind.i64.wrap ((N : Int) * (K : Int)) = (M : Int) := by rw [hMi, IntKind.wrap_i64]; omega
  have hmw2 : IntKind.i64.wrap (2 * (N : Int) * (K : Int)) = 2 * (M : Int) := by rw [Int.mul_assoc, hMi, IntKind.wrap_i64]; omega
  have HM := hidden hM
  have HR := hidden (hL.repeat (zs N) K _ rfl (by rw [zs_size]; omega) (by omega))
  rw [zs_data, repV_zs _ N K M (by omega) hM] at HR
  have HLL := hidden hL
  have hzN := zs_size N
  have hzM := zs_size M
  clear hNe hN0 hn1 hk1 hM hMi hL hS
  go_enter Tryz.func4, Tryz.ntmps4
  go_wp2_with (first | (go_at_call 5; ((with_reducible refine (HF.out _ HB.out).mono ?_); rintro e w2 ⟨rfl, hb⟩; replace HB := hidden hb; clear hb)) | (go_at_call 32; first | ((with_reducible refine (HN.out _ HB.out).mono ?_); rintro e w2 ⟨rfl, hb⟩; replace HB := hidden hb; clear hb) | ((with_reducible refine (HK.out _ HB.out).mono ?_); rintro e w2 ⟨rfl, hb⟩; replace HB := hidden hb; clear hb)))
  go_loop [6, 7] (fun t i => ∃ j : Nat, j ≤ N ∧ i = .int .i64 (j : Int) ∧ t = .string (zs j)) (fun _ i => N - (intOf i).toNat)
  case atStart => exact ⟨0, Nat.zero_le _, rfl, rfl⟩
  case round =>
    obtain ⟨j, hj, rfl, rfl⟩ := hrel
    by_cases hlt : j < N
    · have z1 := zs_size j
      go_wp2
      go_round
      case rel => exact ⟨j + 1, by omega, by go_num, by rw [zs_snoc]⟩
      case measure => simp [intOf]; omega
    · obtain rfl : N = j := by omega
      clear hlt hj
      by_cases hf : M ≤ 1024
      · rw [if_pos hf] at HR
        go_wp2_with (first | (go_at_call 15; ((with_reducible refine (HR.out _ HB.out).mono ?_); rintro e w2 ⟨rfl, hb⟩; replace HB := hidden hb; clear hb)))
        have hba := (Below.refl w2.heap.size w2).alloc (Nat.le_refl _) (.cells #[.string (zs N), .string (zs N)] 9)
        have HBA := hidden (HB.out.trans (hba.mono HB.out.size))
        have HLA := hidden (HLL.out.below HBA.out)
        obtain ⟨T1, hT1⟩ : ∃ T1, joinF (zs M).data.toList (datas [zs N, zs N]) = T1 := ⟨_, rfl⟩
        have hT1l : T1.length = 2 * N + M := by
          rw [← hT1]
          simp only [datas, List.map_cons, List.map_nil, joinF, zs_data, List.flatMap_cons, List.flatMap_nil, List.append_nil, List.length_append, List.length_replicate]
          omega
        have J1 := hidden (HLA.out.join (zs M) (some ⟨w2.heap.size, 0, none⟩) 2 2 [zs N, zs N] (joinV (.iface 153 (.pointer (some (A 7)))) T1) (by rw [hT1]) (rowS_new w2 (zs N) (zs N)).txs rfl (by decide) (by
          intro x hx
          have : x = zs N := by simpa using hx
          rw [this, zs_size]
          omega) (by rw [zs_size]; omega))
        obtain ⟨T2, hT2⟩ : ∃ T2, repF (zs M).data.toList (⟨#[122]⟩ : ByteArray).data.toList (⟨#[121, 121]⟩ : ByteArray).data.toList ((zs M).size + 2) (-1) 0 0 = T2 := ⟨_, rfl⟩
        have hT2l : T2.length = 2 * M := by
          rw [← hT2, zs_size]
          exact rep_zs M
        have R1 := hidden (HLL.out.replace (zs M) ⟨#[122]⟩ ⟨#[121, 121]⟩ (-1) (joinV (.iface 153 (.pointer (some (A 7)))) T2) (by rw [hT2]) (by rw [zs_size]; omega) (by decide) (by decide))
        have r1 : (txt T1).size = 2 * N + M := by rw [txt_size, hT1l]
        have r2 : (txt T2).size = 2 * M := by rw [txt_size, hT2l]
        unfold joinV at J1 R1
        rw [hT1l] at J1
        rw [hT2l] at R1
        generalize txt T1 = X1 at r1 J1
        generalize txt T2 = X2 at r2 R1
        clear hba hT1 hT1l hT2 hT2l
        refine (J1.out _ (Below.refl _ _)).mono ?_
        rintro e w3 ⟨rfl, hb⟩
        replace HB := hidden (HBA.out.trans (hb.mono HBA.out.size))
        clear hb J1 HLA HBA
        by_cases h2 : 2 * N + M ≤ 1024
        · rw [if_pos h2]
          by_cases h3 : 2 * M ≤ 1024
          · rw [if_pos h3] at R1
            go_wp2_with (first | (go_at_call 13; ((with_reducible refine (R1.out _ HB.out).mono ?_); rintro e w2 ⟨rfl, hb⟩; replace HB := hidden hb; clear hb)))
            go_ret
            exact ⟨rfl, HB.out⟩
          · rw [if_neg h3] at R1
            go_wp2_with (first | (go_at_call 13; ((with_reducible refine (R1.out _ HB.out).mono ?_); rintro e w2 ⟨rfl, hb⟩; replace HB := hidden hb; clear hb)))
            go_ret
            exact ⟨ret_bool (by rw [decide_eq_false (by omega)]; rfl), HB.out⟩
        · rw [if_neg h2]
          by_cases h3 : 2 * M ≤ 1024
          · exfalso; omega
          · rw [if_neg h3] at R1
            go_wp2_with (first | (go_at_call 13; ((with_reducible refine (R1.out _ HB.out).mono ?_); rintro e w2 ⟨rfl, hb⟩; replace HB := hidden hb; clear hb)))
            go_ret
            exact ⟨ret_bool (by rw [decide_eq_false (by omega)]; rfl), HB.out⟩
      · rw [if_neg hf] at HR
        go_wp2_with (first | (go_at_call 15; ((with_reducible refine (HR.out _ HB.out).mono ?_); rintro e w2 ⟨rfl, hb⟩; replace HB := hidden hb; clear hb)) | (go_at_call 10; ((with_reducible refine (HI.out _ HB.out).mono ?_); rintro e w2 ⟨rfl, hb⟩; replace HB := hidden hb; clear hb)))
        go_ret
        exact ⟨rfl, HB.out⟩
end St
end Go.Proofs.YtdiocmcfaneajaaGreatDoor
