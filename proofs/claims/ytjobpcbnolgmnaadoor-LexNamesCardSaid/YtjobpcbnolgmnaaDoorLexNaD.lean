/- What smithyref4.Quote answers. Conditions: short texts. -/
import Derived.Test.YtjobpcbnolgmnaaDoorLexQuote
namespace Go.Proofs.YtjobpcbnolgmnaaDoor
open Go.RowKit
open Lx

theorem pieceQ_len (b : UInt8) : (pieceQ b).length ≤ 4 := by unfold pieceQ; split <;> (try split) <;> (try split) <;> (try split) <;> simp
set_option maxRecDepth 10000 in
set_option maxHeartbeats 3200000 in
theorem refQuote_any (s : ByteArray) (hs : s.size ≤ 10000) (w : World) :
    Calls Tryd.prog 19 #[.string s] w fun e w' => e = .returned (.string (txt (quoteF s.data.toList))) ∧ Below w.heap.size w w' := by
  have hmk := make_bytes (s.size + 2) (by omega) w
  rw [show ((s.size + 2 : Nat) : Int) = (s.size : Int) + 2 by omega] at hmk
  have HO := hid' (ownB_made w w.heap.size (s.size + 2) (by omega) (Nat.le_refl _))
  have HB := hid' ((Below.refl w.heap.size w).alloc (Nat.le_refl _) (.cells (zrow (s.size + 2)) 5))
  have hz := World.size_alloc w (.cells (zrow (s.size + 2)) 5)
  generalize hw1 : w.alloc (.cells (zrow (s.size + 2)) 5) = w1 at HO HB hmk hz
  have hw1s : w.heap.size ≤ w1.heap.size := HB.out.size
  clear hz hw1
  generalize s.size + 2 = cc at HO hmk
  go_enter Tryd.func19, Tryd.ntmps19
  go_wp2_with (at_builtin; refine byts_plain HO.out [34] hw1s (by simp) (by rfl) (by rfl) rfl (.tmp 10) (.tmp 11) (by rfl) (by rfl) (by rfl) ?_; intro u w2 h1 h2; have HO2 := hid' h1; have HB2 := hid' (HB.out.trans h2); clear h1 h2)
  clear hmk HO HB hw1s
  go_loopw [4, 5, 6] (fun v i _ wr => ∃ (k : Nat) (acc : List UInt8), k ≤ s.size ∧ i = .int .i64 k ∧ acc.length ≤ 1 + 4 * k ∧ Hid (34 :: (s.data.toList.flatMap pieceQ) = acc ++ (s.data.toList.drop k).flatMap pieceQ) ∧ Hid (OwnB wr w.heap.size v acc) ∧ Hid (Below w.heap.size w wr)) (fun _ i _ _ => s.size - (intOf i).toNat)
  case atStart => exact ⟨0, [34], Nat.zero_le _, rfl, by simp, hid' (by rw [List.drop_zero]; rfl), HO2, HB2⟩
  case round =>
    clear HO2 HB2
    obtain ⟨k, acc, hk, rfl, hacc, hrest, ho, hb⟩ := hrel
    have hwz := hb.out.size
    by_cases hlt : k < s.size
    · obtain ⟨b, hbk⟩ : ∃ b, s[k] = b := ⟨_, rfl⟩
      have hlt' : (k : Int) < (s.size : Int) := by omega
      have hidx : ∀ W, (Instr.index 9 (.string s) (.int .i64 (k : Int))).run Tryd.prog W = .ok (.int .u8 (b.toNat : Int)) W := fun W => by
        rw [← hbk]
        go_simp
      have HPL := hid' (pieceQ_len b)
      have hrest' : Hid (34 :: (s.data.toList.flatMap pieceQ) = (acc ++ pieceQ b) ++ (s.data.toList.drop (k + 1)).flatMap pieceQ) := hid' (by
        rw [hrest.out, drop_at s k hlt, hbk, List.flatMap_cons, List.append_assoc])
      clear hbk hrest
      by_cases e10 : b = 10
      · subst e10
        have HP : Hid (pieceQ 10 = [92, 110]) := hid' (by decide)
        rw [show (((10 : UInt8).toNat : Nat) : Int) = 10 from rfl] at hidx
        go_wp2_with (at_builtin; refine byts_plain ho.out [92, 110] hwz (by simp; omega) (by rfl) (by rfl) rfl (.tmp 29) (.tmp 30) (by rfl) (by rfl) (by rfl) ?_; intro u w3 h1 h2; have HO3 : Hid (OwnB w3 w.heap.size u (acc ++ pieceQ 10)) := hid' (by rw [HP.out]; exact h1); have HB3 := hid' (hb.out.trans h2); clear h1 h2 HP)
        go_roundw
        case rel => exact ⟨k + 1, acc ++ pieceQ 10, by omega, by go_num, by have := HPL.out; rw [List.length_append]; omega, hrest', HO3, HB3⟩
        case measure => simp [intOf]; omega
      · by_cases e9 : b = 9
        · subst e9
          have HP : Hid (pieceQ 9 = [92, 116]) := hid' (by decide)
          rw [show (((9 : UInt8).toNat : Nat) : Int) = 9 from rfl] at hidx
          go_wp2_with (at_builtin; refine byts_plain ho.out [92, 116] hwz (by simp; omega) (by rfl) (by rfl) rfl (.tmp 35) (.tmp 36) (by rfl) (by rfl) (by rfl) ?_; intro u w3 h1 h2; have HO3 : Hid (OwnB w3 w.heap.size u (acc ++ pieceQ 9)) := hid' (by rw [HP.out]; exact h1); have HB3 := hid' (hb.out.trans h2); clear h1 h2 HP)
          go_roundw
          case rel => exact ⟨k + 1, acc ++ pieceQ 9, by omega, by go_num, by have := HPL.out; rw [List.length_append]; omega, hrest', HO3, HB3⟩
          case measure => simp [intOf]; omega
        · by_cases e92 : b = 92
          · subst e92
            have HP : Hid (pieceQ 92 = [92, 92]) := hid' (by decide)
            rw [show (((92 : UInt8).toNat : Nat) : Int) = 92 from rfl] at hidx
            go_wp2_with (at_builtin; refine byts_plain ho.out [92, 92] hwz (by simp; omega) (by rfl) (by rfl) rfl (.tmp 45) (.tmp 47) (by rfl) (by rfl) (by rfl) ?_; intro u w3 h1 h2; have HO3 : Hid (OwnB w3 w.heap.size u (acc ++ pieceQ 92)) := hid' (by rw [HP.out]; exact h1); have HB3 := hid' (hb.out.trans h2); clear h1 h2 HP)
            go_roundw
            case rel => exact ⟨k + 1, acc ++ pieceQ 92, by omega, by go_num, by have := HPL.out; rw [List.length_append]; omega, hrest', HO3, HB3⟩
            case measure => simp [intOf]; omega
          · by_cases e34 : b = 34
            · subst e34
              have HP : Hid (pieceQ 34 = [92, 34]) := hid' (by decide)
              rw [show (((34 : UInt8).toNat : Nat) : Int) = 34 from rfl] at hidx
              go_wp2_with (at_builtin; refine byts_plain ho.out [92, 34] hwz (by simp; omega) (by rfl) (by rfl) rfl (.tmp 45) (.tmp 47) (by rfl) (by rfl) (by rfl) ?_; intro u w3 h1 h2; have HO3 : Hid (OwnB w3 w.heap.size u (acc ++ pieceQ 34)) := hid' (by rw [HP.out]; exact h1); have HB3 := hid' (hb.out.trans h2); clear h1 h2 HP)
              go_roundw
              case rel => exact ⟨k + 1, acc ++ pieceQ 34, by omega, by go_num, by have := HPL.out; rw [List.length_append]; omega, hrest', HO3, HB3⟩
              case measure => simp [intOf]; omega
            · have b10 := byte_eq b 10
              have b9 := byte_eq b 9
              have b92 := byte_eq b 92
              have b34 := byte_eq b 34
              have b127 := byte_eq b 127
              rw [show (((10 : UInt8).toNat : Nat) : Int) = 10 from rfl, beq_eq_false_iff_ne.2 e10] at b10
              replace b10 := b10.symm
              rw [show (((9 : UInt8).toNat : Nat) : Int) = 9 from rfl, beq_eq_false_iff_ne.2 e9] at b9
              replace b9 := b9.symm
              rw [show (((92 : UInt8).toNat : Nat) : Int) = 92 from rfl, beq_eq_false_iff_ne.2 e92] at b92
              replace b92 := b92.symm
              rw [show (((34 : UInt8).toNat : Nat) : Int) = 34 from rfl, beq_eq_false_iff_ne.2 e34] at b34
              replace b34 := b34.symm
              rw [show (((127 : UInt8).toNat : Nat) : Int) = 127 from rfl] at b127
              have hpq : pieceQ b = if tb b then [b] else [92, 120, hexc (b >>> 4), hexc (b &&& 15)] := by unfold pieceQ; rw [if_neg e10, if_neg e9, if_neg (fun h => h.elim e92 e34)]
              have htb : tb b = (decide (32 ≤ (b.toNat : Int)) && !((b.toNat : Int) == 127)) := by
                rw [tb_iff, Bool.eq_iff_iff]
                simp only [decide_eq_true_eq, Bool.and_eq_true, Bool.not_eq_true', beq_eq_false_iff_ne]
              clear e10 e9 e92 e34
              by_cases hl : (b.toNat : Int) < 32
              · have HP : Hid (pieceQ b = [92, 120, hexc (b >>> 4), hexc (b &&& 15)]) := hid' (by rw [hpq, htb, decide_eq_false (by omega)]; rfl)
                clear hpq htb b127
                have hix1 := digit_at (b.toNat / 16) (by have := b.toNat_lt; omega)
                have hix2 := digit_at (b.toNat % 16) (by omega)
                rw [← shr_u8, show ((b.toNat / 16 : Nat) : Int) = (b.toNat : Int) / 16 from by omega] at hix1
                rw [← and_u8, ← bits_and] at hix2
                go_wp2_with fail
                go_region_law (refine byts_drawn (W := wr.drew) (row_far ho.out fun _ _ _ => rfl) [92, 120, hexc (b >>> 4), hexc (b &&& 15)] hwz (by simp; omega) (by rfl) (by rfl) rfl (.tmp 56) (.tmp 65) (by rfl) (by first | rfl | simp [Act.eval]) (by first | rfl | simp [Act.eval]) ?_; intro u w3 h1 h2)
                all_goals (
                  have HO3 : Hid (OwnB w3 w.heap.size u (acc ++ pieceQ b)) := hid' (by rw [HP.out]; exact h1)
                  have HB3 : Hid (Below w.heap.size w w3) := hid' (hb.out.trans ⟨h2.os, h2.tape, h2.output, h2.size, h2.block⟩)
                  clear h1 h2 HP
                  go_wp2
                  go_roundw
                  case rel => exact ⟨k + 1, acc ++ pieceQ b, by omega, by go_num, by have := HPL.out; rw [List.length_append]; omega, hrest', HO3, HB3⟩
                  case measure => simp [intOf]; omega)
              · by_cases h127 : ((b.toNat : Int) == 127) = true
                · have HP : Hid (pieceQ b = [92, 120, hexc (b >>> 4), hexc (b &&& 15)]) := hid' (by rw [hpq, htb, h127]; simp)
                  clear hpq htb b127
                  have hix1 := digit_at (b.toNat / 16) (by have := b.toNat_lt; omega)
                  have hix2 := digit_at (b.toNat % 16) (by omega)
                  rw [← shr_u8, show ((b.toNat / 16 : Nat) : Int) = (b.toNat : Int) / 16 from by omega] at hix1
                  rw [← and_u8, ← bits_and] at hix2
                  go_wp2_with fail
                  go_region_law (refine byts_drawn (W := wr.drew) (row_far ho.out fun _ _ _ => rfl) [92, 120, hexc (b >>> 4), hexc (b &&& 15)] hwz (by simp; omega) (by rfl) (by rfl) rfl (.tmp 56) (.tmp 65) (by rfl) (by first | rfl | simp [Act.eval]) (by first | rfl | simp [Act.eval]) ?_; intro u w3 h1 h2)
                  all_goals (
                    have HO3 : Hid (OwnB w3 w.heap.size u (acc ++ pieceQ b)) := hid' (by rw [HP.out]; exact h1)
                    have HB3 : Hid (Below w.heap.size w w3) := hid' (hb.out.trans ⟨h2.os, h2.tape, h2.output, h2.size, h2.block⟩)
                    clear h1 h2 HP
                    go_wp2
                    go_roundw
                    case rel => exact ⟨k + 1, acc ++ pieceQ b, by omega, by go_num, by have := HPL.out; rw [List.length_append]; omega, hrest', HO3, HB3⟩
                    case measure => simp [intOf]; omega)
                · have h127' : ((b.toNat : Int) == 127) = false := by simpa using h127
                  have HP : Hid (pieceQ b = [b]) := hid' (by rw [hpq, htb, h127', decide_eq_true (by omega)]; rfl)
                  clear hpq htb b127 h127
                  go_wp2_with (at_builtin; refine byts_plain ho.out [b] hwz (by simp; omega) (by rfl) (by rfl) rfl (.tmp 22) (.tmp 24) (by rfl) (by rfl) (by rfl) ?_; intro u w3 h1 h2; have HO3 : Hid (OwnB w3 w.heap.size u (acc ++ pieceQ b)) := hid' (by rw [HP.out]; exact h1); have HB3 := hid' (hb.out.trans h2); clear h1 h2 HP)
                  go_roundw
                  case rel => exact ⟨k + 1, acc ++ pieceQ b, by omega, by go_num, by have := HPL.out; rw [List.length_append]; omega, hrest', HO3, HB3⟩
                  case measure => simp [intOf]; omega
    · obtain rfl : k = s.size := by omega
      have hend : Hid (quoteF s.data.toList = acc ++ [34]) := hid' (by
        unfold quoteF
        rw [← List.cons_append, hrest.out, List.drop_eq_nil_of_le (by simp), List.flatMap_nil, List.append_nil])
      clear hrest
      go_wp2_with (at_builtin; refine byts_plain ho.out [34] hwz (by simp; omega) (by rfl) (by rfl) rfl (.tmp 67) (.tmp 68) (by rfl) (by rfl) (by rfl) ?_; intro u w3 h1 h2; have hcv := conv_own h1; obtain ⟨ao, cap, hu, _⟩ := own_form h1; obtain ⟨ln, hln⟩ : ∃ ln, (acc ++ [34]).length = ln := ⟨_, rfl⟩; rw [hln] at hu; subst hu; clear hln; have HB3 := hid' (hb.out.trans h2); clear h1 h2)
      go_ret
      exact ⟨ret_v (by rw [hend.out]; rfl), HB3.out⟩
end Go.Proofs.YtjobpcbnolgmnaaDoor
