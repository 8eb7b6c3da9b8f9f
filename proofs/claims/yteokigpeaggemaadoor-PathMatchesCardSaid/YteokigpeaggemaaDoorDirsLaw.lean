/- smithylaw1.PathDirs answers true at every text. Conditions: internal/bytealg.MaxLen holds some number, smithy/api.ErrPath an error. -/
import Derived.Test.YteokigpeaggemaaDoorFirst
import Derived.Test.YteokigpeaggemaaDoorDirsPlain
namespace Go.Proofs.YteokigpeaggemaaDoor
open Go.RowKit

theorem valid_pos {p : ByteArray} (h : Pth.splitOK Pth.partOK p.data.toList = true) : 0 < p.size := by
  rw [Lib.size_eq]
  cases e : p.data.toList with
  | nil => rw [e] at h; revert h; decide
  | cons => simp

theorem Valid_ready (ev : Value) (s : ByteArray) (w : World) (hs : s.size < 4294967281) (hR : Ready ev w) :
    Calls Tryd.prog 16 #[.string s] w fun e w' => e = .returned (.bool (Pth.splitOK Pth.partOK s.data.toList)) ∧ Below w.heap.size w w' := by
  obtain ⟨m, hm⟩ := hR.len
  refine (Valid_any s m w hs hR.low.1 hm).mono ?_
  rintro e w' ⟨he, hw⟩
  refine ⟨he, ?_⟩
  rcases hw with rfl | rfl
  · exact Below.refl _ _
  · exact (Below.refl _ _).alloc (Nat.le_refl _) _

theorem Dir_cut (p : ByteArray) (e : Nat) (w : World) (hs : p.size < 4294967281) (he : e ≤ p.size) :
    Calls Tryd.prog 18 #[.string (p.extract 0 e)] w fun e' w' => e' = .returned (.string (p.extract 0 (dirN (p.extract 0 e)))) ∧ w = w' := by
  refine (Dir_any (p.extract 0 e) w (by rw [Drs.cut_size p e he]; omega)).mono ?_
  rintro e' w' ⟨rfl, rfl⟩
  refine ⟨ret_str (Drs.cut_cut p e _ ?_), rfl⟩
  rcases Drs.dirN_cut p e he with h | ⟨h, _⟩ <;> omega
theorem Under_is (p d : ByteArray) (b : Bool) (w : World) (h : underB p d = b) : Calls Tryd.prog 22 #[.string p, .string d] w fun e w' => e = .returned (.bool b) ∧ w = w' := by
  rw [← h]; exact Under_any p d w

set_option maxHeartbeats 1000000 in
theorem PathDirs_any (et : TypeId) (ex : Value) (p : ByteArray) (w : World) (hR : Ready (.iface et ex) w) :
    Calls Tryd.prog 7 #[.string p] w (saysB w.heap.size w true) := by
  have HF := Lib.hid (first_any et ex w hR)
  by_cases hbig : 200 < p.size
  · go_enter Tryd.func7, Tryd.ntmps7
    go_wp2_with (go_at_call 9; refine HF.out.mono ?_; rintro e w1 ⟨rfl, hb1⟩)
    go_ret
    exact ⟨rfl, hb1⟩
  · have HV := Lib.hid (fun W (hW : Ready (.iface et ex) W) => Valid_ready (.iface et ex) p W (by omega) hW)
    cases hv : Pth.splitOK Pth.partOK p.data.toList
    · go_enter Tryd.func7, Tryd.ntmps7
      go_wp2_with (first | (go_at_call 9; refine HF.out.mono ?_; rintro e w1 ⟨rfl, hb1⟩; have R1 := hR.below hb1) | (go_at_call 16; refine (HV.out _ (by assumption)).mono ?_; rintro e w2 ⟨rfl, hb2⟩))
      go_ret
      exact ⟨rfl, hb1.trans (hb2.mono hb1.size)⟩
    · have hpos := valid_pos hv
      go_enter Tryd.func7, Tryd.ntmps7
      go_wp2_with (first | (go_at_call 9; refine HF.out.mono ?_; rintro e w1 ⟨rfl, hb1⟩; have R1 := hR.below hb1) | (go_at_call 16; refine (HV.out _ (by assumption)).mono ?_; rintro e w2 ⟨rfl, hb2⟩))
      have HB := Lib.hid (hb1.trans (hb2.mono hb1.size))
      clear hb1 hb2
      clear hv
      go_loop [4, 5] (fun n i => ∃ k : Nat, k ≤ p.size ∧ i = .int .i64 k ∧ n = .int .i64 (1 + (Drs.cnt p k : Int))) (fun _ i => p.size - (intOf i).toNat)
      case atStart => exact ⟨0, Nat.zero_le _, rfl, rfl⟩
      case round =>
        obtain ⟨k, hk, rfl, rfl⟩ := hrel
        have hcb := Drs.cnt_le p k
        by_cases hlt : k < p.size
        · by_cases h47 : (p[k].toNat : Int) = 47
          · have Hc : Hid (Drs.cnt p (k + 1) = Drs.cnt p k + 1) := Lib.hid (Drs.cnt_hit p k hlt (by apply UInt8.toNat_inj.1; have : (47 : UInt8).toNat = 47 := rfl; omega))
            go_wp2
            go_round
            case rel => exact ⟨k + 1, by omega, by go_num, by rw [Hc.out]; go_num⟩
            case measure => simp [intOf]; omega
          · have Hc : Hid (Drs.cnt p (k + 1) = Drs.cnt p k) := Lib.hid (Drs.cnt_miss p k hlt (by intro e; rw [e] at h47; exact h47 rfl))
            go_wp2
            go_round
            case rel => exact ⟨k + 1, by omega, by go_num, by rw [Hc.out]⟩
            case measure => simp [intOf]; omega
        · obtain rfl : k = p.size := by omega
          obtain ⟨N, hN⟩ : ∃ N, N = 1 + Drs.cnt p p.size := ⟨_, rfl⟩
          have eN : (1 + (Drs.cnt p p.size : Int)) = (N : Int) := by omega
          rw [eN]
          have HN := Lib.hid hN
          have hNb : N ≤ 201 := by omega
          clear eN hN hcb
          go_wp2
          go_loop [6, 7, 8] (fun d i _ => ∃ x e : Nat, i = .int .i64 x ∧ d = .string (p.extract 0 e) ∧ e ≤ p.size ∧ x ≤ N ∧ Hid (Drs.cnt p e + x + 1 = N ∨ (x = N ∧ e = 0))) (fun _ i _ => N - (intOf i).toNat)
          case atStart => exact ⟨0, p.size, rfl, by simp, Nat.le_refl _, Nat.zero_le _, Lib.hid (.inl (by rw [HN.out]; omega))⟩
          case round =>
            obtain ⟨x, e, rfl, rfl, he, hx, hinv⟩ := hrel
            by_cases hlt2 : x < N
            · obtain ⟨f, hf, hcut⟩ := Drs.dirN_some p e he
              have HD := Lib.hid (Dir_cut p e w2 (by omega) he)
              rw [← hf] at HD
              have hsum : Drs.cnt p e + x + 1 = N := by rcases hinv.out with h | h <;> omega
              have hfle : f ≤ p.size := by
                rcases hcut with h | ⟨h, _⟩
                · omega
                · omega
              have HU := Lib.hid (Under_is p (p.extract 0 f) true w2 (Drs.under_up p f hpos (by
                rcases hcut with h | ⟨h, hb, _⟩
                · exact .inl h.1
                · exact .inr ⟨by omega, hb⟩)))
              have HN2 := Lib.hid (Under_is (p.extract 0 f) (p.extract 0 e) false w2 (Drs.not_under p e f he (by
                rcases hcut with h | ⟨h, _⟩
                · by_cases e0 : e = 0
                  · exact .inr ⟨h.1, e0⟩
                  · exact .inl (by omega)
                · exact .inl h)))
              have Hnext : Hid (Drs.cnt p f + (x + 1) + 1 = N ∨ (x + 1 = N ∧ f = 0)) := Lib.hid (by
                rcases hcut with h | ⟨h, _, hc⟩
                · exact .inr ⟨by omega, h.1⟩
                · exact .inl (by omega))
              clear hcut hsum hf
              go_wp2_with fail
              refine HD.out.mono ?_
              rintro e1 w3 ⟨rfl, rfl⟩
              go_wp2_with fail
              refine HU.out.mono ?_
              rintro e1 w3 ⟨rfl, rfl⟩
              go_wp2_with fail
              refine HN2.out.mono ?_
              rintro e1 w3 ⟨rfl, rfl⟩
              go_wp2
              go_round
              case rel => exact ⟨x + 1, f, by go_num, rfl, hfle, by omega, Hnext⟩
              case measure => simp [intOf]; omega
            · obtain rfl : x = N := by omega
              have he0 : e = 0 := by rcases hinv.out with h | h <;> omega
              subst he0
              have HD := Lib.hid (Dir_cut p 0 w2 (by omega) he)
              have hd0 : dirN (p.extract 0 0) = 0 := by
                rcases Drs.dirN_cut p 0 he with h | ⟨h, _⟩
                · exact h.1
                · omega
              rw [hd0] at HD
              have h00 : p.extract 0 0 = ⟨#[]⟩ := by simp; rfl
              have hnu := Drs.not_under p 0 0 he (.inr ⟨rfl, rfl⟩)
              rw [h00] at hnu
              have HN2 := Lib.hid (Under_is ⟨#[]⟩ ⟨#[]⟩ false w2 hnu)
              clear hnu
              rw [h00] at HD ⊢
              clear hd0 h00
              go_wp2_with fail
              refine HD.out.mono ?_
              rintro e1 w3 ⟨rfl, rfl⟩
              go_wp2_with fail
              refine HN2.out.mono ?_
              rintro e1 w3 ⟨rfl, rfl⟩
              go_wp2
              go_ret
              exact ⟨rfl, HB.out⟩

end Go.Proofs.YteokigpeaggemaaDoor
