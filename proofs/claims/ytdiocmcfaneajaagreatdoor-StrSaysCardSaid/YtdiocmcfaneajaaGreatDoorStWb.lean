/- What isBlank answers of a rune. Conditions: the rune is at most U+10FFFF. -/
import Derived.Test.YtdiocmcfaneajaaGreatDoorStD
import Derived.WalkMore
import Derived.Lib.OthersKept
import Derived.Lib.TrimU
import Derived.Deep.LoopGhost
namespace Go.Proofs.YtdiocmcfaneajaaGreatDoor
open Go.RowKit
open Lx
namespace St

/-- The library's text of blanks. -/
abbrev BL : ByteArray := ⟨#[32, 9, 10, 13, 11, 12]⟩
def blR (x : Nat) : Bool := decide (x = 32 ∨ (9 ≤ x ∧ x ≤ 13))
theorem near_rune (x : Nat) (hx : x < 128) : decide (0 ≤ Lib.indexByte BL.data.toList (x : Int).toNat.toUInt8) = blR x := by
  have h : ∀ n : Fin 128, decide (0 ≤ Lib.indexByte BL.data.toList ((n.val : Int)).toNat.toUInt8) = blR n.val := by decide +kernel
  exact h ⟨x, hx⟩
theorem far_byte (c : UInt8) (hc : 128 ≤ c.toNat) : ∀ l : L, (l.all fun b => decide (b.toNat < 128)) = true → Lib.indexByte l c = -1
  | [], _ => rfl
  | b :: l, h => by
    rw [List.all_cons, Bool.and_eq_true, decide_eq_true_eq] at h
    have hb : (b == c) = false := by
      rw [beq_eq_false_iff_ne]
      rintro rfl
      omega
    unfold Lib.indexByte
    rw [hb, far_byte c hc l h.2]
    rfl
theorem enc_last (x : Nat) (hx : 128 ≤ x) : ∃ k c, (k = 1 ∨ k = 2 ∨ k = 3) ∧ (Utf8.encode (x : Int)).size = k + 1 ∧ (Utf8.encode (x : Int)).data.toList[k]? = some c ∧ 128 ≤ c.toNat := by
  have key : ∀ n : Nat, 128 ≤ (UInt8.ofNat (128 + n % 64)).toNat := fun n => by
    rw [UInt8.toNat_ofNat_of_lt' (by show 128 + n % 64 < 256; omega)]
    omega
  obtain ⟨c, hc, hc2⟩ : ∃ c, (if Utf8.valid (x : Int) then ((x : Int)).toNat else Utf8.runeError) = c ∧ 128 ≤ c := by
    refine ⟨_, rfl, ?_⟩
    split
    · simpa using hx
    · decide
  unfold Utf8.encode
  simp only [hc]
  rw [if_neg (by omega)]
  by_cases h1 : c < 2048
  · rw [if_pos h1]
    exact ⟨1, _, .inl rfl, rfl, rfl, key c⟩
  · rw [if_neg h1]
    by_cases h2 : c < 65536
    · rw [if_pos h2]
      exact ⟨2, _, .inr (.inl rfl), rfl, rfl, key c⟩
    · rw [if_neg h2]
      exact ⟨3, _, .inr (.inr rfl), rfl, rfl, key c⟩
theorem conv_rune (x : Nat) (W : World) : (convert 21 9 (.int .i32 (x : Int))).run Tryz.prog W = .ok (.string (Utf8.encode (x : Int))) W := by
  simp [convert, run_underlying Tryz.underlying21, run_underlying Tryz.underlying9, Conv.intToString]

set_option maxRecDepth 100000 in
set_option maxHeartbeats 1600000 in
theorem rune_far (x : Nat) (hx : 128 ≤ x) (hx2 : x ≤ 1114111) (hne : x ≠ 65533) (w : World) :
    Calls Tryz.prog 66 #[.string BL, .int .i32 (x : Int)] w fun e w' => e = .returned (.int .i64 (-1)) ∧ Below w.heap.size w w' := by
  have HV := hidden (Tryz.utf8_ValidRune (x : Int) w)
  obtain ⟨k, c, hk, hsz, hlast, hc⟩ := enc_last x hx
  have hcv := conv_rune x
  obtain ⟨R, hR⟩ : ∃ R, Utf8.encode (x : Int) = R := ⟨_, rfl⟩
  rw [hR] at hcv hsz hlast
  have hkl : k < R.size := by omega
  have hix := idx_at R k hkl
  have hck : (R[k]'hkl) = c := (List.getElem?_eq_some_iff.1 hlast).2
  rw [hck] at hix
  have hu : ((c.toNat : Int)).toNat.toUInt8 = c := by
    rw [Int.toNat_natCast]
    exact UInt8.ofNat_toNat
  have HI1 := hidden (fun W => Tryz.strings_IndexByte ⟨#[10, 13, 11, 12]⟩ (c.toNat : Int) W)
  have HI2 := hidden (fun W => Tryz.strings_IndexByte ⟨#[13, 11, 12]⟩ (c.toNat : Int) W)
  have HI3 := hidden (fun W => Tryz.strings_IndexByte ⟨#[11, 12]⟩ (c.toNat : Int) W)
  rw [hu, far_byte c hc _ (by decide)] at HI1 HI2 HI3
  obtain ⟨z, hz⟩ : ∃ z, c.toNat = z := ⟨_, rfl⟩
  rw [hz] at hix HI1 HI2 HI3 hc
  clear hlast hkl hck hR hu hz
  have hB1 : ∀ W, (Instr.index 9 (.string BL) (.int .i64 1)).run Tryz.prog W = .ok (.int .u8 9) W := fun W => by kernel_rfl
  have hB2 : ∀ W, (Instr.index 9 (.string BL) (.int .i64 2)).run Tryz.prog W = .ok (.int .u8 10) W := fun W => by kernel_rfl
  have hB3 : ∀ W, (Instr.index 9 (.string BL) (.int .i64 3)).run Tryz.prog W = .ok (.int .u8 13) W := fun W => by kernel_rfl
  have hS1 : ∀ W, (Instr.sliceAt 9 (.string BL) (some (.int .i64 2)) none none).run Tryz.prog W = .ok (.string ⟨#[10, 13, 11, 12]⟩) W := fun W => by kernel_rfl
  have hS2 : ∀ W, (Instr.sliceAt 9 (.string BL) (some (.int .i64 3)) none none).run Tryz.prog W = .ok (.string ⟨#[13, 11, 12]⟩) W := fun W => by kernel_rfl
  have hS3 : ∀ W, (Instr.sliceAt 9 (.string BL) (some (.int .i64 4)) none none).run Tryz.prog W = .ok (.string ⟨#[11, 12]⟩) W := fun W => by kernel_rfl
  have hw2 : IntKind.i64.wrap 2 = 2 := by decide
  have hw3 : IntKind.i64.wrap 3 = 3 := by decide
  have hw4 : IntKind.i64.wrap 4 = 4 := by decide
  have h65 : ¬ ((x : Int) = 65533) := by omega
  by_cases hv : Lib.validRune (x : Int) = true
  · rw [hv] at HV
    clear hv
    rcases hk with rfl | rfl | rfl
    · go_enter Tryz.func66, Tryz.ntmps66
      go_wp2_with (go_at_call 84; (refine HV.out.mono ?_); rintro e w' ⟨rfl, hw⟩; rw [hw]; clear hw)
      go_step3
      go_wp2
      have hlit : ∀ W, (Instr.index 9 (.string R) (.int .i64 1)).run Tryz.prog W = .ok (.int .u8 (z : Int)) W := fun W => hix W
      clear hix
      go_loopw [9] (fun i wr => i = .int .i64 1 ∧ Hid (Below w.heap.size w wr)) (fun i _ => 0)
      case atStart => exact ⟨rfl, hidden (Below.refl _ _)⟩
      case round =>
        obtain ⟨rfl, hb⟩ := hrel
        go_wp2
        go_step3
        go_wp2_with fail
        go_quiet (fail)
        go_wp2
        go_quiet ((go_at_call 83; exact (HI1.out _).mono fun _ _ h => ⟨h.1, _, h.2⟩))
        go_wp2
        dsimp (config := { zetaDelta := true }) only [Exit.noGoto, Exit.inBlock, Exit.then]
        go_ret
        exact ⟨rfl, ⟨hb.out.os, hb.out.tape, hb.out.output, hb.out.size, hb.out.block⟩⟩
    · go_enter Tryz.func66, Tryz.ntmps66
      go_wp2_with (go_at_call 84; (refine HV.out.mono ?_); rintro e w' ⟨rfl, hw⟩; rw [hw]; clear hw)
      go_step3
      go_wp2
      have hlit : ∀ W, (Instr.index 9 (.string R) (.int .i64 2)).run Tryz.prog W = .ok (.int .u8 (z : Int)) W := fun W => hix W
      clear hix
      go_loopw [9] (fun i wr => i = .int .i64 2 ∧ Hid (Below w.heap.size w wr)) (fun i _ => 0)
      case atStart => exact ⟨rfl, hidden (Below.refl _ _)⟩
      case round =>
        obtain ⟨rfl, hb⟩ := hrel
        go_wp2
        go_step3
        go_wp2_with fail
        go_quiet (fail)
        go_wp2
        go_quiet ((go_at_call 83; exact (HI2.out _).mono fun _ _ h => ⟨h.1, _, h.2⟩))
        go_wp2
        dsimp (config := { zetaDelta := true }) only [Exit.noGoto, Exit.inBlock, Exit.then]
        go_ret
        exact ⟨rfl, ⟨hb.out.os, hb.out.tape, hb.out.output, hb.out.size, hb.out.block⟩⟩
    · go_enter Tryz.func66, Tryz.ntmps66
      go_wp2_with (go_at_call 84; (refine HV.out.mono ?_); rintro e w' ⟨rfl, hw⟩; rw [hw]; clear hw)
      go_step3
      go_wp2
      have hlit : ∀ W, (Instr.index 9 (.string R) (.int .i64 3)).run Tryz.prog W = .ok (.int .u8 (z : Int)) W := fun W => hix W
      clear hix
      go_loopw [9] (fun i wr => i = .int .i64 3 ∧ Hid (Below w.heap.size w wr)) (fun i _ => 0)
      case atStart => exact ⟨rfl, hidden (Below.refl _ _)⟩
      case round =>
        obtain ⟨rfl, hb⟩ := hrel
        go_wp2
        go_step3
        go_wp2_with fail
        go_quiet (fail)
        go_wp2
        go_quiet ((go_at_call 83; exact (HI3.out _).mono fun _ _ h => ⟨h.1, _, h.2⟩))
        go_wp2
        dsimp (config := { zetaDelta := true }) only [Exit.noGoto, Exit.inBlock, Exit.then]
        go_ret
        exact ⟨rfl, ⟨hb.out.os, hb.out.tape, hb.out.output, hb.out.size, hb.out.block⟩⟩
  · rw [Bool.not_eq_true] at hv
    rw [hv] at HV
    clear hv
    go_enter Tryz.func66, Tryz.ntmps66
    go_wp2_with (go_at_call 84; (refine HV.out.mono ?_); rintro e w' ⟨rfl, hw⟩; rw [hw]; clear hw)
    go_ret
    exact ⟨rfl, Below.refl _ _⟩
theorem dec_BL (pos : Nat) (h : pos < 6) : (Utf8.decode BL pos).1 < 128 ∧ (Utf8.decode BL pos).2 = 1 := by
  have hh : ∀ n : Fin 6, (Utf8.decode BL n.val).1 < 128 ∧ (Utf8.decode BL n.val).2 = 1 := by decide +kernel
  exact hh ⟨pos, h⟩
set_option maxRecDepth 100000 in
set_option maxHeartbeats 1600000 in
theorem rune_err (w : World) :
    Calls Tryz.prog 66 #[.string BL, .int .i32 65533] w fun e w' => e = .returned (.int .i64 (-1)) ∧ Below w.heap.size w w' := by
  go_enter Tryz.func66, Tryz.ntmps66
  go_wp2
  go_loopg [] 6 (fun gf wx => ∃ pos : Nat, wx.heap[w.heap.size]? = some (.stringIter BL pos) ∧ Hid (Below w.heap.size w wx) ∧ pos ≤ 6 ∧ 6 ≤ pos + gf)
  case atStart => exact ⟨0, World.iter_heap w BL 0, hidden ((Below.refl _ w).alloc (Nat.le_refl _) _), by omega, by omega⟩
  case round =>
    obtain ⟨pos, hit, hbw, hp6, hfu⟩ := hrel
    by_cases hps : pos < 6
    · obtain ⟨g', rfl⟩ : ∃ g', gk = g' + 1 := ⟨gk - 1, by omega⟩
      have hnx : ∀ ty, (Instr.next (.pointer (some ⟨w.heap.size, 0, none⟩)) true ty).run Tryz.prog wr = _ := fun ty => Lib.run_next_any_at wr w.heap.size BL pos ty hit hps
      obtain ⟨hR1, hK1⟩ := dec_BL pos hps
      obtain ⟨R, hR⟩ : ∃ R, (Utf8.decode BL pos).1 = R := ⟨_, rfl⟩
      rw [hR, hK1] at hnx
      rw [hR] at hR1
      have hit2 := Lib.iterAt_heap wr w.heap.size BL pos (pos + 1) hit
      have hbw2 := hidden (Lib.below_iterAt hbw.out (k := w.heap.size) (Nat.le_refl _) BL (pos + 1))
      obtain ⟨W, hWd⟩ : ∃ W, wr.iterAt w.heap.size BL (pos + 1) = W := ⟨_, rfl⟩
      rw [hWd] at hnx hit2 hbw2
      have hne : ¬ ((R : Int) = 65533) := by omega
      clear hR hK1 hWd
      go_wp2
      go_roundg g'
      case measure => omega
      case rel => exact ⟨pos + 1, hit2, hbw2, by omega, by omega⟩
    · have hnx : ∀ ty, (Instr.next (.pointer (some ⟨w.heap.size, 0, none⟩)) true ty).run Tryz.prog wr = _ := fun ty => Lib.run_next_end_at wr w.heap.size BL pos ty hit (show ¬ pos < BL.size from hps)
      go_wp2
      go_ret
      exact ⟨rfl, hbw.out⟩

set_option maxRecDepth 100000 in
set_option maxHeartbeats 1600000 in
theorem isBlank_any (x : Nat) (hx : x ≤ 1114111) (w : World) :
    Calls Tryz.prog 45 #[.int .i32 (x : Int)] w fun e w' => e = .returned (.bool (blR x)) ∧ Below w.heap.size w w' := by
  by_cases h1 : x < 128
  · have HR := hidden (Tryz.strings_ContainsRune_ascii BL (x : Int) w (by omega) (by omega))
    rw [near_rune x h1] at HR
    go_enter Tryz.func45, Tryz.ntmps45
    go_wp2_with (go_at_call 63; (refine HR.out.mono ?_); rintro e w' ⟨rfl, hw⟩; rw [hw]; clear hw)
    go_ret
    exact ⟨rfl, Below.refl _ _⟩
  · have hF : Hid (blR x = false) := hidden (by unfold blR; rw [decide_eq_false (by omega)])
    have HI : Hid (Calls Tryz.prog 66 #[.string BL, .int .i32 (x : Int)] w fun e w' => e = .returned (.int .i64 (-1)) ∧ Below w.heap.size w w') := hidden (by
      by_cases h2 : x = 65533
      · subst h2
        exact rune_err w
      · exact rune_far x (by omega) hx h2 w)
    clear h1 hx
    go_enter Tryz.func45, Tryz.ntmps45
    go_wp2_with (first | (go_at_call 66; (refine HI.out.mono ?_); rintro e w2 ⟨rfl, hb2⟩) | go_in)
    go_ret
    exact ⟨ret_bool hF.out.symm, hb2⟩
end St
end Go.Proofs.YtdiocmcfaneajaaGreatDoor
