/- Parts of the proof, together. What pieceOf answers. Conditions: short texts. -/
import Derived.Test.YtaafhldcdkbnkaaGreatDoorQdar
namespace Go.Proofs.YtaafhldcdkbnkaaGreatDoor
open Go.RowKit
open Lx

theorem pieceF_plain (b : UInt8) (l : List UInt8) (h : b ≠ 92) : pieceF (b :: l) = if tb b then some (b, 1) else none := by
  have e : (b != 92) = true := by simpa using h
  simp only [pieceF, e, if_true]
theorem pieceF_one : pieceF [92] = none := rfl
theorem pieceF_two (c : UInt8) (r : List UInt8) : pieceF (92 :: c :: r) = if c == 110 then some (10, 2) else if c == 116 then some (9, 2) else if c == 92 || c == 34 || c == 39 then some (c, 2) else if c == 120 then hexF r else none := by
  cases r with
  | nil => rfl
  | cons x r => cases r <;> rfl
theorem pair_eq (X : ByteArray) (c d : UInt8) (hX : X.toList = [92, c]) : (X.toList == [92, d]) = (c == d) := by
  rw [hX]; simp
set_option maxRecDepth 10000 in
set_option maxHeartbeats 3200000 in
theorem pieceOf_any (s : ByteArray) (hs : s.size ≤ 1000000) (h0 : 0 < s.size) (w : World) : Calls Tryz.prog 157 #[.string s] w fun e w' => e = .returned (pieceV (pieceF s.data.toList)) ∧ w' = w := by
  have hd0 := drop_at s 0 h0
  rw [List.drop_zero] at hd0
  have h0' : (0 : Int) < (s.size : Int) := by omega
  have b92 := byte_eq s[0] 92
  rw [show (((92 : UInt8).toNat : Nat) : Int) = 92 from rfl] at b92
  obtain ⟨r, hr⟩ : ∃ r, pieceF s.data.toList = r := ⟨_, rfl⟩
  rw [hr]
  by_cases e92 : s[0] = 92
  · have hidx0 : ∀ W, (Instr.index 9 (.string s) (.int .i64 0)).run Tryz.prog W = .ok (.int .u8 92) W := fun W => by
      have e2 : (s[0].toNat : Int) = 92 := by rw [e92]; rfl
      go_simp
    by_cases h1 : s.size = 1
    · have HR : Hid (r = none) := hid' (by rw [← hr, hd0, e92, List.drop_eq_nil_of_le (by simp [h1])]; rfl)
      have hL : s.data.toList = [92] := by rw [hd0, e92, List.drop_eq_nil_of_le (by simp [h1])]
      have hX := ext_take s 1
      rw [hL] at hX
      have hsl := slice_pre s 1 (by omega)
      rw [show (((1 : Nat)) : Int) = (1 : Int) from rfl] at hsl
      have hXX : s.extract 0 1 = ⟨#[92]⟩ := ByteArray.ext (Array.toList_inj.1 hX)
      rw [hXX] at hsl
      have h1' : (s.size : Int) = 1 := by omega
      have hmin : (s.size : Int) < 2 := by omega
      clear hd0 hr b92 e92 hL hX hXX h1
      go_enter Tryz.func157, Tryz.ntmps157
      go_wp2
      go_ret2
      exact ⟨ret_v (by rw [HR.out]; rfl), rfl⟩
    · have h1' : (1 : Int) < (s.size : Int) := by omega
      have hd1 := drop_at s 1 (by omega)
      rw [Nat.zero_add] at hd0
      have hL : s.data.toList = (92 : UInt8) :: s[1] :: s.data.toList.drop 2 := by rw [hd1, e92] at hd0; exact hd0
      rw [hL, pieceF_two] at hr
      have hX := ext_take s 2
      rw [hL] at hX
      have hsl := slice_pre s 2 (by omega)
      have hXl : (s.extract 0 2).toList = ([(92 : UInt8), s[1]] : List UInt8) := by rw [ByteArray.toList_eq]; exact hX
      obtain ⟨c, hc⟩ : ∃ c, s[1] = c := ⟨_, rfl⟩
      have hidx : ∀ W, (Instr.index 9 (.string s) (.int .i64 1)).run Tryz.prog W = .ok (.int .u8 (c.toNat : Int)) W := fun W => by
        rw [← hc]
        go_simp
      rw [hc] at hr hXl
      have hmin : ¬ (s.size : Int) < 2 := by omega
      rw [show (((2 : Nat)) : Int) = (2 : Int) from rfl] at hsl
      generalize s.extract 0 2 = X at hsl hXl
      clear hd0 hd1 hL hX b92 e92 h1 hc
      generalize hrest : s.data.toList.drop 2 = rest at hr
      have HREST := hid' hrest
      clear hrest
      by_cases c110 : c = 110
      · subst c110
        have HR : Hid (r = some (10, 2)) := hid' (by rw [← hr]; simp)
        have hXX : X = ⟨#[92, 110]⟩ := ByteArray.ext (Array.toList_inj.1 (by rw [← ByteArray.toList_eq]; exact hXl))
        subst hXX
        clear hXl hr
        go_enter Tryz.func157, Tryz.ntmps157
        go_wp2
        go_ret2
        exact ⟨ret_v (by rw [HR.out]; rfl), rfl⟩
      · have n110 : (X.toList == [92, 110]) = false := by rw [hXl]; simpa using c110
        by_cases c116 : c = 116
        · subst c116
          have HR : Hid (r = some (9, 2)) := hid' (by rw [← hr]; simp)
          have hXX : X = ⟨#[92, 116]⟩ := ByteArray.ext (Array.toList_inj.1 (by rw [← ByteArray.toList_eq]; exact hXl))
          subst hXX
          clear hXl hr n110
          go_enter Tryz.func157, Tryz.ntmps157
          go_wp2
          go_ret2
          exact ⟨ret_v (by rw [HR.out]; rfl), rfl⟩
        · have n116 : (X.toList == [92, 116]) = false := by rw [hXl]; simpa using c116
          by_cases c92 : c = 92
          · subst c92
            have HR : Hid (r = some (92, 2)) := hid' (by rw [← hr]; simp)
            have hXX : X = ⟨#[92, 92]⟩ := ByteArray.ext (Array.toList_inj.1 (by rw [← ByteArray.toList_eq]; exact hXl))
            subst hXX
            clear hXl hr n110 n116
            go_enter Tryz.func157, Tryz.ntmps157
            go_wp2
            go_ret2
            exact ⟨ret_v (by rw [HR.out]; rfl), rfl⟩
          · have n92 : (X.toList == [92, 92]) = false := by rw [hXl]; simpa using c92
            by_cases c34 : c = 34
            · subst c34
              have HR : Hid (r = some (34, 2)) := hid' (by rw [← hr]; simp)
              have hXX : X = ⟨#[92, 34]⟩ := ByteArray.ext (Array.toList_inj.1 (by rw [← ByteArray.toList_eq]; exact hXl))
              subst hXX
              clear hXl hr n110 n116 n92
              go_enter Tryz.func157, Tryz.ntmps157
              go_wp2
              go_ret2
              exact ⟨ret_v (by rw [HR.out]; rfl), rfl⟩
            · have n34 : (X.toList == [92, 34]) = false := by rw [hXl]; simpa using c34
              by_cases c39 : c = 39
              · subst c39
                have HR : Hid (r = some (39, 2)) := hid' (by rw [← hr]; simp)
                have hXX : X = ⟨#[92, 39]⟩ := ByteArray.ext (Array.toList_inj.1 (by rw [← ByteArray.toList_eq]; exact hXl))
                subst hXX
                clear hXl hr n110 n116 n92 n34
                go_enter Tryz.func157, Tryz.ntmps157
                go_wp2
                go_ret2
                exact ⟨ret_v (by rw [HR.out]; rfl), rfl⟩
              · have n39 : (X.toList == [92, 39]) = false := by rw [hXl]; simpa using c39
                by_cases c120 : c = 120
                · subst c120
                  have HR : Hid (r = hexF rest) := hid' (by rw [← hr]; simp)
                  have hXX : X = ⟨#[92, 120]⟩ := ByteArray.ext (Array.toList_inj.1 (by rw [← ByteArray.toList_eq]; exact hXl))
                  subst hXX
                  have HH := hid' (hexPiece_any s hs)
                  rw [HREST.out, ← HR.out] at HH
                  clear hXl hr n110 n116 n92 n34 n39
                  cases r with
                  | none =>
                    unfold pieceV at HH ⊢
                    go_enter Tryz.func157, Tryz.ntmps157
                    go_wp2_with fail
                    refine (HH.out _).mono ?_
                    rintro e w1 ⟨rfl, rfl⟩
                    go_wp2
                    go_ret2
                    exact ⟨rfl, rfl⟩
                  | some cn =>
                    obtain ⟨c1, n1⟩ := cn
                    unfold pieceV at HH ⊢
                    go_enter Tryz.func157, Tryz.ntmps157
                    go_wp2_with fail
                    refine (HH.out _).mono ?_
                    rintro e w1 ⟨rfl, rfl⟩
                    go_wp2
                    go_ret2
                    exact ⟨rfl, rfl⟩
                · have n120 : (X.toList == [92, 120]) = false := by rw [hXl]; simpa using c120
                  have HR : Hid (r = none) := hid' (by rw [← hr]; simp [c110, c116, c92, c34, c39, c120])
                  clear hXl hr c110 c116 c92 c34 c39 c120
                  go_enter Tryz.func157, Tryz.ntmps157
                  go_wp2
                  go_ret2
                  exact ⟨ret_v (by rw [HR.out]; rfl), rfl⟩
  · obtain ⟨b, hb⟩ : ∃ b, s[0] = b := ⟨_, rfl⟩
    have hidx0 : ∀ W, (Instr.index 9 (.string s) (.int .i64 0)).run Tryz.prog W = .ok (.int .u8 (b.toNat : Int)) W := fun W => by
      rw [← hb]
      go_simp
    rw [hb] at e92 hd0 b92
    have n92 : ((b.toNat : Int) != 92) = true := by
      rw [bne, ← b92]
      simpa using e92
    rw [hd0, pieceF_plain b _ e92] at hr
    have HT := hid' (isTextByte_tells b)
    cases ht : tb b with
    | true =>
      rw [ht] at hr HT
      have HR : Hid (r = some (b, 1)) := hid' (by rw [← hr]; rfl)
      clear hd0 hr b92 e92 hb ht
      go_enter Tryz.func157, Tryz.ntmps157
      go_wp2_with fail
      refine (HT.out _).mono ?_
      rintro e w1 ⟨rfl, rfl⟩
      go_wp2
      go_ret2
      exact ⟨ret_v (by rw [HR.out]; rfl), rfl⟩
    | false =>
      rw [ht] at hr HT
      have HR : Hid (r = none) := hid' (by rw [← hr]; rfl)
      clear hd0 hr b92 e92 hb ht
      go_enter Tryz.func157, Tryz.ntmps157
      go_wp2_with fail
      refine (HT.out _).mono ?_
      rintro e w1 ⟨rfl, rfl⟩
      go_wp2
      go_ret2
      exact ⟨ret_v (by rw [HR.out]; rfl), rfl⟩
end Go.Proofs.YtaafhldcdkbnkaaGreatDoor
