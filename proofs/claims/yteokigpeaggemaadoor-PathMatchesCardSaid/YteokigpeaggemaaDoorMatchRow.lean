/- What path.matchRow answers, whatever the two functions that it is handed, where these answer as two plain functions do and turn nothing that lay there before. Conditions: two rows of fewer than 2^62 things. -/
import Derived.Test.YteokigpeaggemaaDoorPartB
import Derived.Test.YteokigpeaggemaaDoorRow
import Derived.Deep.LoopGhost
namespace Go.Proofs.YteokigpeaggemaaDoor
open Go.RowKit

/-- A function value answers this bool and turns nothing below n₀. -/
def saysB (n₀ : Nat) (W : World) (x : Bool) (e : Ending) (w' : World) : Prop := e = .returned (.bool x) ∧ Below n₀ W w'
def Stars (P : Program) (fs : Nat) (pa : Addr) (n₀ n : Nat) (st : Nat → Bool) (w : World) : Prop :=
  ∀ W, Below n₀ w W → ∀ i : Nat, i < n → Calls P fs #[.int .i64 (i : Int), .pointer (some pa)] W (saysB n₀ W (st i))
def Fits (P : Program) (ff : Nat) (pa pb : Addr) (n₀ n m : Nat) (ft : Nat → Nat → Bool) (w : World) : Prop :=
  ∀ W, Below n₀ w W → ∀ i j : Nat, i < n → j < m → Calls P ff #[.int .i64 (i : Int), .int .i64 (j : Int), .pointer (some pa), .pointer (some pb)] W (saysB n₀ W (ft i j))
/-- What holds of matchRow's variables. -/
def rowRel (n m : Nat) (st : Nat → Bool) (ft : Nat → Nat → Bool) (n₀ : Nat) (w : World) (vi vj vb vt : Value) (wr : World) : Prop :=
  ∃ (i j t : Nat) (b : Int), vi = .int .i64 i ∧ vj = .int .i64 j ∧ vb = .int .i64 b ∧ vt = .int .i64 t ∧ Row.Inv n m st ft i j b t ∧ Below n₀ w wr

set_option maxHeartbeats 1000000 in
theorem matchRow_any (fs ff : Nat) (es : ∀ args w, (callFunc fs args).run Tryd.prog w = .ok (.enter fs args) w) (ef : ∀ args w, (callFunc ff args).run Tryd.prog w = .ok (.enter ff args) w)
    (pa pb : Addr) (n₀ n m : Nat) (st : Nat → Bool) (ft : Nat → Nat → Bool) (w : World) (hn : n < 4611686018427387904) (hm : m < 4611686018427387904)
    (hS : Stars Tryd.prog fs pa n₀ n st w) (hF : Fits Tryd.prog ff pa pb n₀ n m ft w) :
    Calls Tryd.prog 73 #[.int .i64 (n : Int), .int .i64 (m : Int), .func (.func fs) #[] #[.pointer (some pa)], .func (.func ff) #[] #[.pointer (some pa), .pointer (some pb)]] w
      (saysB n₀ w (Row.rowB n m st ft)) := by
  go_enter Tryd.func73, Tryd.ntmps73
  go_wp2
  go_loopw [9, 10, 11, 12] (rowRel n m st ft n₀ w) (fun vi _ _ vt _ => Row.left n m (intOf vi).toNat (intOf vt).toNat)
  case atStart => exact ⟨0, 0, 0, -1, rfl, rfl, rfl, rfl, Row.Inv.start, Below.refl _ _⟩
  case round =>
    obtain ⟨i, j, t, b, rfl, rfl, rfl, rfl, inv, hb⟩ := hrel
    have hi := inv.hi
    have hj := inv.hj
    have ht := inv.ht
    by_cases hjm : j < m
    · by_cases hin : i < n
      · cases hs : st i
        · cases hf : ft i j
          · have Hno : Hid (i < n → st i = false ∧ ft i j = false) := Lib.hid fun _ => ⟨hs, hf⟩
            rcases inv.hb with hbb | ⟨c, hbc, hcc⟩
            · subst hbb
              go_wp2_with (first | (go_at_fn fs; refine (hS _ hb i hin).mono ?_; rintro e w1 ⟨rfl, hb1⟩; have hb2 := hb.trans hb1) | (go_at_fn ff; refine (hF _ (by assumption) i j hin hjm).mono ?_; rintro e w1 ⟨rfl, hb1⟩; have hb2 := Below.trans (by assumption) hb1))
              go_ret
              exact ⟨ret_bool (Row.rowB_false (inv.stop hjm Hno.out)).symm, by assumption⟩
            · subst hbc
              clear hcc
              go_wp2_with (first | (go_at_fn fs; refine (hS _ hb i hin).mono ?_; rintro e w1 ⟨rfl, hb1⟩; have hb2 := hb.trans hb1) | (go_at_fn ff; refine (hF _ (by assumption) i j hin hjm).mono ?_; rintro e w1 ⟨rfl, hb1⟩; have hb2 := Below.trans (by assumption) hb1))
              go_roundw
              case rel => exact ⟨c, t + 1, t + 1, c, rfl, by go_num, rfl, by go_num, inv.of_back hjm Hno.out, by assumption⟩
              case measure => simp [intOf]; exact Row.left_back (by omega)
          · have Hinv : Hid (Row.Inv n m st ft (i + 1) (j + 1) b t) := inv.of_one hin hjm hs hf
            go_wp2_with (first | (go_at_fn fs; refine (hS _ hb i hin).mono ?_; rintro e w1 ⟨rfl, hb1⟩; have hb2 := hb.trans hb1) | (go_at_fn ff; refine (hF _ (by assumption) i j hin hjm).mono ?_; rintro e w1 ⟨rfl, hb1⟩; have hb2 := Below.trans (by assumption) hb1))
            go_roundw
            case rel => exact ⟨i + 1, j + 1, t, b, by go_num, by go_num, rfl, rfl, Hinv.out, by assumption⟩
            case measure => simp [intOf]; exact Row.left_up hin (Nat.le_refl _)
        · have Hinv : Hid (Row.Inv n m st ft (i + 1) j ((i + 1 : Nat) : Int) j) := inv.of_star hin hs
          go_wp2_with (first | (go_at_fn fs; refine (hS _ hb i hin).mono ?_; rintro e w1 ⟨rfl, hb1⟩; have hb2 := hb.trans hb1) | (go_at_fn ff; refine (hF _ (by assumption) i j hin hjm).mono ?_; rintro e w1 ⟨rfl, hb1⟩; have hb2 := Below.trans (by assumption) hb1))
          go_roundw
          case rel => exact ⟨i + 1, j, j, ((i + 1 : Nat) : Int), by go_num, rfl, by go_num, rfl, Hinv.out, by assumption⟩
          case measure => simp [intOf]; exact Row.left_up hin ht
      · have Hno : Hid (i < n → st i = false ∧ ft i j = false) := Lib.hid fun h => absurd h hin
        rcases inv.hb with hbb | ⟨c, hbc, hcc⟩
        · subst hbb
          go_wp2
          go_ret
          exact ⟨ret_bool (Row.rowB_false (inv.stop hjm Hno.out)).symm, by assumption⟩
        · subst hbc
          clear hcc
          go_wp2
          go_roundw
          case rel => exact ⟨c, t + 1, t + 1, c, rfl, by go_num, rfl, by go_num, inv.of_back hjm Hno.out, by assumption⟩
          case measure => simp [intOf]; exact Row.left_back (by omega)
    · obtain rfl : j = m := by omega
      have hend := Lib.hid inv.ended
      have Hb := Lib.hid hb
      go_wp2
      obtain ⟨wo, rfl⟩ : ∃ wo : World, wo = wr := ⟨_, rfl⟩
      go_loopw [9] (fun vi w2 => ∃ x : Nat, vi = .int .i64 x ∧ x ≤ n ∧ (Hid (Row.Fit n j st ft 0 0 ↔ Row.Fit n j st ft x j)) ∧ Below n₀ w w2) (fun vi _ => n - (intOf vi).toNat)
      case atStart => exact ⟨i, rfl, hi, hend, Hb.out⟩
      case round =>
        obtain ⟨x, rfl, hx, hfit, hb3⟩ := hrel
        by_cases hxn : x < n
        · cases hs : st x
          · have Hs := Lib.hid hs
            go_wp2_with (go_at_fn fs; refine (hS _ hb3 x hxn).mono ?_; rintro e w1 ⟨rfl, hb1⟩; have hb4 := hb3.trans hb1)
            go_ret
            exact ⟨ret_bool (by rw [Row.rowB_false (fun h => Row.ended_stop hxn Hs.out (hfit.out.1 h))]; simp; omega), by assumption⟩
          · have Hs := Lib.hid hs
            go_wp2_with (go_at_fn fs; refine (hS _ hb3 x hxn).mono ?_; rintro e w1 ⟨rfl, hb1⟩; have hb4 := hb3.trans hb1)
            go_roundw
            case rel => exact ⟨x + 1, by go_num, by omega, Lib.hid (hfit.out.trans (Row.ended_star hxn Hs.out)), by assumption⟩
            case measure => simp [intOf]; omega
        · obtain rfl : x = n := by omega
          go_wp2
          go_ret
          exact ⟨ret_bool (by rw [Row.rowB_iff.2 (hfit.out.2 .done)]), by assumption⟩

end Go.Proofs.YteokigpeaggemaaDoor
