/- What smithyref.AmongTexts answers. Conditions: fewer than 2^31 texts. -/
import Derived.Test.YtjobpcbnolgmnaaDoorTxt
import Derived.Laws.IdiomStrings
namespace Go.Proofs.YtjobpcbnolgmnaaDoor
open Go.RowKit

def amI (xs : List ByteArray) (s : ByteArray) : Int := match xs.findIdx? (fun x => x.data.toList == s.data.toList) with
  | some i => i
  | none => -1
theorem ba_inj {x s : ByteArray} (h : x.data.toList = s.data.toList) : x = s := by
  apply ByteArray.ext
  exact Array.toList_inj.1 h
theorem amI_out {xs : List ByteArray} {s : ByteArray} (h : s ∉ xs) : amI xs s = -1 := by
  unfold amI
  rw [List.findIdx?_eq_none_iff.2 fun x hx => by
    rw [beq_eq_false_iff_ne]
    exact fun e => h (ba_inj e ▸ hx)]
theorem amI_in {xs : List ByteArray} {s : ByteArray} (h : s ∈ xs) : 0 ≤ amI xs s := by
  unfold amI
  cases e : xs.findIdx? (fun x => x.data.toList == s.data.toList) with
  | some i => simp
  | none =>
    have := List.findIdx?_eq_none_iff.1 e s h
    simp at this
theorem amI_at {xs : List ByteArray} {s : ByteArray} {k : Nat} (h : k < xs.length) (hs : xs[k] = s) (hno : ∀ j (hj : j < xs.length), j < k → xs[j] ≠ s) : amI xs s = k := by
  have e : xs.findIdx? (fun x => x.data.toList == s.data.toList) = some k := by
    rw [List.findIdx?_eq_some_iff_getElem]
    refine ⟨h, by rw [hs]; simp, fun j hj => ?_⟩
    have := hno j (by omega) hj
    rw [beq_iff_eq]
    exact fun e => this (ba_inj e)
  unfold amI
  rw [e]
theorem ne_texts {x s : ByteArray} (h : ¬ x = s) : (x.toList == s.toList) = false := by
  rw [beq_eq_false_iff_ne, ByteArray.toList_eq, ByteArray.toList_eq]
  exact fun e => h (ba_inj e)
theorem ret_int' {k : IntKind} {a b : Int} (h : a = b) : Ending.returned (.int k a) = .returned (.int k b) := by rw [h]
set_option maxHeartbeats 400000 in
theorem among_any (ao : Option Addr) (c : Nat) (xs : List ByteArray) (s : ByteArray) (w : World) (hn : xs.length < 2147483648) (hL : Txs w ao xs) :
    Calls Tryd.prog 31 #[.slice ao xs.length c, .string s] w fun e w' => e = .returned (.int .i64 (amI xs s)) ∧ w' = w := by
  have HL := hid' hL
  clear hL
  go_enter Tryd.func31, Tryd.ntmps31
  go_wp2
  go_loop [5] (fun i => ∃ k : Nat, k ≤ xs.length ∧ i = .int .i64 k ∧ Hid (∀ j (hj : j < xs.length), j < k → xs[j] ≠ s)) (fun i => xs.length - (intOf i).toNat)
  case atStart => exact ⟨0, Nat.zero_le _, rfl, hid' fun _ _ h => absurd h (by omega)⟩
  case round =>
    obtain ⟨k, hk, rfl, hno⟩ := hrel
    by_cases hlt : k < xs.length
    · rcases HL.out with h0 | ⟨bk, o, rfl, h2, h4⟩
      · rw [h0] at hlt; exact absurd hlt (by simp)
      · have hcell : w.cell? ⟨bk, o + k, none⟩ = some (.string xs[k]) := h4 k _ (List.getElem?_eq_getElem hlt)
        clear h4
        by_cases he : xs[k] = s
        · have HA := hid' (amI_at hlt he hno.out)
          rw [he] at hcell
          clear he
          go_wp2
          go_ret
          exact ⟨ret_int' HA.out.symm, rfl⟩
        · have hno' : Hid (∀ j (hj : j < xs.length), j < k + 1 → xs[j] ≠ s) := hid' fun j hj hjk => by
            by_cases e : j = k
            · subst e; exact he
            · exact hno.out j hj (by omega)
          have he' := ne_texts he
          clear hno he
          go_wp2
          go_round
          case rel => exact ⟨k + 1, by omega, by go_num, hno'⟩
          case measure => simp [intOf]; omega
    · obtain rfl : k = xs.length := by omega
      have HA := hid' (amI_out (xs := xs) (s := s) fun hm => by
        obtain ⟨j, hj, e⟩ := List.getElem_of_mem hm
        exact hno.out j hj hj e)
      go_wp2
      go_ret
      exact ⟨ret_int' HA.out.symm, rfl⟩
end Go.Proofs.YtjobpcbnolgmnaaDoor
