/- What bytes.LastIndexByte answers of a slice of bytes at the head of its block. Conditions: fewer than 2^62 bytes; each is known. -/
import Derived.Test.YteokigpeaggemaaDoorPartA
namespace Go.Proofs.YteokigpeaggemaaDoor
open Go.RowKit

/-- The block's first cells are these bytes. -/
def Bytes (W : World) (g : Nat) (l : List UInt8) : Prop := ∀ (j : Nat) (h : j < l.length), W.cell? ⟨g, j, none⟩ = some (.int .u8 (l[j].toNat : Int))
theorem ret_int {a b : Int} (h : a = b) : Ending.returned (.int .i64 a) = .returned (.int .i64 b) := by rw [h]
theorem last_at (l : List UInt8) (k : Nat) (h : k < l.length) : ((⟨l.toArray⟩ : ByteArray).data[k]!).toNat = l[k].toNat := by
  simp [h]

set_option maxHeartbeats 400000 in
theorem lastByte_any (l : List UInt8) (c : Int) (g cap : Nat) (w : World) (hn : l.length < 4611686018427387904) (hB : Bytes w g l) :
    Calls Tryd.prog 59 #[.slice (some ⟨g, 0, none⟩) l.length cap, .int .u8 c] w fun e w' => e = .returned (.int .i64 (Lib.lastIdx ⟨l.toArray⟩ c l.length)) ∧ w = w' := by
  go_enter Tryd.func59, Tryd.ntmps59
  go_wp2
  go_loop [5] (fun i => ∃ k : Nat, k ≤ l.length ∧ i = .int .i64 ((k : Int) - 1) ∧ Hid (Lib.lastIdx ⟨l.toArray⟩ c l.length = Lib.lastIdx ⟨l.toArray⟩ c k)) (fun i => (intOf i + 1).toNat)
  case atStart => exact ⟨l.length, Nat.le_refl _, rfl, Lib.hid rfl⟩
  case round =>
    obtain ⟨k, hk, rfl, hrest⟩ := hrel
    cases k with
    | zero =>
      go_wp2
      go_ret
      exact ⟨ret_int (by rw [hrest.out]; rfl), rfl⟩
    | succ k =>
      have hcell := hB k (by omega)
      have e : ((k + 1 : Nat) : Int) - 1 = (k : Int) := by omega
      rw [e]
      clear e
      by_cases hc : (l[k].toNat : Int) = c
      · have Hc : Hid (Lib.lastIdx ⟨l.toArray⟩ c (k + 1) = k) := Lib.hid (Lib.lastIdx_hit _ _ _ (by rw [last_at l k (by omega)]; exact hc))
        go_wp2
        go_ret
        exact ⟨ret_int (by rw [hrest.out, Hc.out]), rfl⟩
      · have Hc : Hid (Lib.lastIdx ⟨l.toArray⟩ c (k + 1) = Lib.lastIdx ⟨l.toArray⟩ c k) := Lib.hid (Lib.lastIdx_miss _ _ _ (by rw [last_at l k (by omega)]; exact hc))
        go_wp2
        go_round
        case rel => exact ⟨k, by omega, rfl, Lib.hid (by rw [hrest.out, Hc.out])⟩
        case measure => simp [intOf]

set_option maxHeartbeats 400000 in
theorem LastIndexByte_any (l : List UInt8) (c : Int) (g cap : Nat) (w : World) (hn : l.length < 4611686018427387904) (hB : Bytes w g l) :
    Calls Tryd.prog 35 #[.slice (some ⟨g, 0, none⟩) l.length cap, .int .u8 c] w fun e w' => e = .returned (.int .i64 (Lib.lastIndexByte ⟨l.toArray⟩ c)) ∧ w = w' := by
  go_enter Tryd.func35, Tryd.ntmps35
  go_wp2_with (go_at_call 59; refine (lastByte_any _ _ _ _ _ hn hB).mono ?_; rintro e w' ⟨rfl, rfl⟩)
  go_ret
  exact ⟨ret_int (by simp [Lib.lastIndexByte, ByteArray.size]), rfl⟩

end Go.Proofs.YteokigpeaggemaaDoor
