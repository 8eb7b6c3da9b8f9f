/- Parts of the proof, together. What closed, hexDigit, hexPiece and pieceOf answer. Conditions: short texts. -/
import Derived.Test.YtaafhldcdkbnkaaGreatDoorQpar
namespace Go.Proofs.YtaafhldcdkbnkaaGreatDoor
open Go.RowKit
open Lx

/-- What closed answers. -/
def closedV : Option Nat → Value
  | none => .tuple #[.int .i64 0, .bool false]
  | some n => .tuple #[.int .i64 (n : Int), .bool true]
theorem closedF_at (q : UInt8) (held : Bool) (s : ByteArray) (k : Nat) (h : k < s.size) : closedF q held (s.data.toList.drop k) = if s[k] == 10 then none else if held then (closedF q false (s.data.toList.drop (k + 1))).map (· + 1) else if s[k] == 92 then (closedF q true (s.data.toList.drop (k + 1))).map (· + 1) else if s[k] == q then some 0 else (closedF q false (s.data.toList.drop (k + 1))).map (· + 1) := by
  rw [drop_at s k h]; cases held <;> rfl
theorem map_add_succ (o : Option Nat) (k : Nat) : (o.map (· + 1)).map (· + k) = o.map (· + (k + 1)) := by
  cases o with
  | none => rfl
  | some n => simp; omega
theorem ret_v {a b : Value} (h : a = b) : Ending.returned a = .returned b := by rw [h]
set_option maxRecDepth 10000 in
set_option maxHeartbeats 1600000 in
theorem closed_any (s : ByteArray) (hs : s.size ≤ 1000000) (q : UInt8) (w : World) :
    Calls Tryz.prog 141 #[.string s, .int .u8 (q.toNat : Int)] w fun e w' => e = .returned (closedV (closedF q false s.data.toList)) ∧ w' = w := by
  obtain ⟨r, hr⟩ : ∃ r, closedF q false s.data.toList = r := ⟨_, rfl⟩
  rw [hr]
  have HR := hid' hr
  clear hr
  go_enter Tryz.func141, Tryz.ntmps141
  go_wp2
  go_loop [6, 11] (fun hd i => ∃ (k : Nat) (held : Bool), k ≤ s.size ∧ hd = .bool held ∧ i = .int .i64 k ∧ Hid (r = (closedF q held (s.data.toList.drop k)).map (· + k))) (fun _ i => s.size - (intOf i).toNat)
  case atStart => exact ⟨0, false, Nat.zero_le _, rfl, rfl, hid' (by rw [← HR.out]; simp)⟩
  case round =>
    obtain ⟨k, held, hk, rfl, rfl, hrest⟩ := hrel
    by_cases hlt : k < s.size
    · have hat := closedF_at q held s k hlt
      have b10 := byte_eq s[k] 10
      have b92 := byte_eq s[k] 92
      have bq := byte_eq s[k] q
      rw [show (((10 : UInt8).toNat : Nat) : Int) = 10 from rfl] at b10
      rw [show (((92 : UInt8).toNat : Nat) : Int) = 92 from rfl] at b92
      rw [b10, b92, bq] at hat
      clear b10 b92 bq
      have hlt' : (k : Int) < (s.size : Int) := by omega
      cases e10 : ((s[k].toNat : Int) == 10) with
      | true =>
        have hend : Hid (r = none) := hid' (by rw [hrest.out, hat, e10]; rfl)
        clear hrest hat
        go_wp2
        go_ret2
        exact ⟨ret_v (by rw [hend.out]; rfl), rfl⟩
      | false =>
        rw [e10] at hat
        cases held with
        | true =>
          have hrest' : Hid (r = (closedF q false (s.data.toList.drop (k + 1))).map (· + (k + 1))) := hid' (by rw [hrest.out, hat]; exact map_add_succ _ k)
          clear hrest hat
          go_wp2
          go_round
          case rel => exact ⟨k + 1, false, by omega, rfl, by go_num, hrest'⟩
          case measure => simp [intOf]; omega
        | false =>
          cases e92 : ((s[k].toNat : Int) == 92) with
          | true =>
            rw [e92] at hat
            have hrest' : Hid (r = (closedF q true (s.data.toList.drop (k + 1))).map (· + (k + 1))) := hid' (by rw [hrest.out, hat]; exact map_add_succ _ k)
            clear hrest hat
            go_wp2
            go_round
            case rel => exact ⟨k + 1, true, by omega, rfl, by go_num, hrest'⟩
            case measure => simp [intOf]; omega
          | false =>
            rw [e92] at hat
            cases eq : ((s[k].toNat : Int) == (q.toNat : Int)) with
            | true =>
              rw [eq] at hat
              have hend : Hid (r = some k) := hid' (by rw [hrest.out, hat]; simp)
              clear hrest hat
              go_wp2
              go_ret2
              exact ⟨ret_v (by rw [hend.out]; rfl), rfl⟩
            | false =>
              rw [eq] at hat
              have hrest' : Hid (r = (closedF q false (s.data.toList.drop (k + 1))).map (· + (k + 1))) := hid' (by rw [hrest.out, hat]; exact map_add_succ _ k)
              clear hrest hat
              go_wp2
              go_round
              case rel => exact ⟨k + 1, false, by omega, rfl, by go_num, hrest'⟩
              case measure => simp [intOf]; omega
    · obtain rfl : k = s.size := by omega
      have hend : Hid (r = none) := hid' (by
        rw [hrest.out, List.drop_eq_nil_of_le (by simp)]
        cases held <;> rfl)
      clear hrest
      go_wp2
      go_ret2
      exact ⟨ret_v (by rw [hend.out]; rfl), rfl⟩
end Go.Proofs.YtaafhldcdkbnkaaGreatDoor
