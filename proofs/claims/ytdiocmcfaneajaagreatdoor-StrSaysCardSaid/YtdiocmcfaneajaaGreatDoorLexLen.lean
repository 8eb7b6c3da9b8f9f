/- How many bytes of a text are of a sort; whether a text is a word. Conditions: short texts; the words lie in their variable. -/
import Derived.Test.YtdiocmcfaneajaaGreatDoorLexB
import Derived.Laws.IdiomStrings
import Derived.Laws.Rows
namespace Go.Proofs.YtdiocmcfaneajaaGreatDoor
open Go.RowKit
open Lx

def fv (f : FuncId) : Value := .func (.func f) #[] #[]
theorem ret_i {k : IntKind} {a b : Int} (h : a = b) : Ending.returned (.int k a) = .returned (.int k b) := by rw [h]
/-- The text from place k on, as a list. -/
theorem drop_at (s : ByteArray) (k : Nat) (h : k < s.size) : s.data.toList.drop k = s[k] :: s.data.toList.drop (k + 1) := by
  rw [List.drop_eq_getElem_cons (by simpa using h)]
  rfl
theorem lenF_at (p : UInt8 → Bool) (s : ByteArray) (k : Nat) (h : k < s.size) : lenF p (s.data.toList.drop k) = if p s[k] then lenF p (s.data.toList.drop (k + 1)) + 1 else 0 := by
  rw [drop_at s k h]; rfl
set_option maxRecDepth 10000 in
set_option maxHeartbeats 400000 in
theorem length_dg (s : ByteArray) (hs : s.size ≤ 1000000) (w : World) :
    Calls Tryz.prog 99 #[.string s, fv 98] w fun e w' => e = .returned (.int .i64 (lenF dg s.data.toList : Int)) ∧ w' = w := by
  have HF := hid' isDigit_tells
  obtain ⟨r, hr⟩ : ∃ r, lenF dg s.data.toList = r := ⟨_, rfl⟩
  rw [hr]
  have HR := hid' hr
  clear hr
  unfold fv
  go_enter Tryz.func99, Tryz.ntmps99
  go_wp2
  go_loop [8] (fun i => ∃ k : Nat, k ≤ s.size ∧ i = .int .i64 k ∧ Hid (r = k + lenF dg (s.data.toList.drop k))) (fun i => s.size - (intOf i).toNat)
  case atStart => exact ⟨0, Nat.zero_le _, rfl, hid' (by rw [← HR.out]; simp)⟩
  case round =>
    obtain ⟨k, hk, rfl, hrest⟩ := hrel
    by_cases hlt : k < s.size
    · have HC := hid' (fun W => HF.out s[k] W)
      have hat := lenF_at dg s k hlt
      cases hp : dg s[k] with
      | true =>
        rw [hp] at HC hat
        have hrest' : Hid (r = (k + 1 : Nat) + lenF dg (s.data.toList.drop (k + 1))) := hid' (by have := hrest.out; rw [hat] at this; simp at this; omega)
        clear hrest hat hp
        go_wp2_with fail
        refine (HC.out _).mono ?_
        rintro e w1 ⟨rfl, rfl⟩
        go_wp2
        go_round
        case rel => exact ⟨k + 1, by omega, by go_num, hrest'⟩
        case measure => simp [intOf]; omega
      | false =>
        rw [hp] at HC hat
        have hend : Hid (r = k) := hid' (by have := hrest.out; rw [hat] at this; simpa using this)
        clear hrest hat hp
        go_wp2_with fail
        refine (HC.out _).mono ?_
        rintro e w1 ⟨rfl, rfl⟩
        go_wp2
        go_ret
        exact ⟨ret_i (by rw [hend.out]), rfl⟩
    · obtain rfl : k = s.size := by omega
      have hend : Hid (r = s.size) := hid' (by
        have := hrest.out
        rw [List.drop_eq_nil_of_le (by simp)] at this
        simpa [lenF] using this)
      go_wp2
      go_ret
      exact ⟨ret_i (by rw [hend.out]), rfl⟩
set_option maxRecDepth 10000 in
set_option maxHeartbeats 400000 in
theorem length_lt (s : ByteArray) (hs : s.size ≤ 1000000) (w : World) :
    Calls Tryz.prog 99 #[.string s, fv 109] w fun e w' => e = .returned (.int .i64 (lenF lt s.data.toList : Int)) ∧ w' = w := by
  have HF := hid' isLetter_tells
  obtain ⟨r, hr⟩ : ∃ r, lenF lt s.data.toList = r := ⟨_, rfl⟩
  rw [hr]
  have HR := hid' hr
  clear hr
  unfold fv
  go_enter Tryz.func99, Tryz.ntmps99
  go_wp2
  go_loop [8] (fun i => ∃ k : Nat, k ≤ s.size ∧ i = .int .i64 k ∧ Hid (r = k + lenF lt (s.data.toList.drop k))) (fun i => s.size - (intOf i).toNat)
  case atStart => exact ⟨0, Nat.zero_le _, rfl, hid' (by rw [← HR.out]; simp)⟩
  case round =>
    obtain ⟨k, hk, rfl, hrest⟩ := hrel
    by_cases hlt : k < s.size
    · have HC := hid' (fun W => HF.out s[k] W)
      have hat := lenF_at lt s k hlt
      cases hp : lt s[k] with
      | true =>
        rw [hp] at HC hat
        have hrest' : Hid (r = (k + 1 : Nat) + lenF lt (s.data.toList.drop (k + 1))) := hid' (by have := hrest.out; rw [hat] at this; simp at this; omega)
        clear hrest hat hp
        go_wp2_with fail
        refine (HC.out _).mono ?_
        rintro e w1 ⟨rfl, rfl⟩
        go_wp2
        go_round
        case rel => exact ⟨k + 1, by omega, by go_num, hrest'⟩
        case measure => simp [intOf]; omega
      | false =>
        rw [hp] at HC hat
        have hend : Hid (r = k) := hid' (by have := hrest.out; rw [hat] at this; simpa using this)
        clear hrest hat hp
        go_wp2_with fail
        refine (HC.out _).mono ?_
        rintro e w1 ⟨rfl, rfl⟩
        go_wp2
        go_ret
        exact ⟨ret_i (by rw [hend.out]), rfl⟩
    · obtain rfl : k = s.size := by omega
      have hend : Hid (r = s.size) := hid' (by
        have := hrest.out
        rw [List.drop_eq_nil_of_le (by simp)] at this
        simpa [lenF] using this)
      go_wp2
      go_ret
      exact ⟨ret_i (by rw [hend.out]), rfl⟩
set_option maxRecDepth 10000 in
set_option maxHeartbeats 400000 in
theorem length_nb (s : ByteArray) (hs : s.size ≤ 1000000) (w : World) :
    Calls Tryz.prog 99 #[.string s, fv 100] w fun e w' => e = .returned (.int .i64 (lenF nb s.data.toList : Int)) ∧ w' = w := by
  have HF := hid' isNameByte_tells
  obtain ⟨r, hr⟩ : ∃ r, lenF nb s.data.toList = r := ⟨_, rfl⟩
  rw [hr]
  have HR := hid' hr
  clear hr
  unfold fv
  go_enter Tryz.func99, Tryz.ntmps99
  go_wp2
  go_loop [8] (fun i => ∃ k : Nat, k ≤ s.size ∧ i = .int .i64 k ∧ Hid (r = k + lenF nb (s.data.toList.drop k))) (fun i => s.size - (intOf i).toNat)
  case atStart => exact ⟨0, Nat.zero_le _, rfl, hid' (by rw [← HR.out]; simp)⟩
  case round =>
    obtain ⟨k, hk, rfl, hrest⟩ := hrel
    by_cases hlt : k < s.size
    · have HC := hid' (fun W => HF.out s[k] W)
      have hat := lenF_at nb s k hlt
      cases hp : nb s[k] with
      | true =>
        rw [hp] at HC hat
        have hrest' : Hid (r = (k + 1 : Nat) + lenF nb (s.data.toList.drop (k + 1))) := hid' (by have := hrest.out; rw [hat] at this; simp at this; omega)
        clear hrest hat hp
        go_wp2_with fail
        refine (HC.out _).mono ?_
        rintro e w1 ⟨rfl, rfl⟩
        go_wp2
        go_round
        case rel => exact ⟨k + 1, by omega, by go_num, hrest'⟩
        case measure => simp [intOf]; omega
      | false =>
        rw [hp] at HC hat
        have hend : Hid (r = k) := hid' (by have := hrest.out; rw [hat] at this; simpa using this)
        clear hrest hat hp
        go_wp2_with fail
        refine (HC.out _).mono ?_
        rintro e w1 ⟨rfl, rfl⟩
        go_wp2
        go_ret
        exact ⟨ret_i (by rw [hend.out]), rfl⟩
    · obtain rfl : k = s.size := by omega
      have hend : Hid (r = s.size) := hid' (by
        have := hrest.out
        rw [List.drop_eq_nil_of_le (by simp)] at this
        simpa [lenF] using this)
      go_wp2
      go_ret
      exact ⟨ret_i (by rw [hend.out]), rfl⟩
def txt (l : List UInt8) : ByteArray := ⟨l.toArray⟩
def wordsV : Array Value := (words.map fun l => Value.string (txt l)).toArray
end Go.Proofs.YtdiocmcfaneajaaGreatDoor
