/- Parts of the proof, together. Of which sort a byte is, as the program tells. No conditions. How many bytes of a text are of a sort; whether a text is a word. Conditions: short texts; the words lie in their variable. Whether a text is a word, or a name. Conditions: short texts; the words lie in their variable. -/
import Derived.Laws.IdiomStrings
import Derived.Laws.Rows
import Derived.Deep.MidRow
import Derived.Test.YtpjjofdphlgeiaaGreatDoorVvae
import Derived.Test.YtpjjofdphlgeiaaGreatDoorVvaa
namespace Go.Proofs.YtpjjofdphlgeiaaGreatDoor
open Go.RowKit
open Lx

def bv (b : UInt8) : Value := .int .u8 (b.toNat : Int)
theorem sp_iff (b : UInt8) : sp b = decide ((b.toNat : Int) = 32) := by
  unfold sp; rw [Bool.eq_iff_iff]; simp [← UInt8.toNat_inj]; omega
theorem dg_iff (b : UInt8) : dg b = decide (48 ≤ (b.toNat : Int) ∧ (b.toNat : Int) ≤ 57) := by
  unfold dg; rw [Bool.eq_iff_iff]; simp [UInt8.le_iff_toNat_le]; omega
theorem lt_iff (b : UInt8) : lt b = decide ((65 ≤ (b.toNat : Int) ∧ (b.toNat : Int) ≤ 90) ∨ (97 ≤ (b.toNat : Int) ∧ (b.toNat : Int) ≤ 122) ∨ (b.toNat : Int) = 95) := by
  unfold lt; rw [Bool.eq_iff_iff]; simp [UInt8.le_iff_toNat_le, ← UInt8.toNat_inj]; omega
theorem tb_iff (b : UInt8) : tb b = decide (32 ≤ (b.toNat : Int) ∧ (b.toNat : Int) ≠ 127) := by
  unfold tb; rw [Bool.eq_iff_iff]; simp [UInt8.le_iff_toNat_le, ← UInt8.toNat_inj]; omega
theorem byte_lt (b : UInt8) : (b.toNat : Int) < 256 := by have := b.toNat_lt; omega
def Tells (P : FuncId) (p : UInt8 → Bool) : Prop := ∀ (b : UInt8) (w : World), Calls Tryz.prog P #[.int .u8 (b.toNat : Int)] w fun e w' => e = .returned (.bool (p b)) ∧ w' = w
theorem isSpace_tells : Tells 115 sp := fun b w => by
  have HR := hid' (sp_iff b)
  generalize sp b = r at HR ⊢
  generalize (b.toNat : Int) = n at HR ⊢
  go_enter Tryz.func115, Tryz.ntmps115
  go_wp2
  go_ret
  exact ⟨ret_bool' (by rw [HR.out]; first | rfl | exact (decide_eq_true (by omega)).symm | exact (decide_eq_false (by omega)).symm), rfl⟩
theorem isDigit_tells : Tells 82 dg := fun b w => by
  have HR := hid' (dg_iff b)
  generalize dg b = r at HR ⊢
  generalize (b.toNat : Int) = n at HR ⊢
  by_cases h1 : 48 ≤ n
  · by_cases h2 : n ≤ 57
    · go_enter Tryz.func82, Tryz.ntmps82
      go_wp2
      go_ret
      exact ⟨ret_bool' (by rw [HR.out]; first | rfl | exact (decide_eq_true (by omega)).symm | exact (decide_eq_false (by omega)).symm), rfl⟩
    · go_enter Tryz.func82, Tryz.ntmps82
      go_wp2
      go_ret
      exact ⟨ret_bool' (by rw [HR.out]; first | rfl | exact (decide_eq_true (by omega)).symm | exact (decide_eq_false (by omega)).symm), rfl⟩
  · have h1' : n < 48 := by omega
    go_enter Tryz.func82, Tryz.ntmps82
    go_wp2
    go_ret
    exact ⟨ret_bool' (by rw [HR.out]; first | rfl | exact (decide_eq_true (by omega)).symm | exact (decide_eq_false (by omega)).symm), rfl⟩
theorem isTextByte_tells : Tells 116 tb := fun b w => by
  have HR := hid' (tb_iff b)
  generalize tb b = r at HR ⊢
  generalize (b.toNat : Int) = n at HR ⊢
  by_cases h1 : 32 ≤ n
  · by_cases h2 : n = 127
    · subst h2
      go_enter Tryz.func116, Tryz.ntmps116
      go_wp2
      go_ret
      exact ⟨ret_bool' (by rw [HR.out]; first | rfl | exact (decide_eq_true (by omega)).symm | exact (decide_eq_false (by omega)).symm), rfl⟩
    · have h3 : (n != 127) = true := by simpa using h2
      have h4 : (n == 127) = false := by simpa using h2
      go_enter Tryz.func116, Tryz.ntmps116
      go_wp2
      go_ret
      exact ⟨ret_bool' (by rw [HR.out]; first | rfl | exact (decide_eq_true (by omega)).symm | exact (decide_eq_false (by omega)).symm), rfl⟩
  · have h1' : n < 32 := by omega
    go_enter Tryz.func116, Tryz.ntmps116
    go_wp2
    go_ret
    exact ⟨ret_bool' (by rw [HR.out]; first | rfl | exact (decide_eq_true (by omega)).symm | exact (decide_eq_false (by omega)).symm), rfl⟩
set_option maxHeartbeats 800000 in
theorem isLetter_tells : Tells 112 lt := fun b w => by
  have HR := hid' (lt_iff b)
  generalize lt b = r at HR ⊢
  generalize (b.toNat : Int) = n at HR ⊢
  have hcases : n < 65 ∨ (65 ≤ n ∧ n ≤ 90) ∨ (90 < n ∧ n < 97 ∧ n ≠ 95) ∨ n = 95 ∨ (97 ≤ n ∧ n ≤ 122) ∨ 122 < n := by omega
  rcases hcases with h | ⟨h, h2⟩ | ⟨h, h2, h3⟩ | rfl | ⟨h, h2⟩ | h
  · have h4 : (n == 95) = false := by rw [beq_eq_false_iff_ne]; omega
    have h5 : ¬ 65 ≤ n := by omega
    have h6 : ¬ 97 ≤ n := by omega
    have h7 : n ≠ 95 := by omega
    go_enter Tryz.func112, Tryz.ntmps112
    go_wp2
    go_ret
    exact ⟨ret_bool' (by rw [HR.out]; first | rfl | exact (decide_eq_true (by omega)).symm | exact (decide_eq_false (by omega)).symm), rfl⟩
  · go_enter Tryz.func112, Tryz.ntmps112
    go_wp2
    go_ret
    exact ⟨ret_bool' (by rw [HR.out]; first | rfl | exact (decide_eq_true (by omega)).symm | exact (decide_eq_false (by omega)).symm), rfl⟩
  · have h4 : (n == 95) = false := by rw [beq_eq_false_iff_ne]; omega
    have h5 : 65 ≤ n := by omega
    have h6 : ¬ 97 ≤ n := by omega
    have h7 : ¬ n ≤ 90 := by omega
    go_enter Tryz.func112, Tryz.ntmps112
    go_wp2
    go_ret
    exact ⟨ret_bool' (by rw [HR.out]; first | rfl | exact (decide_eq_true (by omega)).symm | exact (decide_eq_false (by omega)).symm), rfl⟩
  · go_enter Tryz.func112, Tryz.ntmps112
    go_wp2
    go_ret
    exact ⟨ret_bool' (by rw [HR.out]; first | rfl | exact (decide_eq_true (by omega)).symm | exact (decide_eq_false (by omega)).symm), rfl⟩
  · have h5 : 65 ≤ n := by omega
    have h7 : ¬ n ≤ 90 := by omega
    go_enter Tryz.func112, Tryz.ntmps112
    go_wp2
    go_ret
    exact ⟨ret_bool' (by rw [HR.out]; first | rfl | exact (decide_eq_true (by omega)).symm | exact (decide_eq_false (by omega)).symm), rfl⟩
  · have h4 : (n == 95) = false := by rw [beq_eq_false_iff_ne]; omega
    have h5 : 65 ≤ n := by omega
    have h6 : 97 ≤ n := by omega
    have h7 : ¬ n ≤ 90 := by omega
    have h8 : ¬ n ≤ 122 := by omega
    have h9 : n ≠ 95 := by omega
    go_enter Tryz.func112, Tryz.ntmps112
    go_wp2
    go_ret
    exact ⟨ret_bool' (by rw [HR.out]; first | rfl | exact (decide_eq_true (by omega)).symm | exact (decide_eq_false (by omega)).symm), rfl⟩
theorem isNameByte_tells : Tells 84 nb := fun b w => by
  have H1 := hid' (isLetter_tells b w)
  have H2 := hid' (isDigit_tells b w)
  unfold nb
  cases hl : lt b with
  | true =>
    rw [hl] at H1
    go_enter Tryz.func84, Tryz.ntmps84
    go_wp2_with (go_at_call 112; refine (H1.out).mono ?_; rintro e w1 ⟨rfl, rfl⟩)
    go_ret
    exact ⟨rfl, rfl⟩
  | false =>
    rw [hl] at H1
    go_enter Tryz.func84, Tryz.ntmps84
    go_wp2_with (first | (go_at_call 112; refine (H1.out).mono ?_; rintro e w1 ⟨rfl, rfl⟩) | (go_at_call 82; refine (H2.out).mono ?_; rintro e w1 ⟨rfl, rfl⟩))
    go_ret
    exact ⟨rfl, rfl⟩
end Go.Proofs.YtpjjofdphlgeiaaGreatDoor

namespace Go.Proofs.YtpjjofdphlgeiaaGreatDoor
open Go.RowKit
open Lx

def fv (f : FuncId) : Value := .func (.func f) #[] #[]
theorem ret_i {k : IntKind} {a b : Int} (h : a = b) : Ending.returned (.int k a) = .returned (.int k b) := by rw [h]
/-- The text from place k on, as a list. -/
theorem drop_at (s : ByteArray) (k : Nat) (h : k < s.size) : s.data.toList.drop k = s[k] :: s.data.toList.drop (k + 1) := by
  rw [List.drop_eq_getElem_cons (by simpa using h)]
  rfl
theorem lenF_at (p : UInt8 → Bool) (s : ByteArray) (k : Nat) (h : k < s.size) : lenF p (s.data.toList.drop k) = if p s[k] then lenF p (s.data.toList.drop (k + 1)) + 1 else 0 := by
  rw [drop_at s k h]; rfl
set_option maxRecDepth 10000 in
set_option maxHeartbeats 400000 in
theorem length_sp (s : ByteArray) (hs : s.size ≤ 1000000) (w : World) :
    Calls Tryz.prog 83 #[.string s, fv 115] w fun e w' => e = .returned (.int .i64 (lenF sp s.data.toList : Int)) ∧ w' = w := by
  have HF := hid' isSpace_tells
  obtain ⟨r, hr⟩ : ∃ r, lenF sp s.data.toList = r := ⟨_, rfl⟩
  rw [hr]
  have HR := hid' hr
  clear hr
  unfold fv
  go_enter Tryz.func83, Tryz.ntmps83
  go_wp2
  go_loop [8] (fun i => ∃ k : Nat, k ≤ s.size ∧ i = .int .i64 k ∧ Hid (r = k + lenF sp (s.data.toList.drop k))) (fun i => s.size - (intOf i).toNat)
  case atStart => exact ⟨0, Nat.zero_le _, rfl, hid' (by rw [← HR.out]; simp)⟩
  case round =>
    obtain ⟨k, hk, rfl, hrest⟩ := hrel
    by_cases hlt : k < s.size
    · have HC := hid' (fun W => HF.out s[k] W)
      have hat := lenF_at sp s k hlt
      cases hp : sp s[k] with
      | true =>
        rw [hp] at HC hat
        have hrest' : Hid (r = (k + 1 : Nat) + lenF sp (s.data.toList.drop (k + 1))) := hid' (by have := hrest.out; rw [hat] at this; simp at this; omega)
        clear hrest hat hp
        go_wp2_with fail
        refine (HC.out _).mono ?_
        rintro e w1 ⟨rfl, rfl⟩
        go_wp2
        go_round
        case rel => exact ⟨k + 1, by omega, by go_num, hrest'⟩
        case measure => simp [intOf]; omega
      | false =>
        rw [hp] at HC hat
        have hend : Hid (r = k) := hid' (by have := hrest.out; rw [hat] at this; simpa using this)
        clear hrest hat hp
        go_wp2_with fail
        refine (HC.out _).mono ?_
        rintro e w1 ⟨rfl, rfl⟩
        go_wp2
        go_ret
        exact ⟨ret_i (by rw [hend.out]), rfl⟩
    · obtain rfl : k = s.size := by omega
      have hend : Hid (r = s.size) := hid' (by
        have := hrest.out
        rw [List.drop_eq_nil_of_le (by simp)] at this
        simpa [lenF] using this)
      go_wp2
      go_ret
      exact ⟨ret_i (by rw [hend.out]), rfl⟩
set_option maxRecDepth 10000 in
set_option maxHeartbeats 400000 in
theorem length_dg (s : ByteArray) (hs : s.size ≤ 1000000) (w : World) :
    Calls Tryz.prog 83 #[.string s, fv 82] w fun e w' => e = .returned (.int .i64 (lenF dg s.data.toList : Int)) ∧ w' = w := by
  have HF := hid' isDigit_tells
  obtain ⟨r, hr⟩ : ∃ r, lenF dg s.data.toList = r := ⟨_, rfl⟩
  rw [hr]
  have HR := hid' hr
  clear hr
  unfold fv
  go_enter Tryz.func83, Tryz.ntmps83
  go_wp2
  go_loop [8] (fun i => ∃ k : Nat, k ≤ s.size ∧ i = .int .i64 k ∧ Hid (r = k + lenF dg (s.data.toList.drop k))) (fun i => s.size - (intOf i).toNat)
  case atStart => exact ⟨0, Nat.zero_le _, rfl, hid' (by rw [← HR.out]; simp)⟩
  case round =>
    obtain ⟨k, hk, rfl, hrest⟩ := hrel
    by_cases hlt : k < s.size
    · have HC := hid' (fun W => HF.out s[k] W)
      have hat := lenF_at dg s k hlt
      cases hp : dg s[k] with
      | true =>
        rw [hp] at HC hat
        have hrest' : Hid (r = (k + 1 : Nat) + lenF dg (s.data.toList.drop (k + 1))) := hid' (by have := hrest.out; rw [hat] at this; simp at this; omega)
        clear hrest hat hp
        go_wp2_with fail
        refine (HC.out _).mono ?_
        rintro e w1 ⟨rfl, rfl⟩
        go_wp2
        go_round
        case rel => exact ⟨k + 1, by omega, by go_num, hrest'⟩
        case measure => simp [intOf]; omega
      | false =>
        rw [hp] at HC hat
        have hend : Hid (r = k) := hid' (by have := hrest.out; rw [hat] at this; simpa using this)
        clear hrest hat hp
        go_wp2_with fail
        refine (HC.out _).mono ?_
        rintro e w1 ⟨rfl, rfl⟩
        go_wp2
        go_ret
        exact ⟨ret_i (by rw [hend.out]), rfl⟩
    · obtain rfl : k = s.size := by omega
      have hend : Hid (r = s.size) := hid' (by
        have := hrest.out
        rw [List.drop_eq_nil_of_le (by simp)] at this
        simpa [lenF] using this)
      go_wp2
      go_ret
      exact ⟨ret_i (by rw [hend.out]), rfl⟩
set_option maxRecDepth 10000 in
set_option maxHeartbeats 400000 in
theorem length_lt (s : ByteArray) (hs : s.size ≤ 1000000) (w : World) :
    Calls Tryz.prog 83 #[.string s, fv 112] w fun e w' => e = .returned (.int .i64 (lenF lt s.data.toList : Int)) ∧ w' = w := by
  have HF := hid' isLetter_tells
  obtain ⟨r, hr⟩ : ∃ r, lenF lt s.data.toList = r := ⟨_, rfl⟩
  rw [hr]
  have HR := hid' hr
  clear hr
  unfold fv
  go_enter Tryz.func83, Tryz.ntmps83
  go_wp2
  go_loop [8] (fun i => ∃ k : Nat, k ≤ s.size ∧ i = .int .i64 k ∧ Hid (r = k + lenF lt (s.data.toList.drop k))) (fun i => s.size - (intOf i).toNat)
  case atStart => exact ⟨0, Nat.zero_le _, rfl, hid' (by rw [← HR.out]; simp)⟩
  case round =>
    obtain ⟨k, hk, rfl, hrest⟩ := hrel
    by_cases hlt : k < s.size
    · have HC := hid' (fun W => HF.out s[k] W)
      have hat := lenF_at lt s k hlt
      cases hp : lt s[k] with
      | true =>
        rw [hp] at HC hat
        have hrest' : Hid (r = (k + 1 : Nat) + lenF lt (s.data.toList.drop (k + 1))) := hid' (by have := hrest.out; rw [hat] at this; simp at this; omega)
        clear hrest hat hp
        go_wp2_with fail
        refine (HC.out _).mono ?_
        rintro e w1 ⟨rfl, rfl⟩
        go_wp2
        go_round
        case rel => exact ⟨k + 1, by omega, by go_num, hrest'⟩
        case measure => simp [intOf]; omega
      | false =>
        rw [hp] at HC hat
        have hend : Hid (r = k) := hid' (by have := hrest.out; rw [hat] at this; simpa using this)
        clear hrest hat hp
        go_wp2_with fail
        refine (HC.out _).mono ?_
        rintro e w1 ⟨rfl, rfl⟩
        go_wp2
        go_ret
        exact ⟨ret_i (by rw [hend.out]), rfl⟩
    · obtain rfl : k = s.size := by omega
      have hend : Hid (r = s.size) := hid' (by
        have := hrest.out
        rw [List.drop_eq_nil_of_le (by simp)] at this
        simpa [lenF] using this)
      go_wp2
      go_ret
      exact ⟨ret_i (by rw [hend.out]), rfl⟩
set_option maxRecDepth 10000 in
set_option maxHeartbeats 400000 in
theorem length_nb (s : ByteArray) (hs : s.size ≤ 1000000) (w : World) :
    Calls Tryz.prog 83 #[.string s, fv 84] w fun e w' => e = .returned (.int .i64 (lenF nb s.data.toList : Int)) ∧ w' = w := by
  have HF := hid' isNameByte_tells
  obtain ⟨r, hr⟩ : ∃ r, lenF nb s.data.toList = r := ⟨_, rfl⟩
  rw [hr]
  have HR := hid' hr
  clear hr
  unfold fv
  go_enter Tryz.func83, Tryz.ntmps83
  go_wp2
  go_loop [8] (fun i => ∃ k : Nat, k ≤ s.size ∧ i = .int .i64 k ∧ Hid (r = k + lenF nb (s.data.toList.drop k))) (fun i => s.size - (intOf i).toNat)
  case atStart => exact ⟨0, Nat.zero_le _, rfl, hid' (by rw [← HR.out]; simp)⟩
  case round =>
    obtain ⟨k, hk, rfl, hrest⟩ := hrel
    by_cases hlt : k < s.size
    · have HC := hid' (fun W => HF.out s[k] W)
      have hat := lenF_at nb s k hlt
      cases hp : nb s[k] with
      | true =>
        rw [hp] at HC hat
        have hrest' : Hid (r = (k + 1 : Nat) + lenF nb (s.data.toList.drop (k + 1))) := hid' (by have := hrest.out; rw [hat] at this; simp at this; omega)
        clear hrest hat hp
        go_wp2_with fail
        refine (HC.out _).mono ?_
        rintro e w1 ⟨rfl, rfl⟩
        go_wp2
        go_round
        case rel => exact ⟨k + 1, by omega, by go_num, hrest'⟩
        case measure => simp [intOf]; omega
      | false =>
        rw [hp] at HC hat
        have hend : Hid (r = k) := hid' (by have := hrest.out; rw [hat] at this; simpa using this)
        clear hrest hat hp
        go_wp2_with fail
        refine (HC.out _).mono ?_
        rintro e w1 ⟨rfl, rfl⟩
        go_wp2
        go_ret
        exact ⟨ret_i (by rw [hend.out]), rfl⟩
    · obtain rfl : k = s.size := by omega
      have hend : Hid (r = s.size) := hid' (by
        have := hrest.out
        rw [List.drop_eq_nil_of_le (by simp)] at this
        simpa [lenF] using this)
      go_wp2
      go_ret
      exact ⟨ret_i (by rw [hend.out]), rfl⟩
set_option maxRecDepth 10000 in
set_option maxHeartbeats 400000 in
theorem length_tb (s : ByteArray) (hs : s.size ≤ 1000000) (w : World) :
    Calls Tryz.prog 83 #[.string s, fv 116] w fun e w' => e = .returned (.int .i64 (lenF tb s.data.toList : Int)) ∧ w' = w := by
  have HF := hid' isTextByte_tells
  obtain ⟨r, hr⟩ : ∃ r, lenF tb s.data.toList = r := ⟨_, rfl⟩
  rw [hr]
  have HR := hid' hr
  clear hr
  unfold fv
  go_enter Tryz.func83, Tryz.ntmps83
  go_wp2
  go_loop [8] (fun i => ∃ k : Nat, k ≤ s.size ∧ i = .int .i64 k ∧ Hid (r = k + lenF tb (s.data.toList.drop k))) (fun i => s.size - (intOf i).toNat)
  case atStart => exact ⟨0, Nat.zero_le _, rfl, hid' (by rw [← HR.out]; simp)⟩
  case round =>
    obtain ⟨k, hk, rfl, hrest⟩ := hrel
    by_cases hlt : k < s.size
    · have HC := hid' (fun W => HF.out s[k] W)
      have hat := lenF_at tb s k hlt
      cases hp : tb s[k] with
      | true =>
        rw [hp] at HC hat
        have hrest' : Hid (r = (k + 1 : Nat) + lenF tb (s.data.toList.drop (k + 1))) := hid' (by have := hrest.out; rw [hat] at this; simp at this; omega)
        clear hrest hat hp
        go_wp2_with fail
        refine (HC.out _).mono ?_
        rintro e w1 ⟨rfl, rfl⟩
        go_wp2
        go_round
        case rel => exact ⟨k + 1, by omega, by go_num, hrest'⟩
        case measure => simp [intOf]; omega
      | false =>
        rw [hp] at HC hat
        have hend : Hid (r = k) := hid' (by have := hrest.out; rw [hat] at this; simpa using this)
        clear hrest hat hp
        go_wp2_with fail
        refine (HC.out _).mono ?_
        rintro e w1 ⟨rfl, rfl⟩
        go_wp2
        go_ret
        exact ⟨ret_i (by rw [hend.out]), rfl⟩
    · obtain rfl : k = s.size := by omega
      have hend : Hid (r = s.size) := hid' (by
        have := hrest.out
        rw [List.drop_eq_nil_of_le (by simp)] at this
        simpa [lenF] using this)
      go_wp2
      go_ret
      exact ⟨ret_i (by rw [hend.out]), rfl⟩
def txt (l : List UInt8) : ByteArray := ⟨l.toArray⟩
def wordsV : Array Value := (words.map fun l => Value.string (txt l)).toArray
end Go.Proofs.YtpjjofdphlgeiaaGreatDoor

namespace Go.Proofs.YtpjjofdphlgeiaaGreatDoor
open Go.RowKit
open Lx

/-- The words lie in their variable. -/
def WordsAt (w : World) : Prop := w.rangeAt 17 0 (words.map fun l => Value.string (txt l))
theorem WordsAt.below {w w' : World} (h : WordsAt w) (hb : Below w.heap.size w w') : WordsAt w' := fun j v hv => (hb.cell (World.block_lt_of_cell? w _ (h j v hv))).trans (h j v hv)
theorem words_size : (Tryz.prog.info? 132).map (·.size) = some 17 := by kernel_rfl
set_option maxRecDepth 10000 in
theorem words_idx (k : Nat) (hk : k < 17) (W : World) : (Instr.index 132 (.agg wordsV) (.int .i64 (k : Int))).run Tryz.prog W = .ok (.string (txt (words.getD k []))) W := by
  have h' : k = 0 ∨ k = 1 ∨ k = 2 ∨ k = 3 ∨ k = 4 ∨ k = 5 ∨ k = 6 ∨ k = 7 ∨ k = 8 ∨ k = 9 ∨ k = 10 ∨ k = 11 ∨ k = 12 ∨ k = 13 ∨ k = 14 ∨ k = 15 ∨ k = 16 := by omega
  rcases h' with rfl | rfl | rfl | rfl | rfl | rfl | rfl | rfl | rfl | rfl | rfl | rfl | rfl | rfl | rfl | rfl | rfl <;> rfl
/-- Is it one of the words, from the k-th on? -/
def wordFrom (k : Nat) (l : List UInt8) : Bool := (words.drop k).any (· == l)
theorem wordFrom_zero (l : List UInt8) : isWord l = wordFrom 0 l := rfl
theorem wordFrom_at (k : Nat) (hk : k < 17) (l : List UInt8) : wordFrom k l = (words.getD k [] == l || wordFrom (k + 1) l) := by
  have h : k < words.length := hk
  unfold wordFrom
  rw [List.drop_eq_getElem_cons h, List.any_cons, List.getD_eq_getElem?_getD, List.getElem?_eq_getElem h]
  rfl
theorem toList_txt (l : List UInt8) : (txt l).toList = l := by rw [ByteArray.toList_eq]; rfl
theorem data_txt (l : List UInt8) : (txt l).data.toList = l := rfl
theorem txt_data (s : ByteArray) : txt s.data.toList = s := rfl
set_option maxRecDepth 10000 in
set_option maxHeartbeats 400000 in
theorem isWord_any (s : ByteArray) (w : World) (hw : WordsAt w) : Calls Tryz.prog 85 #[.string s] w fun e w' => e = .returned (.bool (isWord s.data.toList)) ∧ w' = w := by
  obtain ⟨L, rfl⟩ : ∃ L, s = txt L := ⟨s.data.toList, rfl⟩
  rw [data_txt]
  obtain ⟨r, hr⟩ : ∃ r, isWord L = r := ⟨_, rfl⟩
  rw [hr]
  have HR := hid' hr
  have HW := hid' hw
  clear hr hw
  go_enter Tryz.func85, Tryz.ntmps85
  go_wp2_with ((with_reducible refine at_list ?_); refine wpList_load_mid rfl 132 (.global 17) rfl 17 0 rfl (words.map fun l => Value.string (txt l)) _ HW.out Tryz.underlying132 rfl words_size ?_)
  rw [show (words.map fun l => Value.string (txt l)).toArray = wordsV from rfl]
  go_loop [6] (fun i => ∃ k : Nat, k ≤ 17 ∧ i = .int .i64 k ∧ Hid (r = wordFrom k L)) (fun i => 17 - (intOf i).toNat)
  case atStart => exact ⟨0, Nat.zero_le _, rfl, hid' (by rw [← HR.out]; rfl)⟩
  case round =>
    obtain ⟨k, hk, rfl, hrest⟩ := hrel
    by_cases hlt : k < 17
    · have hix := words_idx k hlt
      have hlt' : (k : Int) < 17 := by omega
      have hat := wordFrom_at k hlt L
      generalize words.getD k [] = wd at hix hat
      generalize wordsV = wv at hix ⊢
      by_cases he : wd = L
      · subst he
        have hend : Hid (r = true) := hid' (by rw [hrest.out, hat]; simp)
        clear hrest hat
        go_wp2
        go_ret
        exact ⟨ret_bool' hend.out.symm, rfl⟩
      · have hne : ((txt wd).toList == (txt L).toList) = false := by rw [toList_txt, toList_txt, beq_eq_false_iff_ne]; exact he
        have hrest' : Hid (r = wordFrom (k + 1) L) := hid' (by rw [hrest.out, hat, beq_eq_false_iff_ne.2 he]; rfl)
        clear hrest hat he
        go_wp2
        go_round
        case rel => exact ⟨k + 1, by omega, by go_num, hrest'⟩
        case measure => simp [intOf]; omega
    · obtain rfl : k = 17 := by omega
      have hend : Hid (r = false) := hid' (by rw [hrest.out]; rfl)
      generalize wordsV = wv
      go_wp2
      go_ret
      exact ⟨ret_bool' hend.out.symm, rfl⟩
end Go.Proofs.YtpjjofdphlgeiaaGreatDoor
