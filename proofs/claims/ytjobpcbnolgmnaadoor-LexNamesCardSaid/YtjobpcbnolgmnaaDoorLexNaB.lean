/- What smithyref4.Plain, smithyref4.Name and lex.Name answer. Conditions: short texts; the words lie in their variable. -/
import Derived.Test.YtjobpcbnolgmnaaDoorLexNaA
namespace Go.Proofs.YtjobpcbnolgmnaaDoor
open Go.RowKit
open Lx

def okAt (k : Nat) (b : UInt8) : Bool := lt b || (decide (0 < k) && dg b)
def okFrom : Nat → List UInt8 → Bool
  | _, [] => true
  | k, b :: l => okAt k b && okFrom (k + 1) l
def plainB (l : List UInt8) : Bool := okFrom 0 l && !l.isEmpty
theorem okFrom_at (s : ByteArray) (k : Nat) (h : k < s.size) : okFrom k (s.data.toList.drop k) = (okAt k s[k] && okFrom (k + 1) (s.data.toList.drop (k + 1))) := by
  rw [drop_at s k h]; rfl
theorem okFrom_succ : ∀ (l : List UInt8) (k : Nat), okFrom (k + 1) l = (lenF nb l == l.length)
  | [], _ => rfl
  | b :: l, k => by
    have ih := okFrom_succ l (k + 1)
    have hk : okAt (k + 1) b = nb b := by simp [okAt, nb]
    show (okAt (k + 1) b && okFrom (k + 1 + 1) l) = ((if nb b then lenF nb l + 1 else 0) == l.length + 1)
    rw [ih, hk]
    cases nb b <;> simp
theorem lt_dg (b : UInt8) : (!dg b && (lt b || dg b)) = lt b := by
  rw [dg_iff, lt_iff]
  generalize (b.toNat : Int) = n
  rw [Bool.eq_iff_iff]
  simp only [Bool.and_eq_true, Bool.not_eq_true', decide_eq_false_iff_not, Bool.or_eq_true, decide_eq_true_eq]
  omega
theorem nameB_plain (l : List UInt8) : nameB l = (plainB l && !isWord l) := by
  cases l with
  | nil => rfl
  | cons b l =>
    have h0 : okAt 0 b = lt b := by simp [okAt]
    have h1 : okFrom 1 l = (lenF nb l == l.length) := okFrom_succ l 0
    show (!dg b && ((if nb b then lenF nb l + 1 else 0) == l.length + 1 && !isWord (b :: l))) = (((okAt 0 b && okFrom 1 l) && true) && !isWord (b :: l))
    have h2 : (!dg b && nb b) = lt b := lt_dg b
    rw [h0, h1, ← h2]
    cases dg b <;> cases nb b <;> simp
set_option maxRecDepth 10000 in
set_option maxHeartbeats 400000 in
theorem refPlain_any (s : ByteArray) (hs : s.size ≤ 1000000) (w : World) : Calls Tryd.prog 43 #[.string s] w fun e w' => e = .returned (.bool (plainB s.data.toList)) ∧ w' = w := by
  have HL := hid' refLetter_tells
  have HD := hid' refDigit_tells
  obtain ⟨r, hr⟩ : ∃ r, plainB s.data.toList = r := ⟨_, rfl⟩
  rw [hr]
  have HR := hid' hr
  clear hr
  go_enter Tryd.func43, Tryd.ntmps43
  go_wp2
  go_loop [3] (fun i => ∃ k : Nat, k ≤ s.size ∧ i = .int .i64 k ∧ Hid (r = (okFrom k (s.data.toList.drop k) && !s.data.toList.isEmpty))) (fun i => s.size - (intOf i).toNat)
  case atStart => exact ⟨0, Nat.zero_le _, rfl, hid' (by rw [← HR.out]; rfl)⟩
  case round =>
    obtain ⟨k, hk, rfl, hrest⟩ := hrel
    by_cases hlt : k < s.size
    · have hat := okFrom_at s k hlt
      unfold okAt at hat
      cases hl : lt s[k] with
      | true =>
        have HC := hid' (fun W => HL.out s[k] W)
        rw [hl] at HC hat
        have hrest' : Hid (r = (okFrom (k + 1) (s.data.toList.drop (k + 1)) && !s.data.toList.isEmpty)) := hid' (by rw [hrest.out, hat]; simp)
        clear hrest hat hl
        go_wp2_with fail
        refine (HC.out _).mono ?_
        rintro e w1 ⟨rfl, rfl⟩
        go_wp2
        go_round
        case rel => exact ⟨k + 1, by omega, by go_num, hrest'⟩
        case measure => simp [intOf]; omega
      | false =>
        have HC := hid' (fun W => HL.out s[k] W)
        rw [hl] at HC hat
        by_cases h0 : k = 0
        · subst h0
          have hend : Hid (r = false) := hid' (by rw [hrest.out, hat]; simp)
          clear hrest hat hl
          go_wp2_with fail
          refine (HC.out _).mono ?_
          rintro e w1 ⟨rfl, rfl⟩
          go_wp2
          go_ret
          exact ⟨ret_bool' hend.out.symm, rfl⟩
        · have h1 : (0 : Int) < (k : Int) := by omega
          have h1' : decide (0 < k) = true := decide_eq_true (by omega)
          cases hd : dg s[k] with
          | true =>
            have HC2 := hid' (fun W => HD.out s[k] W)
            rw [hd] at HC2 hat
            have hrest' : Hid (r = (okFrom (k + 1) (s.data.toList.drop (k + 1)) && !s.data.toList.isEmpty)) := hid' (by rw [hrest.out, hat, h1']; simp)
            clear hrest hat hl hd h1'
            go_wp2_with fail
            refine (HC.out _).mono ?_
            rintro e w1 ⟨rfl, rfl⟩
            go_wp2_with fail
            refine (HC2.out _).mono ?_
            rintro e w2 ⟨rfl, rfl⟩
            go_wp2
            go_round
            case rel => exact ⟨k + 1, by omega, by go_num, hrest'⟩
            case measure => simp [intOf]; omega
          | false =>
            have HC2 := hid' (fun W => HD.out s[k] W)
            rw [hd] at HC2 hat
            have hend : Hid (r = false) := hid' (by rw [hrest.out, hat, h1']; simp)
            clear hrest hat hl hd h1'
            go_wp2_with fail
            refine (HC.out _).mono ?_
            rintro e w1 ⟨rfl, rfl⟩
            go_wp2_with fail
            refine (HC2.out _).mono ?_
            rintro e w2 ⟨rfl, rfl⟩
            go_wp2
            go_ret
            exact ⟨ret_bool' hend.out.symm, rfl⟩
    · obtain rfl : k = s.size := by omega
      have hend : Hid (r = !s.data.toList.isEmpty) := hid' (by
        rw [hrest.out, List.drop_eq_nil_of_le (by simp)]
        rfl)
      clear hrest
      by_cases he : s = ⟨#[]⟩
      · subst he
        go_wp2
        go_ret
        exact ⟨ret_bool' (by rw [hend.out]; rfl), rfl⟩
      · have he' : s.toList.isEmpty = false := by
          rw [ByteArray.toList_eq]
          cases h : s.data.toList with
          | nil => exact absurd (ba_inj (s := ⟨#[]⟩) h) he
          | cons a b => rfl
        have hne : s.data.toList.isEmpty = false := by
          cases h : s.data.toList with
          | nil => exact absurd (ba_inj (s := ⟨#[]⟩) h) he
          | cons a b => rfl
        have hend' : Hid (r = true) := hid' (by rw [hend.out, hne]; rfl)
        clear he hne hend
        go_wp2
        go_ret
        exact ⟨ret_bool' (by rw [hend'.out]), rfl⟩
end Go.Proofs.YtjobpcbnolgmnaaDoor
