/- What lex.Name answers. Conditions: short texts; the words lie in their variable. -/
import Derived.Test.YtdiocmcfaneajaaGreatDoorLexWord
namespace Go.Proofs.YtdiocmcfaneajaaGreatDoor
open Go.RowKit
open Lx

theorem ba_inj {x s : ByteArray} (h : x.data.toList = s.data.toList) : x = s := ByteArray.ext (Array.toList_inj.1 h)

set_option maxRecDepth 10000 in
set_option maxHeartbeats 800000 in
theorem lexName_any (s : ByteArray) (hs : s.size ≤ 1000000) (w : World) (hw : WordsAt w) : Calls Tryz.prog 88 #[.string s] w fun e w' => e = .returned (.bool (nameB s.data.toList)) ∧ w' = w := by
  by_cases he : s = ⟨#[]⟩
  · subst he
    go_enter Tryz.func88, Tryz.ntmps88
    go_wp2
    go_ret
    exact ⟨rfl, rfl⟩
  · have he' : s.toList.isEmpty = false := by
      rw [ByteArray.toList_eq]
      cases h : s.data.toList with
      | nil => exact absurd (ba_inj (s := ⟨#[]⟩) h) he
      | cons a b => rfl
    have hpos : 0 < s.size := by
      rcases Nat.eq_zero_or_pos s.size with h | h
      · exact absurd (ByteArray.ext (Array.eq_empty_of_size_eq_zero h)) he
      · exact h
    have HD := hid' (fun W => isDigit_tells s[0] W)
    have hcons : s.data.toList = s[0] :: s.data.toList.drop 1 := by have := drop_at s 0 hpos; rwa [List.drop_zero] at this
    have hidx : ∀ W, (Instr.index 9 (.string s) (.int .i64 0)).run Tryz.prog W = .ok (.int .u8 (s[0].toNat : Int)) W := fun W => by go_simp
    have hnm : nameB s.data.toList = (!dg s[0] && (lenF nb s.data.toList == s.data.toList.length && !isWord s.data.toList)) := by
      rw [hcons]; rfl
    have hlen : s.data.toList.length = s.size := by rw [Array.length_toList]; rfl
    rw [hnm, hlen]
    generalize s[0] = b at HD hidx
    have HLN := hid' (fun W => length_nb s (by omega) W)
    have HW := hid' (fun W (h : WordsAt W) => isWord_any s W h)
    have HWW := hid' hw
    generalize lenF nb s.data.toList = n at HLN
    generalize isWord s.data.toList = iw at HW
    clear he hcons hnm hlen hw
    cases hd : dg b with
    | true =>
      rw [hd] at HD
      clear hd
      go_enter Tryz.func88, Tryz.ntmps88
      go_wp2_with fail
      refine (HD.out _).mono ?_
      rintro e w1 ⟨rfl, rfl⟩
      go_wp2
      go_ret
      exact ⟨rfl, rfl⟩
    | false =>
      rw [hd] at HD
      clear hd
      by_cases hn : n = s.size
      · have hn' : (n : Int) = (s.size : Int) := by omega
        have HR : Hid ((!false && (n == s.size && !iw)) = !iw) := hid' (by rw [hn]; simp)
        clear hn
        go_enter Tryz.func88, Tryz.ntmps88
        go_wp2_with fail
        refine (HD.out _).mono ?_
        rintro e w1 ⟨rfl, rfl⟩
        go_wp2_with fail
        refine (HLN.out _).mono ?_
        rintro e w2 ⟨rfl, rfl⟩
        go_wp2_with fail
        refine (HW.out _ HWW.out).mono ?_
        rintro e w3 ⟨rfl, rfl⟩
        go_wp2
        go_ret
        exact ⟨ret_bool' HR.out.symm, rfl⟩
      · have hn' : ((n : Int) == (s.size : Int)) = false := by rw [beq_eq_false_iff_ne]; omega
        have HR : Hid ((!false && (n == s.size && !iw)) = false) := hid' (by simp [hn])
        clear hn
        go_enter Tryz.func88, Tryz.ntmps88
        go_wp2_with fail
        refine (HD.out _).mono ?_
        rintro e w1 ⟨rfl, rfl⟩
        go_wp2_with fail
        refine (HLN.out _).mono ?_
        rintro e w2 ⟨rfl, rfl⟩
        go_wp2
        go_ret
        exact ⟨ret_bool' HR.out.symm, rfl⟩
end Go.Proofs.YtdiocmcfaneajaaGreatDoor
