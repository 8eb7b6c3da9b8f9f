/- What smithyref1.Join and Valid answer: what path.Join and path.Valid do. Condition: fewer than 2^31 bytes. -/
import Derived.Test.YteokigpeaggemaaDoorRefClean
import Derived.Test.YteokigpeaggemaaDoorDirsLaw
namespace Go.Proofs.YteokigpeaggemaaDoor
open Go.RowKit

set_option maxHeartbeats 400000 in
theorem refJoin_any (xs : List ByteArray) (bk o c : Nat) (w : World) (hn : xs.length < 2147483648) (hlen : (glueB xs).size < 2147483600) (hc : ∀ (j : Nat) (h : j < xs.length), w.cell? ⟨bk, o + j, none⟩ = some (.string xs[j])) :
    Calls Tryd.prog 13 #[.slice (some ⟨bk, o, none⟩) xs.length c] w (refCleanPost (glueB xs) w) := by
  have HG := Lib.hid (glue_any xs bk o c w hn (by omega) hc)
  have HC := Lib.hid (refClean_any (glueB xs) w hlen)
  clear hc
  go_enter Tryd.func13, Tryd.ntmps13
  go_wp2_with fail
  refine HG.out.mono ?_
  rintro e w1 ⟨rfl, rfl⟩
  go_wp2_with fail
  refine HC.out.mono ?_
  rintro e w2 ⟨rfl, hb2⟩
  have HB2 := Lib.hid hb2
  clear hb2
  unfold refCleanPost
  cases hc : Cln.clean (glueB xs).data.toList with
  | none =>
    dsimp only
    go_wp2
    go_ret2
    exact ⟨by rw [hc]; rfl, HB2.out⟩
  | some l =>
    dsimp only
    go_wp2
    go_ret2
    exact ⟨by rw [hc]; rfl, HB2.out⟩
set_option maxHeartbeats 400000 in
theorem refJoin_none (a : Option Addr) (c : Nat) (w : World) : Calls Tryd.prog 13 #[.slice a 0 c] w (refCleanPost (glueB []) w) := by
  have HG := Lib.hid (glue_none a c w)
  have HC := Lib.hid (refClean_any (glueB []) w (by decide))
  go_enter Tryd.func13, Tryd.ntmps13
  go_wp2_with fail
  refine HG.out.mono ?_
  rintro e w1 ⟨rfl, rfl⟩
  go_wp2_with fail
  refine HC.out.mono ?_
  rintro e w2 ⟨rfl, hb2⟩
  have HB2 := Lib.hid hb2
  clear hb2
  unfold refCleanPost
  cases hc : Cln.clean (glueB []).data.toList with
  | none =>
    dsimp only
    go_wp2
    go_ret2
    exact ⟨by rw [hc]; rfl, HB2.out⟩
  | some l =>
    dsimp only
    go_wp2
    go_ret2
    exact ⟨by rw [hc]; rfl, HB2.out⟩

/-- A path is what is clean and not empty. -/
theorem valid_is (l : List UInt8) : Pth.splitOK Pth.partOK l = true ↔ Cln.clean l = some l ∧ l ≠ [] := by
  constructor
  · intro h
    exact ⟨Stk.valid_clean h, by rintro rfl; revert h; decide⟩
  · rintro ⟨h, hne⟩
    obtain ⟨st, _, h2, h3, h4⟩ := Stk.clean_some h
    have hs : st ≠ [] := by rintro rfl; exact hne h3
    have := Stk.valid_glue h2 hs (by rw [← h3]; exact h4)
    rwa [← h3] at this

set_option maxRecDepth 100000 in
set_option maxHeartbeats 800000 in
theorem refValid_any (s : ByteArray) (w : World) (hs : s.size < 2147483600) :
    Calls Tryd.prog 17 #[.string s] w fun e w' => e = .returned (.bool (Pth.splitOK Pth.partOK s.data.toList)) ∧ Below w.heap.size w w' := by
  have HC := Lib.hid (refClean_any s w hs)
  have HV := Lib.hid (valid_is s.data.toList)
  have HT := Lib.hid (Lib.toList_data s)
  cases hc : Cln.clean s.data.toList with
  | none =>
    have H : Hid (Pth.splitOK Pth.partOK s.data.toList = false) := Lib.hid (by
      rw [Bool.eq_false_iff]; intro h; have := (HV.out.1 h).1; rw [hc] at this; cases this)
    go_enter Tryd.func17, Tryd.ntmps17
    go_wp2_with fail
    refine HC.out.mono ?_
    rintro e w1 ⟨rfl, hb1⟩
    rw [hc]
    have HB := Lib.hid hb1
    clear hb1 hc
    dsimp only
    go_wp2
    go_ret
    exact ⟨ret_bool H.out.symm, HB.out⟩
  | some l =>
    have HL := Lib.hid (Lib.toList_data (⟨l.toArray⟩ : ByteArray))
    have HD := Lib.hid (show (⟨l.toArray⟩ : ByteArray).data.toList = l from rfl)
    have H : Hid (Pth.splitOK Pth.partOK s.data.toList = ((⟨l.toArray⟩ : ByteArray).toList == s.toList && !s.toList.isEmpty)) := Lib.hid (by
      rw [HL.out, HD.out, HT.out, Bool.eq_iff_iff, HV.out, hc]
      simp)
    go_enter Tryd.func17, Tryd.ntmps17
    go_wp2_with fail
    refine HC.out.mono ?_
    rintro e w1 ⟨rfl, hb1⟩
    rw [hc]
    have HB := Lib.hid hb1
    clear hb1 hc
    dsimp only
    generalize (⟨l.toArray⟩ : ByteArray) = a at H ⊢
    by_cases ha : a.toList = s.toList
    · by_cases h0 : s.toList = []
      · go_wp2
        go_ret
        exact ⟨ret_bool (by rw [H.out, ha, h0]; rfl), HB.out⟩
      · go_wp2
        go_ret
        exact ⟨ret_bool (by rw [H.out, ha]; simp), HB.out⟩
    · go_wp2
      go_ret
      exact ⟨ret_bool (by rw [H.out]; simp [ha]), HB.out⟩

end Go.Proofs.YteokigpeaggemaaDoor
