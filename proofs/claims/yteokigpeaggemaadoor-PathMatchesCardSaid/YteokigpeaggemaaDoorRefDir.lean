/- What smithyref1.Dir, Base and Under answer at every text: what path.Dir, Base and Under do. Condition: texts of fewer than 2^32 bytes. -/
import Derived.Test.YteokigpeaggemaaDoorRefParts
namespace Go.Proofs.YteokigpeaggemaaDoor
open Go.RowKit

/-- No stroke from byte k on. -/
def clear47 (s : ByteArray) (k : Nat) : Prop := ∀ j (h : j < s.size), k ≤ j → s[j] ≠ 47
theorem bang_get (s : ByteArray) (j : Nat) (h : j < s.size) : (s.data[j]!).toNat = s[j].toNat := by
  rw [Stars.at_bang s j (by rw [← Lib.size_eq]; exact h)]; rfl
theorem num47 {b : UInt8} : b = 47 ↔ b.toNat = 47 := by
  rw [← UInt8.toNat_inj]; rfl
theorem last_hit (s : ByteArray) (k : Nat) (h : k < s.size) (hb : s[k] = 47) (hn : clear47 s (k + 1)) : dirN s = k ∧ baseN s = k + 1 := by
  rcases Lib.lastIndexByte_spec s 47 with ⟨_, h2⟩ | ⟨i, hi, e, hc, h2⟩
  · exact absurd (by rw [bang_get s k h, num47.1 hb]; rfl) (h2 k h)
  · have : i = k := by
      rcases Nat.lt_trichotomy i k with hl | he | hl
      · exact absurd (by rw [bang_get s k h, num47.1 hb]; rfl) (h2 k hl h)
      · exact he
      · refine absurd ?_ (hn i hi hl)
        rw [bang_get s i hi] at hc
        exact num47.2 (by omega)
    subst this
    unfold dirN baseN
    rw [e]
    exact ⟨by simp, by omega⟩
theorem last_none (s : ByteArray) (hn : clear47 s 0) : dirN s = 0 ∧ baseN s = 0 := by
  rcases Lib.lastIndexByte_spec s 47 with ⟨e, _⟩ | ⟨i, hi, e, hc, h2⟩
  · unfold dirN baseN; rw [e]; exact ⟨rfl, rfl⟩
  · rw [bang_get s i hi] at hc
    exact absurd (num47.2 (by omega)) (hn i hi (Nat.zero_le _))
theorem clear_down {s : ByteArray} {k : Nat} (h : k < s.size) (hn : clear47 s (k + 1)) (hb : s[k] ≠ 47) : clear47 s k := by
  intro j hj hk
  by_cases e : j = k
  · subst e; exact hb
  · exact hn j hj (by omega)
theorem cut_nothing (s : ByteArray) : s.extract 0 0 = ⟨#[]⟩ := by simp; rfl
theorem cut_whole (s : ByteArray) : s.extract 0 s.size = s := by simp

set_option maxHeartbeats 400000 in
theorem refDir_any (s : ByteArray) (w : World) (hs : s.size < 4294967281) :
    Calls Tryd.prog 19 #[.string s] w fun e w' => e = .returned (.string (s.extract 0 (dirN s))) ∧ w = w' := by
  go_enter Tryd.func19, Tryd.ntmps19
  go_wp2
  go_loop [3] (fun i => ∃ k : Nat, k ≤ s.size ∧ i = .int .i64 ((k : Int) - 1) ∧ Hid (clear47 s k)) (fun i => (intOf i + 1).toNat)
  case atStart => exact ⟨s.size, Nat.le_refl _, rfl, Lib.hid fun j hj hk => absurd hj (by omega)⟩
  case round =>
    obtain ⟨k, hk, rfl, hn⟩ := hrel
    cases k with
    | zero =>
      have H := Lib.hid (last_none s hn.out)
      go_wp2
      go_ret
      exact ⟨ret_str (by rw [H.out.1, cut_nothing]), rfl⟩
    | succ k =>
      have hlt : k < s.size := by omega
      have e1 : ((k + 1 : Nat) : Int) - 1 = (k : Int) := by omega
      rw [e1]
      by_cases h47 : (s[k].toNat : Int) = 47
      · have H := Lib.hid (last_hit s k hlt (num47.2 (by omega)) hn.out)
        clear hn e1
        go_wp2
        go_ret
        exact ⟨ret_str (by rw [H.out.1]), rfl⟩
      · have H := Lib.hid (clear_down hlt hn.out (fun e => h47 (by rw [num47.1 e]; rfl)))
        clear hn e1
        go_wp2
        go_round
        case rel => exact ⟨k, by omega, by go_num, H⟩
        case measure => simp [intOf]
set_option maxHeartbeats 400000 in
theorem refBase_any (s : ByteArray) (w : World) (hs : s.size < 4294967281) :
    Calls Tryd.prog 21 #[.string s] w fun e w' => e = .returned (.string (s.extract (baseN s) s.size)) ∧ w = w' := by
  go_enter Tryd.func21, Tryd.ntmps21
  go_wp2
  go_loop [3] (fun i => ∃ k : Nat, k ≤ s.size ∧ i = .int .i64 ((k : Int) - 1) ∧ Hid (clear47 s k)) (fun i => (intOf i + 1).toNat)
  case atStart => exact ⟨s.size, Nat.le_refl _, rfl, Lib.hid fun j hj hk => absurd hj (by omega)⟩
  case round =>
    obtain ⟨k, hk, rfl, hn⟩ := hrel
    cases k with
    | zero =>
      have H := Lib.hid (last_none s hn.out)
      go_wp2
      go_ret
      exact ⟨ret_str (by rw [H.out.2, cut_whole]), rfl⟩
    | succ k =>
      have hlt : k < s.size := by omega
      have e1 : ((k + 1 : Nat) : Int) - 1 = (k : Int) := by omega
      rw [e1]
      by_cases h47 : (s[k].toNat : Int) = 47
      · have H := Lib.hid (last_hit s k hlt (num47.2 (by omega)) hn.out)
        clear hn e1
        go_wp2
        go_ret
        exact ⟨ret_str (by rw [H.out.2]), rfl⟩
      · have H := Lib.hid (clear_down hlt hn.out (fun e => h47 (by rw [num47.1 e]; rfl)))
        clear hn e1
        go_wp2
        go_round
        case rel => exact ⟨k, by omega, by go_num, H⟩
        case measure => simp [intOf]

theorem under_num (p d : ByteArray) (hd : d.toList.isEmpty = false) (h : ¬ p.size ≤ d.size) : underB p d = ((p.extract 0 d.size).toList == d.toList && (p[d.size]'(by omega) == 47)) := by
  have hl := Lib.size_eq p
  have hd2 := Lib.size_eq d
  unfold underB
  rw [hd, if_neg (by simp), Lib.toList_data, Lib.toList_data, Lib.extract_from_zero]
  unfold Lib.hasPrefix Lib.trimPrefix Lib.hasPrefix
  by_cases e : p.data.toList.take d.size = d.data.toList
  · have hp : d.data.toList.isPrefixOf p.data.toList = true := by
      rw [List.isPrefixOf_iff_prefix, ← e]; exact List.take_prefix _ _
    rw [hp, if_pos rfl, Bool.true_and, ← hd2, e, List.drop_eq_getElem_cons (by omega)]
    have h3 : p.data.toList[d.size]'(by omega) = p[d.size]'(by omega) := rfl
    rw [h3]
    simp [List.isPrefixOf, BEq.comm]
  · have hp : d.data.toList.isPrefixOf p.data.toList = false := by
      rw [Bool.eq_false_iff]
      intro hx
      obtain ⟨r, hr⟩ := List.isPrefixOf_iff_prefix.1 hx
      rw [← hr, hd2, List.take_left] at e
      exact e rfl
    rw [hp, Bool.false_and]
    have : (p.data.toList.take d.size == d.data.toList) = false := by simp [e]
    rw [this, Bool.false_and]
theorem under_short (p d : ByteArray) (hd : d.toList.isEmpty = false) (h : p.size ≤ d.size) : underB p d = false := by
  have hl := Lib.size_eq p
  have hd2 := Lib.size_eq d
  unfold underB
  rw [hd, if_neg (by simp)]
  cases hp : Lib.hasPrefix p.data.toList d.data.toList with
  | false => rfl
  | true =>
    unfold Lib.hasPrefix at hp
    obtain ⟨r, hr⟩ := List.isPrefixOf_iff_prefix.1 hp
    have h1 := congrArg List.length hr
    rw [List.length_append] at h1
    have h2 : r = [] := List.eq_nil_of_length_eq_zero (by omega)
    subst h2
    rw [List.append_nil] at hr
    unfold Lib.trimPrefix Lib.hasPrefix
    rw [hr]
    have hself : p.data.toList.isPrefixOf p.data.toList = true := List.isPrefixOf_iff_prefix.2 (List.prefix_refl _)
    rw [hself, if_pos rfl, List.drop_length]; rfl
theorem eq_slash (b : UInt8) : ((b.toNat : Int) == 47) = (b == 47) := by
  rw [Bool.eq_iff_iff, beq_iff_eq, beq_iff_eq, num47]; omega
set_option maxHeartbeats 800000 in
theorem refUnder_any (p d : ByteArray) (w : World) (_hp : p.size < 4294967281) (hd : d.size < 4294967281) :
    Calls Tryd.prog 23 #[.string p, .string d] w fun e w' => e = .returned (.bool (underB p d)) ∧ w = w' := by
  cases h0 : d.toList.isEmpty
  · by_cases h : p.size ≤ d.size
    · have H := Lib.hid (under_short p d h0 h)
      have hn : ¬ d.toList = [] := by intro e; rw [e] at h0; cases h0
      go_enter Tryd.func23, Tryd.ntmps23
      go_wp2
      go_ret
      exact ⟨ret_bool H.out.symm, rfl⟩
    · have H := Lib.hid (under_num p d h0 h)
      have hn : ¬ d.toList = [] := by intro e; rw [e] at h0; cases h0
      have hlt : d.size < p.size := by omega
      have hE := Lib.hid (eq_slash (p[d.size]'hlt))
      by_cases he : (p.extract 0 d.size).toList = d.toList
      · go_enter Tryd.func23, Tryd.ntmps23
        go_wp2
        go_ret
        exact ⟨ret_bool (by rw [H.out, hE.out, he]; simp), rfl⟩
      · go_enter Tryd.func23, Tryd.ntmps23
        go_wp2
        go_ret
        exact ⟨ret_bool (by rw [H.out]; simp [he]), rfl⟩
  · have H : Hid (underB p d = !p.toList.isEmpty) := Lib.hid (by unfold underB; rw [h0, if_pos rfl])
    have hn : d.toList = [] := List.isEmpty_iff.1 h0
    go_enter Tryd.func23, Tryd.ntmps23
    go_wp2
    go_ret
    exact ⟨ret_bool H.out.symm, rfl⟩

end Go.Proofs.YteokigpeaggemaaDoor
