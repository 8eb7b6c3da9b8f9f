/- Whether a text is a word, or a name. Conditions: short texts; the words lie in their variable. -/
import Derived.Test.YtdiocmcfaneajaaGreatDoorLexLen
import Derived.Deep.MidRow
namespace Go.Proofs.YtdiocmcfaneajaaGreatDoor
open Go.RowKit
open Lx

/-- The words lie in their variable. -/
def WordsAt (w : World) : Prop := w.rangeAt 3 0 (words.map fun l => Value.string (txt l))
theorem WordsAt.below {w w' : World} (h : WordsAt w) (hb : Below w.heap.size w w') : WordsAt w' := fun j v hv => (hb.cell (World.block_lt_of_cell? w _ (h j v hv))).trans (h j v hv)
theorem words_size : (Tryz.prog.info? 145).map (·.size) = some 17 := by kernel_rfl
set_option maxRecDepth 10000 in
theorem words_idx (k : Nat) (hk : k < 17) (W : World) : (Instr.index 145 (.agg wordsV) (.int .i64 (k : Int))).run Tryz.prog W = .ok (.string (txt (words.getD k []))) W := by
  have h' : k = 0 ∨ k = 1 ∨ k = 2 ∨ k = 3 ∨ k = 4 ∨ k = 5 ∨ k = 6 ∨ k = 7 ∨ k = 8 ∨ k = 9 ∨ k = 10 ∨ k = 11 ∨ k = 12 ∨ k = 13 ∨ k = 14 ∨ k = 15 ∨ k = 16 := by omega
  rcases h' with rfl | rfl | rfl | rfl | rfl | rfl | rfl | rfl | rfl | rfl | rfl | rfl | rfl | rfl | rfl | rfl | rfl <;> rfl
/-- Is it one of the words, from the k-th on? -/
def wordFrom (k : Nat) (l : List UInt8) : Bool := (words.drop k).any (· == l)
theorem wordFrom_zero (l : List UInt8) : isWord l = wordFrom 0 l := rfl
theorem wordFrom_at (k : Nat) (hk : k < 17) (l : List UInt8) : wordFrom k l = (words.getD k [] == l || wordFrom (k + 1) l) := by
  have h : k < words.length := hk
  unfold wordFrom
  rw [List.drop_eq_getElem_cons h, List.any_cons, List.getD_eq_getElem?_getD, List.getElem?_eq_getElem h]
  rfl
theorem toList_txt (l : List UInt8) : (txt l).toList = l := by rw [ByteArray.toList_eq]; rfl
theorem data_txt (l : List UInt8) : (txt l).data.toList = l := rfl
theorem txt_data (s : ByteArray) : txt s.data.toList = s := rfl
set_option maxRecDepth 10000 in
set_option maxHeartbeats 400000 in
theorem isWord_any (s : ByteArray) (w : World) (hw : WordsAt w) : Calls Tryz.prog 101 #[.string s] w fun e w' => e = .returned (.bool (isWord s.data.toList)) ∧ w' = w := by
  obtain ⟨L, rfl⟩ : ∃ L, s = txt L := ⟨s.data.toList, rfl⟩
  rw [data_txt]
  obtain ⟨r, hr⟩ : ∃ r, isWord L = r := ⟨_, rfl⟩
  rw [hr]
  have HR := hid' hr
  have HW := hid' hw
  clear hr hw
  go_enter Tryz.func101, Tryz.ntmps101
  go_wp2_with ((with_reducible refine at_list ?_); refine wpList_load_mid rfl 145 (.global 3) rfl 3 0 rfl (words.map fun l => Value.string (txt l)) _ HW.out Tryz.underlying145 rfl words_size ?_)
  rw [show (words.map fun l => Value.string (txt l)).toArray = wordsV from rfl]
  go_loop [6] (fun i => ∃ k : Nat, k ≤ 17 ∧ i = .int .i64 k ∧ Hid (r = wordFrom k L)) (fun i => 17 - (intOf i).toNat)
  case atStart => exact ⟨0, Nat.zero_le _, rfl, hid' (by rw [← HR.out]; rfl)⟩
  case round =>
    obtain ⟨k, hk, rfl, hrest⟩ := hrel
    by_cases hlt : k < 17
    · have hix := words_idx k hlt
      have hlt' : (k : Int) < 17 := by omega
      have hat := wordFrom_at k hlt L
      generalize words.getD k [] = wd at hix hat
      generalize wordsV = wv at hix ⊢
      by_cases he : wd = L
      · subst he
        have hend : Hid (r = true) := hid' (by rw [hrest.out, hat]; simp)
        clear hrest hat
        go_wp2
        go_ret
        exact ⟨ret_bool' hend.out.symm, rfl⟩
      · have hne : ((txt wd).toList == (txt L).toList) = false := by rw [toList_txt, toList_txt, beq_eq_false_iff_ne]; exact he
        have hrest' : Hid (r = wordFrom (k + 1) L) := hid' (by rw [hrest.out, hat, beq_eq_false_iff_ne.2 he]; rfl)
        clear hrest hat he
        go_wp2
        go_round
        case rel => exact ⟨k + 1, by omega, by go_num, hrest'⟩
        case measure => simp [intOf]; omega
    · obtain rfl : k = 17 := by omega
      have hend : Hid (r = false) := hid' (by rw [hrest.out]; rfl)
      generalize wordsV = wv
      go_wp2
      go_ret
      exact ⟨ret_bool' hend.out.symm, rfl⟩
end Go.Proofs.YtdiocmcfaneajaaGreatDoor
