/- The words of a text, byte by byte; what the library tells rune by rune is the same. No conditions. -/
import Derived.Test.YtdiocmcfaneajaaGreatDoorStWb
import Derived.Lib.FieldsP
namespace Go.Proofs.YtdiocmcfaneajaaGreatDoor
open Go.RowKit
open Lx
namespace St

/-- Is a byte between words? -/
def isBl (c : UInt8) : Bool := blR c.toNat
/-- The words of a text, behind what the last one has so far. -/
def wordsG : L → L → List L
  | cur, [] => if cur = [] then [] else [cur]
  | cur, c :: t => if isBl c = true then (if cur = [] then wordsG [] t else cur :: wordsG [] t) else wordsG (cur ++ [c]) t
def wordsF (s : L) : List L := wordsG [] s
theorem words_run : ∀ (u : L) (cur t : L), (∀ c ∈ u, isBl c = false) → wordsG cur (u ++ t) = wordsG (cur ++ u) t
  | [], cur, t, _ => by simp
  | c :: u, cur, t, h => by
    have h1 := h c (List.mem_cons_self ..)
    rw [List.cons_append, wordsG, h1, if_neg (by decide), words_run u (cur ++ [c]) t (fun d hd => h d (List.mem_cons_of_mem _ hd)), List.append_assoc]
    rfl
theorem dec_cases (n b0 b1 b2 b3 : Nat) (hn : 1 ≤ n) : (b0 < 128 ∧ Lib.decodeN n b0 b1 b2 b3 = (b0, 1)) ∨ (128 ≤ b0 ∧ 128 ≤ (Lib.decodeN n b0 b1 b2 b3).1 ∧ (Lib.decodeN n b0 b1 b2 b3).2 ≤ n ∧ 1 ≤ (Lib.decodeN n b0 b1 b2 b3).2 ∧ (Lib.decodeN n b0 b1 b2 b3).2 ≤ 4 ∧
    (2 ≤ (Lib.decodeN n b0 b1 b2 b3).2 → 128 ≤ b1) ∧ (3 ≤ (Lib.decodeN n b0 b1 b2 b3).2 → 128 ≤ b2) ∧ (4 ≤ (Lib.decodeN n b0 b1 b2 b3).2 → 128 ≤ b3)) := by
  unfold Lib.decodeN
  by_cases h : b0 < 128
  · exact .inl ⟨h, by rw [if_pos h]⟩
  · refine .inr ?_
    rw [if_neg h]
    repeat' split
    all_goals (simp only; omega)
theorem get_bang (s : ByteArray) (j : Nat) (h : j < s.size) : s.data.toList[j]? = some (s.get! j) := by
  have h1 : j < s.data.toList.length := by rw [size_data]; exact h
  rw [List.getElem?_eq_getElem h1]
  simp [ByteArray.get!, getElem!_pos, h]
/-- At a place: one byte that is a rune; or some bytes, none of them a blank, and their rune is no blank. -/
theorem rune_at (s : ByteArray) (pos : Nat) (hp : pos < s.size) : pos + (Utf8.decode s pos).2 ≤ s.size ∧ 1 ≤ (Utf8.decode s pos).2 ∧
    ((∃ c, s.data.toList[pos]? = some c ∧ (Utf8.decode s pos).1 = c.toNat ∧ (Utf8.decode s pos).2 = 1) ∨
     (blR (Utf8.decode s pos).1 = false ∧ ∀ c ∈ (s.data.toList.drop pos).take (Utf8.decode s pos).2, isBl c = false)) := by
  rw [Lib.decode_at]
  rcases dec_cases (s.size - pos) (s.get! pos).toNat (s.get! (pos + 1)).toNat (s.get! (pos + 2)).toNat (s.get! (pos + 3)).toNat (by omega) with ⟨h1, h2⟩ | ⟨h1, h2, h3, h4, h5, h6, h7, h8⟩
  · rw [h2]
    exact ⟨by show pos + 1 ≤ s.size; omega, Nat.le_refl _, .inl ⟨s.get! pos, get_bang s pos hp, rfl, rfl⟩⟩
  · generalize Lib.decodeN (s.size - pos) (s.get! pos).toNat (s.get! (pos + 1)).toNat (s.get! (pos + 2)).toNat (s.get! (pos + 3)).toNat = d at h2 h3 h4 h5 h6 h7 h8 ⊢
    refine ⟨by omega, h4, .inr ⟨by unfold blR; rw [decide_eq_false (by omega)], fun c hc => ?_⟩⟩
    obtain ⟨j, hj, e⟩ := List.getElem_of_mem hc
    rw [List.length_take, List.length_drop, size_data] at hj
    have hge : 128 ≤ c.toNat := by
      have hg := get_bang s (pos + j) (by omega)
      have e2 : s.data.toList[pos + j]? = some c := by
        have h9 := List.getElem?_eq_some_iff.2 ⟨by rw [List.length_take, List.length_drop, size_data]; exact hj, e⟩
        rw [List.getElem?_take, if_pos (by omega), List.getElem?_drop] at h9
        exact h9
      rw [e2] at hg
      obtain rfl := Option.some.inj hg
      have h10 : j = 0 ∨ j = 1 ∨ j = 2 ∨ j = 3 := by omega
      rcases h10 with rfl | rfl | rfl | rfl
      · exact h1
      · exact h6 (by omega)
      · exact h7 (by omega)
      · exact h8 (by omega)
    unfold isBl blR
    rw [decide_eq_false (by omega)]
open Lib in
theorem spans_words (s : ByteArray) : ∀ (f pos : Nat) (st : Option Nat) (acc : List (Nat × Nat)), s.size ≤ pos + f → pos ≤ s.size → (∀ a, st = some a → a < pos) →
    acc.map (fun p => pieceU s.data.toList p.1 p.2) ++ wordsG (openPiece s.data.toList st pos) (s.data.toList.drop pos) = (closeSpans s (spansFromP blR s f pos st acc)).map (fun p => pieceU s.data.toList p.1 p.2)
  | 0, pos, st, acc, h, hp, hst => by
    obtain rfl : pos = s.size := by omega
    have hd : s.data.toList.drop s.size = [] := List.drop_eq_nil_of_le (by rw [size_data]; exact Nat.le_refl _)
    rw [hd, wordsG]
    cases st with
    | none => simp [spansFromP, closeSpans, openPiece]
    | some a =>
      have := pieceU_ne s.data.toList a s.size (hst a rfl) (by rw [size_data]; exact Nat.le_refl _)
      simp [spansFromP, closeSpans, openPiece, this]
  | f + 1, pos, st, acc, h, hp, hst => by
    by_cases hlt : pos < s.size
    · obtain ⟨hwn, hw, hcs⟩ := rune_at s pos hlt
      have hsplit : s.data.toList.drop pos = (s.data.toList.drop pos).take (Utf8.decode s pos).2 ++ s.data.toList.drop (pos + (Utf8.decode s pos).2) := by
        conv => lhs; rw [← List.take_append_drop (Utf8.decode s pos).2 (s.data.toList.drop pos), List.drop_drop]
      simp only [spansFromP, if_pos hlt]
      cases hsp : blR (Utf8.decode s pos).1 with
      | true =>
        rcases hcs with ⟨c, hc, hR, hK⟩ | ⟨hno, _⟩
        · have hbl : isBl c = true := by unfold isBl; rw [← hR]; exact hsp
          have hd : s.data.toList.drop pos = c :: s.data.toList.drop (pos + 1) := by
            obtain ⟨hl, e⟩ := List.getElem?_eq_some_iff.1 hc
            rw [List.drop_eq_getElem_cons hl, e]
          rw [hK] at hwn ⊢
          simp only [if_true]
          rw [hd, wordsG, if_pos hbl]
          cases st with
          | none =>
            have ih := spans_words s f (pos + 1) none acc (by omega) hwn (fun a h => by cases h)
            simpa [openPiece] using ih
          | some a =>
            have hpn := pieceU_ne s.data.toList a pos (hst a rfl) (by rw [size_data]; omega)
            have ih := spans_words s f (pos + 1) none (acc ++ [(a, pos)]) (by omega) hwn (fun a h => by cases h)
            simpa [openPiece, hpn] using ih
        · rw [hno] at hsp
          cases hsp
      | false =>
        have hall : ∀ c ∈ (s.data.toList.drop pos).take (Utf8.decode s pos).2, isBl c = false := by
          rcases hcs with ⟨c, hc, hR, hK⟩ | ⟨_, h2⟩
          · intro d hd
            rw [hK] at hd
            obtain ⟨hl, e⟩ := List.getElem?_eq_some_iff.1 hc
            rw [List.drop_eq_getElem_cons hl, e] at hd
            obtain rfl : d = c := by simpa using hd
            unfold isBl
            rw [← hR]
            exact hsp
          · exact h2
        simp only [Bool.false_eq_true, if_false]
        rw [hsplit, words_run _ _ _ hall]
        cases st with
        | none =>
          have ih := spans_words s f (pos + (Utf8.decode s pos).2) (some pos) acc (by omega) hwn (fun a h => by cases h; omega)
          have e : ([] : List UInt8) ++ (s.data.toList.drop pos).take (Utf8.decode s pos).2 = pieceU s.data.toList pos (pos + (Utf8.decode s pos).2) := by
            unfold pieceU
            rw [List.nil_append, Nat.add_sub_cancel_left]
          simp only [openPiece] at ih ⊢
          rw [e]
          exact ih
        | some a =>
          have ih := spans_words s f (pos + (Utf8.decode s pos).2) (some a) acc (by omega) hwn (fun b h => by cases h; have := hst a rfl; omega)
          simp only [openPiece] at ih ⊢
          rw [pieceU_grow _ _ _ _ (Nat.le_of_lt (hst a rfl))]
          exact ih
    · obtain rfl : pos = s.size := by omega
      have hd : s.data.toList.drop s.size = [] := List.drop_eq_nil_of_le (by rw [size_data]; exact Nat.le_refl _)
      rw [hd, wordsG, spansFromP_end blR s _ _ _ _ hlt]
      cases st with
      | none => simp [closeSpans, openPiece]
      | some a =>
        have := pieceU_ne s.data.toList a s.size (hst a rfl) (by rw [size_data]; exact Nat.le_refl _)
        simp [closeSpans, openPiece, this]
theorem words_eq (s : ByteArray) : Lib.goFieldsP blR s = texts (wordsF s.data.toList) := by
  have h := spans_words s s.size 0 none [] (by omega) (by omega) (fun a h => by cases h)
  simp only [List.map_nil, List.nil_append, List.drop_zero, Lib.openPiece] at h
  unfold wordsF texts Lib.goFieldsP Lib.spansOfP
  rw [h, List.map_map]
  refine List.map_congr_left fun x _ => ?_
  apply ByteArray.ext
  apply Array.toList_inj.1
  rw [ext_data]
  rfl
end St
end Go.Proofs.YtdiocmcfaneajaaGreatDoor
