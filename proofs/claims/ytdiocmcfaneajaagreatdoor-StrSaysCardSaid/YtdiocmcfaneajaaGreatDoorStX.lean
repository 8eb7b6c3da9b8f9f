/- What smithyworld.Texts answers; what is known of words that are put together. Conditions: short lists. -/
import Derived.Test.YtdiocmcfaneajaaGreatDoorStW
import Derived.Test.YtdiocmcfaneajaaGreatDoorStNu
namespace Go.Proofs.YtdiocmcfaneajaaGreatDoor
open Go.RowKit
open Lx
namespace St

def fewF (xs : List ByteArray) (most long : Nat) : Bool := decide (xs.length ≤ most) && xs.all fun x => decide (x.size ≤ long)
set_option maxRecDepth 100000 in
set_option maxHeartbeats 1600000 in
theorem few_any (ao : Option Addr) (cap n : Nat) (xs : List ByteArray) (most long : Nat) (w : World) (hn : xs.length = n) (hm : most ≤ 1000000) (hX : Txs w ao xs) :
    Calls Tryz.prog 6 #[.slice ao n cap, .int .i64 (most : Int), .int .i64 (long : Int)] w fun e w' => e = .returned (.bool (fewF xs most long)) ∧ w' = w := by
  have HX := hidden hX
  have HN := hidden hn
  have HF : Hid (fewF xs most long = (decide (n ≤ most) && xs.all fun x => decide (x.size ≤ long))) := hidden (by rw [fewF, hn])
  generalize fewF xs most long = R at HF ⊢
  clear hX hn
  by_cases h1 : most < n
  · have hR : Hid (R = false) := hidden (by rw [HF.out, decide_eq_false (by omega)]; rfl)
    go_enter Tryz.func6, Tryz.ntmps6
    go_wp2
    go_ret
    exact ⟨ret_bool hR.out.symm, rfl⟩
  · go_enter Tryz.func6, Tryz.ntmps6
    go_wp2
    go_loop [7] (fun i => ∃ k : Nat, k ≤ n ∧ i = .int .i64 k ∧ Hid (((xs.take k).all fun x => decide (x.size ≤ long)) = true)) (fun i => n - (intOf i).toNat)
    case atStart => exact ⟨0, Nat.zero_le _, rfl, hidden rfl⟩
    case round =>
      obtain ⟨k, hk, rfl, hall⟩ := hrel
      by_cases hlt : k < n
      · have hlt' : k < xs.length := by have := HN.out; omega
        obtain ⟨bk, o, rfl, _, hc⟩ := HX.out.at k hlt'
        have hts : Hid (xs.take (k + 1) = xs.take k ++ [xs[k]]) := hidden (List.take_succ_eq_append_getElem hlt')
        have hmem : Hid (xs[k] ∈ xs) := hidden (List.getElem_mem hlt')
        obtain ⟨x, hx⟩ : ∃ x, xs[k] = x := ⟨_, rfl⟩
        rw [hx] at hc hts hmem
        clear hx
        by_cases h2 : long < x.size
        · have hR : Hid (R = false) := hidden (by
            rw [HF.out]
            have : (xs.all fun x => decide (x.size ≤ long)) = false := by
              rw [← Bool.not_eq_true, List.all_eq_true]
              intro h
              have := h x hmem.out
              rw [decide_eq_true_eq] at this
              omega
            rw [this, Bool.and_false])
          go_wp2
          go_ret
          exact ⟨ret_bool hR.out.symm, rfl⟩
        · have R1 : Hid (((xs.take (k + 1)).all fun x => decide (x.size ≤ long)) = true) := hidden (by
            rw [hts.out, List.all_append, hall.out, List.all_cons, decide_eq_true (by omega)]; rfl)
          go_wp2
          go_round
          case rel => exact ⟨k + 1, by omega, by go_num, R1⟩
          case measure => simp [intOf]; omega
      · have hR : Hid (R = true) := hidden (by
          have h3 := hall.out
          rw [List.take_of_length_le (by have := HN.out; omega)] at h3
          rw [HF.out, h3, decide_eq_true (by omega)]; rfl)
        go_wp2
        go_ret
        exact ⟨ret_bool hR.out.symm, rfl⟩

/-- A text that begins with a blank, or has nothing. -/
theorem words_blank (c : UInt8) (t : L) (h : isBl c = true) : wordsG [] (c :: t) = wordsG [] t := by rw [wordsG, if_pos h, if_pos rfl]
theorem words_blanks : ∀ (u t : L), (∀ c ∈ u, isBl c = true) → wordsG [] (u ++ t) = wordsG [] t
  | [], _, _ => rfl
  | c :: u, t, h => by rw [List.cons_append, words_blank c _ (h c (List.mem_cons_self ..)), words_blanks u t fun d hd => h d (List.mem_cons_of_mem _ hd)]
theorem words_word (w : L) (c : UInt8) (t : L) (hw : ∀ d ∈ w, isBl d = false) (hc : isBl c = true) : wordsG [] (w ++ c :: t) = (if w = [] then [] else [w]) ++ wordsG [] (c :: t) := by
  rw [words_run w [] _ hw, List.nil_append, wordsG, if_pos hc, words_blank c t hc]
  by_cases h : w = []
  · rw [if_pos h, if_pos h, List.nil_append]
  · rw [if_neg h, if_neg h]
    rfl
/-- The text S, whatever blank comes behind it, has these words. -/
def Has (S : L) (W : List L) : Prop := ∀ c t, isBl c = true → wordsG [] (S ++ c :: t) = W ++ wordsG [] (c :: t)
theorem has_nil : Has [] [] := fun _ _ _ => rfl
theorem Has.more {S : L} {W : List L} (h : Has S W) (b : UInt8) (u w : L) (hb : isBl b = true) (hu : ∀ c ∈ u, isBl c = true) (hw : ∀ c ∈ w, isBl c = false) : Has (S ++ (b :: u) ++ w) (W ++ (if w = [] then [] else [w])) := fun c t hc => by
  rw [List.append_assoc, List.append_assoc, List.cons_append, h b _ hb, words_blank b _ hb, words_blanks u _ hu, words_word w c t hw hc, List.append_assoc]
theorem Has.all {S : L} {W : List L} (h : Has S W) : wordsF (S ++ [32, 32]) = W := by
  have := h 32 [32] (by decide)
  rw [wordsF, this]
  have e : wordsG [] [32, 32] = [] := by decide
  rw [e, List.append_nil]
/-- Words with one blank between them. -/
theorem words_join : ∀ W : List L, (∀ w ∈ W, w ≠ [] ∧ ∀ c ∈ w, isBl c = false) → wordsF (joinF [32] W) = W
  | [], _ => rfl
  | [w], h => by
    obtain ⟨h1, h2⟩ := h w (List.mem_cons_self ..)
    have h3 := words_run w [] [] h2
    rw [List.append_nil, List.nil_append] at h3
    show wordsG [] (w ++ [].flatMap _) = [w]
    rw [List.flatMap_nil, List.append_nil, h3, wordsG, if_neg h1]
  | w :: v :: W, h => by
    obtain ⟨h1, h2⟩ := h w (List.mem_cons_self ..)
    have ih := words_join (v :: W) fun x hx => h x (List.mem_cons_of_mem _ hx)
    rw [join_cons _ _ _ (by simp)]
    show wordsG [] (w ++ 32 :: joinF [32] (v :: W)) = _
    rw [words_word w 32 _ h2 (by decide), if_neg h1, words_blank 32 _ (by decide)]
    rw [wordsF] at ih
    rw [ih]
    rfl
theorem join_size : ∀ (W : List L) (b : Nat), (∀ w ∈ W, w.length ≤ b) → (joinF [32] W).length ≤ W.length * (b + 1)
  | [], _, _ => by simp [joinF]
  | [w], b, h => by
    have := h w (List.mem_cons_self ..)
    simp [joinF]
    omega
  | w :: v :: W, b, h => by
    have h1 := h w (List.mem_cons_self ..)
    have ih := join_size (v :: W) b fun x hx => h x (List.mem_cons_of_mem _ hx)
    have e : (w :: v :: W).length = (v :: W).length + 1 := rfl
    rw [join_cons _ _ _ (by simp), List.length_append, List.length_append, e, Nat.succ_mul]
    simp only [List.length_singleton]
    omega
/-- A text's bytes that are no blanks. -/
def nbF (l : L) : L := l.filter fun c => !isBl c
theorem nb_no (l : L) : ∀ c ∈ nbF l, isBl c = false := fun c hc => by
  have := (List.mem_filter.1 hc).2
  simpa using this
theorem nb_snoc (l : L) (c : UInt8) : nbF (l ++ [c]) = nbF l ++ (if isBl c = true then [] else [c]) := by
  unfold nbF
  rw [List.filter_append]
  by_cases h : isBl c = true
  · rw [if_pos h]; simp [h]
  · rw [if_neg h]; simp [h]
theorem nb_len (l : L) : (nbF l).length ≤ l.length := List.length_filter_le ..
theorem strip_head (p : UInt8 → Bool) (r : Bool) (s : L) (c : UInt8) (t : L) (h : stripF p true r s = c :: t) : p c = false := by
  unfold stripF at h
  simp only [if_true] at h
  cases r with
  | false => exact dropWhile_head p s c t (by simpa using h)
  | true =>
    simp only [if_true] at h
    obtain ⟨b, hb⟩ := right_prefix p (s.dropWhile p)
    rw [h] at hb
    exact dropWhile_head p s c (t ++ b) (by rw [hb]; rfl)
theorem not_blank (c : UInt8) (h : (setF []).contains c = false) : c.toNat < 9 ∨ 13 < c.toNat ∧ c.toNat ≠ 32 := by
  have hh : ∀ n : Fin 256, (setF []).contains (UInt8.ofNat n.val) = false → n.val < 9 ∨ 13 < n.val ∧ n.val ≠ 32 := by decide +kernel
  exact hh ⟨c.toNat, c.toNat_lt⟩ (by simpa using h)
end St
end Go.Proofs.YtdiocmcfaneajaaGreatDoor
