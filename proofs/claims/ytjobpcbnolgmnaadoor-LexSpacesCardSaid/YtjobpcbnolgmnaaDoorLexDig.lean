/- What the scanner makes of a name, a sign and digits. No conditions. -/
import Derived.Test.YtjobpcbnolgmnaaDoorLexQTwo
namespace Go.Proofs.YtjobpcbnolgmnaaDoor
open Lx

theorem lenF_all (p : UInt8 → Bool) (s : List UInt8) (r : List UInt8) (hs : ∀ b ∈ s, p b = true) (hr : lenF p r = 0) : lenF p (s ++ r) = s.length := by
  induction s with
  | nil => exact hr
  | cons b s ih =>
    show (if p b then lenF p (s ++ r) + 1 else 0) = s.length + 1
    rw [if_pos (hs b (by simp)), ih (fun x hx => hs x (by simp [hx]))]
/-- The end of the text: a letter, or nothing. -/
def tailD (letter : Bool) : List UInt8 := if letter then [97] else []
/-- x, a sign, and digits. -/
def digT (s : List UInt8) (letter : Bool) : List UInt8 := 120 :: 32 :: 61 :: 32 :: (s ++ tailD letter)
def badD (s : List UInt8) (letter : Bool) : Bool := letter || (decide (600 < s.length) || (decide (1 < s.length) && s.headD 0 == 48))
def okD (s : List UInt8) : List Tok := [⟨1, [120], 0⟩, ⟨4, [61], 2⟩, ⟨2, s, 4⟩, ⟨5, [], 4 + s.length⟩, ⟨8, [], 4 + s.length⟩]
theorem tok_digits (op : List UInt8) (c : UInt8) (s : List UInt8) (letter : Bool) (hc : lt c = false) (hd : dg c = true) (hs : ∀ b ∈ s, dg b = true) :
    tokF op ((c :: s) ++ tailD letter) = if badD (c :: s) letter then .bad 0 else .ok 2 (c :: s) (s.length + 1) op := by
  have hl : lenF dg ((c :: s) ++ tailD letter) = s.length + 1 := lenF_all dg (c :: s) _ (by intro b hb; rcases List.mem_cons.1 hb with rfl | h; exact hd; exact hs b h) (by cases letter <;> rfl)
  have htk : ((c :: s) ++ tailD letter).take (s.length + 1) = c :: s := by rw [show s.length + 1 = (c :: s).length from rfl, List.take_left]
  have hdr : ((c :: s) ++ tailD letter).drop (s.length + 1) = tailD letter := by rw [show s.length + 1 = (c :: s).length from rfl, List.drop_left]
  have hu : tokF op ((c :: s) ++ tailD letter) = if 600 < lenF dg ((c :: s) ++ tailD letter) || ((1 < lenF dg ((c :: s) ++ tailD letter) && c == 48) || 0 < lenF lt (((c :: s) ++ tailD letter).drop (lenF dg ((c :: s) ++ tailD letter)))) then .bad 0 else .ok 2 (((c :: s) ++ tailD letter).take (lenF dg ((c :: s) ++ tailD letter))) (lenF dg ((c :: s) ++ tailD letter)) op := by
    show (if lt c then _ else if dg c then _ else _) = _
    rw [hc, hd]; rfl
  rw [hu, hl, htk, hdr]
  have hb : (decide (600 < s.length + 1) || ((decide (1 < s.length + 1) && c == 48) || decide (0 < lenF lt (tailD letter)))) = badD (c :: s) letter := by
    unfold badD
    cases letter
    · simp [tailD, lenF]
    · have : lenF lt (tailD true) = 1 := by decide
      rw [this]; simp
  rw [hb]
theorem scan_dig (c : UInt8) (s : List UInt8) (letter : Bool) (hc : lt c = false) (hd : dg c = true) (h32 : c ≠ 32) (h35 : c ≠ 35) (h10 : c ≠ 10) (hs : ∀ b ∈ s, dg b = true) :
    scanF (digT (c :: s) letter) = if badD (c :: s) letter then .bad 4 else .ok (okD (c :: s)) := by
  unfold scanF
  obtain ⟨k, hk⟩ : ∃ k, 2 * (digT (c :: s) letter).length + 2 = k + 5 := ⟨2 * (digT (c :: s) letter).length + 2 - 5, by simp [digT]; omega⟩
  rw [hk]
  have ht := tok_digits [] c s letter hc hd hs
  unfold digT
  rw [start_line (by decide) (by decide) (by decide)]
  rw [mid_tok (k := 1) (m := 1) (g := 1) (tx := [120]) (op' := []) (r := 32 :: 61 :: 32 :: (c :: s ++ tailD letter)) (r' := 61 :: 32 :: (c :: s ++ tailD letter)) rfl (by rfl) rfl (gapF_one _ _ (by decide) (by decide)) rfl]
  rw [mid_tok (k := 4) (m := 1) (g := 1) (tx := [61]) (op' := []) (r := 32 :: (c :: s ++ tailD letter)) (r' := (c :: s ++ tailD letter)) rfl (by rfl) rfl (gapF_one _ _ h32 h35) rfl]
  have he : ends (c :: s ++ tailD letter) = false := beq_eq_false_iff_ne.2 h10
  cases hb : badD (c :: s) letter with
  | true =>
    rw [hb, if_pos rfl] at ht
    rw [if_pos rfl, goF_mid_tok _ _ _ _ he]
    show (match tokF [] (c :: s ++ tailD letter) with | .bad j => RR.bad (4 + j) | .ok k t m op => _) = _
    rw [ht]
  | false =>
    rw [hb, if_neg (by decide)] at ht
    have hlf : letter = false := by
      cases letter
      · rfl
      · simp [badD] at hb
    subst hlf
    have ed : (c :: s) ++ tailD false = c :: s := by simp [tailD]
    rw [ed] at ht he
    rw [if_neg (by decide), ed, mid_tok (k := 2) (m := s.length + 1) (g := 0) (tx := c :: s) (op' := []) (r := []) (r' := []) he ht (List.drop_eq_nil_of_le (by simp)) (by rfl) rfl]
    rw [last_end]
    rfl
end Go.Proofs.YtjobpcbnolgmnaaDoor
