/- smithylaw4.LexQuotes returns true. Conditions: the words and the error of api lie in their variables. -/
import Derived.Test.YtjobpcbnolgmnaaDoorLexQTwo
namespace Go.Proofs.YtjobpcbnolgmnaaDoor
open Go.RowKit
open Lx

theorem pieceQ_le (b : UInt8) : (pieceQ b).length ≤ 4 := by unfold pieceQ; split <;> (try split) <;> (try split) <;> (try split) <;> simp
theorem quoteF_le (s : List UInt8) : (quoteF s).length ≤ 4 * s.length + 2 := by
  have : (s.flatMap pieceQ).length ≤ 4 * s.length := by
    induction s with
    | nil => simp
    | cons b s ih => have := pieceQ_le b; rw [List.flatMap_cons, List.length_append, List.length_cons]; omega
  unfold quoteF; rw [List.length_cons, List.length_append, List.length_singleton]; omega
theorem below_join {a b c : World} (h : Below a.heap.size a b) (k : Below b.heap.size b c) : Below a.heap.size a c :=
  h.trans ⟨k.os, k.tape, k.output, k.size, fun i hi => k.block i (Nat.lt_of_lt_of_le hi h.size)⟩
theorem len_data (s : ByteArray) : s.data.toList.length = s.size := by rw [Array.length_toList]; rfl
theorem two_text (s t : List UInt8) : ((((⟨#[91]⟩ : ByteArray) ++ txt (quoteF s)) ++ ⟨#[44, 32]⟩) ++ txt (quoteF t) ++ ⟨#[93]⟩ : ByteArray).data.toList = twoQ s t := by
  simp [twoQ, ByteArray.data_append, data_txt]
def twoT (s t : List UInt8) : List Tok := [⟨4, [91], 0⟩, ⟨3, s, 1⟩, ⟨4, [44], 1 + (quoteF s).length⟩, ⟨3, t, 1 + (quoteF s).length + 2⟩, ⟨4, [93], 1 + (quoteF s).length + 2 + (quoteF t).length⟩,
    ⟨5, [], 1 + (quoteF s).length + 2 + (quoteF t).length + 1⟩, ⟨8, [], 1 + (quoteF s).length + 2 + (quoteF t).length + 1⟩]
theorem scan_quotes (A : Nat → Addr) (s t : List UInt8) (hs : s.length ≤ 200) (ht : t.length ≤ 200) (w : World) (hV : Vars A w) : Calls Tryd.prog 11 #[.string ((((⟨#[91]⟩ : ByteArray) ++ txt (quoteF s)) ++ ⟨#[44, 32]⟩) ++ txt (quoteF t) ++ ⟨#[93]⟩)] w (ScanPost A w (.ok (twoT s t))) := by
  have h := scan_any A ((((⟨#[91]⟩ : ByteArray) ++ txt (quoteF s)) ++ ⟨#[44, 32]⟩) ++ txt (quoteF t) ++ ⟨#[93]⟩) (by
    rw [← len_data, two_text]
    have := quoteF_le s
    have := quoteF_le t
    unfold twoQ
    rw [List.length_cons, List.length_append, List.length_cons, List.length_cons, List.length_append, List.length_singleton]
    omega) w hV
  rw [two_text, scan_two] at h
  exact h
theorem txt_size (l : List UInt8) : (txt l).size = l.length := by unfold txt; rfl
set_option maxRecDepth 10000 in
set_option maxHeartbeats 1600000 in
theorem lexQuotes_any (A : Nat → Addr) (s t : ByteArray) (w : World) (hV : Vars A w) : Calls Tryd.prog 5 #[.string s, .string t] w fun e w' => e = .returned (.bool true) ∧ Below w.heap.size w w' := by
  have HF := hid' (first_any A w hV)
  have HV := hid' hV
  clear hV
  by_cases h1 : s.size ≤ 200
  · by_cases h2 : t.size ≤ 200
    · have hn1 : ¬ (200 : Int) < (s.size : Int) := by omega
      have hn2 : ¬ (200 : Int) < (t.size : Int) := by omega
      obtain ⟨p, hp⟩ : ∃ p, txt (quoteF s.data.toList) = p := ⟨_, rfl⟩
      obtain ⟨q, hq⟩ : ∃ q, txt (quoteF t.data.toList) = q := ⟨_, rfl⟩
      have HQ1 : Hid (∀ w, Calls Tryd.prog 18 #[.string s] w fun e w' => e = .returned (.string p) ∧ Below w.heap.size w w') := hid' (fun w => by rw [← hp]; exact quote_any s (by omega) w)
      have HQ2 : Hid (∀ w, Calls Tryd.prog 18 #[.string t] w fun e w' => e = .returned (.string q) ∧ Below w.heap.size w w') := hid' (fun w => by rw [← hq]; exact quote_any t (by omega) w)
      have hps : p.size ≤ 802 := by rw [← hp, txt_size]; have := quoteF_le s.data.toList; have h : s.data.toList.length = s.size := by rw [Array.length_toList]; rfl
                                    omega
      have hqs : q.size ≤ 802 := by rw [← hq, txt_size]; have := quoteF_le t.data.toList; have h : t.data.toList.length = t.size := by rw [Array.length_toList]; rfl
                                    omega
      have HSC : Hid (∀ w, Vars A w → Calls Tryd.prog 11 #[.string ((((⟨#[91]⟩ : ByteArray) ++ p) ++ ⟨#[44, 32]⟩) ++ q ++ ⟨#[93]⟩)] w (ScanPost A w (.ok (twoT s.data.toList t.data.toList)))) := hid' (fun w hw => by
        rw [← hp, ← hq]
        exact scan_quotes A _ _ (by rw [len_data]; exact h1) (by rw [len_data]; exact h2) w hw)
      clear hp hq
      go_enter Tryd.func5, Tryd.ntmps5
      go_wp2_with fail
      refine (HF.out).mono ?_
      rintro e w1 ⟨rfl, b1⟩
      have HB1 := hid' b1
      have HV1 := hid' (HV.out.below b1)
      have hz1 := b1.size
      clear HF HV b1
      go_wp2_with fail
      refine (HQ1.out _).mono ?_
      rintro e w2 ⟨rfl, b2⟩
      go_wp2_with fail
      refine (HQ2.out _).mono ?_
      rintro e w3 ⟨rfl, b3⟩
      have hz2 := b2.size
      have hz3 := b3.size
      have HB3 := hid' (below_join (below_join HB1.out b2) b3)
      have HV3 := hid' ((HV1.out.below b2).below b3)
      clear HB1 HV1 b2 b3 HQ1 HQ2
      go_wp2_with fail
      refine (HSC.out _ HV3.out).mono ?_
      intro e w4 hpost
      obtain ⟨b4, ao, cap, rfl, hts⟩ := hpost
      rcases hts with h0 | ⟨g, rfl, hg, hx⟩
      · cases h0
      rw [show (twoT s.data.toList t.data.toList).length = 7 from rfl]
      have c1 := (hx 1 _ rfl).1
      have c2 := (hx 1 _ rfl).2.1
      have c3 := (hx 1 _ rfl).2.2
      have c4 := (hx 3 _ rfl).1
      have c5 := (hx 3 _ rfl).2.1
      have c6 := (hx 5 _ rfl).1
      have c7 := (hx 6 _ rfl).1
      simp only [txt_data] at c2 c5
      have HB4 := hid' (below_join HB3.out b4)
      clear HSC HV3 hx HB3 b4 hz1 hz2 hz3
      go_wp2
      go_ret
      exact ⟨rfl, HB4.out⟩
    · have hn2 : (200 : Int) < (t.size : Int) := by omega
      have hn1 : ¬ (200 : Int) < (s.size : Int) := by omega
      go_enter Tryd.func5, Tryd.ntmps5
      go_wp2_with fail
      refine (HF.out).mono ?_
      rintro e w1 ⟨rfl, b1⟩
      have HB1 := hid' b1
      clear b1
      go_wp2
      go_ret
      exact ⟨rfl, HB1.out⟩
  · have hn1 : (200 : Int) < (s.size : Int) := by omega
    go_enter Tryd.func5, Tryd.ntmps5
    go_wp2_with fail
    refine (HF.out).mono ?_
    rintro e w1 ⟨rfl, b1⟩
    have HB1 := hid' b1
    clear b1
    go_wp2
    go_ret
    exact ⟨rfl, HB1.out⟩
end Go.Proofs.YtjobpcbnolgmnaaDoor
