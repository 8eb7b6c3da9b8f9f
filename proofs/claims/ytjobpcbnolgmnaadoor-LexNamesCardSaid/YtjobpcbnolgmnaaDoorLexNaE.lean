/- smithylaw4.LexNames returns true. Conditions: the words and the error of api lie in their variables. -/
import Derived.Test.YtjobpcbnolgmnaaDoorLexNaC
import Derived.Test.YtjobpcbnolgmnaaDoorLexNaD
import Derived.Test.YtjobpcbnolgmnaaDoorLexQuotesLaw
import Derived.Laws.CopyOwn
import Derived.Laws.Tables
namespace Go.Proofs.YtjobpcbnolgmnaaDoor
open Go.RowKit
open Lx

def zero17 : Array Value := #[.string ⟨#[]⟩, .string ⟨#[]⟩, .string ⟨#[]⟩, .string ⟨#[]⟩, .string ⟨#[]⟩, .string ⟨#[]⟩, .string ⟨#[]⟩, .string ⟨#[]⟩, .string ⟨#[]⟩, .string ⟨#[]⟩, .string ⟨#[]⟩, .string ⟨#[]⟩, .string ⟨#[]⟩, .string ⟨#[]⟩, .string ⟨#[]⟩, .string ⟨#[]⟩, .string ⟨#[]⟩]
theorem words_one : wordsV.all (·.oneCell') = true := by
  unfold wordsV
  rw [Array.all_eq_true']
  intro x hx
  simp only [List.mem_toArray, List.mem_map] at hx
  obtain ⟨l, _, rfl⟩ := hx
  rfl
theorem wordsV_T : wordsV = (wordsT.map Value.string).toArray := by unfold wordsV wordsT; rw [List.map_map]; rfl
theorem row_txs {W : World} {b : Nat} {xs : List ByteArray} {t : TypeId} (h : W.heap[b]? = some (.cells (xs.map Value.string).toArray t (0, 0))) : Txs W (some ⟨b, 0, none⟩) xs := by
  refine .inr ⟨b, 0, rfl, (Array.getElem?_eq_some_iff.1 h).1, fun j x hx => ?_⟩
  rw [cell_of_row W b (0 + j) _ _ _ h, Nat.zero_add, List.getElem?_toArray, List.getElem?_map, hx]
  rfl
theorem run_storeCells_row (w : World) (g : Nat) (t ty : TypeId) (old c' : Array Value) (hg : w.heap[g]? = some (.cells old t (0, 0))) (hi : (Tryd.prog.info? ty).map (·.size) = some c'.size) (ho : old.size = c'.size) (h1 : c'.all (·.oneCell') = true) :
    (storeCells ⟨g, 0, none⟩ c'.toList 0).run Tryd.prog w = .ok () (w.setRow g c') := by
  have := run_storeVar_row (P := Tryd.prog) w g t ty old c' hg hi ho h1
  cases hq : Tryd.prog.info? ty with
  | none => simp [hq] at hi
  | some i =>
    have hs : c'.size = i.size := by simp [hq] at hi; omega
    simpa [storeVar, sizeOf, typeInfo, hq, Value.cells, hs] using this
set_option maxRecDepth 10000 in
set_option maxHeartbeats 400000 in
theorem lexWords_any (w : World) (hw : WordsAt w) : Calls Tryd.prog 15 #[] w fun e w' => ∃ ao, e = .returned (.slice ao wordsT.length 17) ∧ Txs w' ao wordsT ∧ Below w.heap.size w w' := by
  have HW := hid' hw
  have hres : (w.alloc (.cells zero17 66)).heap[w.heap.size]? = some (.cells zero17 66 (0, 0)) := heap_alloc_new _ _
  have HB := hid' (below_setRow ((Below.refl w.heap.size w).alloc (Nat.le_refl _) (.cells zero17 66)) (Nat.le_refl _) wordsV)
  have HT : Hid (Txs ((w.alloc (.cells zero17 66)).setRow w.heap.size wordsV) (some ⟨w.heap.size, 0, none⟩) wordsT) := hid' (row_txs (t := 66) (by
    rw [setRow_heap _ w.heap.size zero17 wordsV 66 (0, 0) hres, wordsV_T]))
  have hsz : zero17.size = wordsV.size := by kernel_rfl
  have hin : (Tryd.prog.info? 66).map (·.size) = some wordsV.size := by rw [← hsz]; exact words_size
  have hst := run_storeCells_row (w.alloc (.cells zero17 66)) w.heap.size _ 66 zero17 wordsV hres hin hsz words_one
  unfold zero17 at hst HT HB
  clear hw
  go_enter Tryd.func15, Tryd.ntmps15
  go_wp2_with (first | ((with_reducible refine at_list ?_); refine wpList_load_mid rfl 66 (.global 1) rfl 1 0 rfl (words.map fun l => Value.string (txt l)) _ HW.out Tryd.underlying66 rfl words_size ?_; rw [show (words.map fun l => Value.string (txt l)).toArray = wordsV from rfl]))
  go_ret
  exact ⟨_, rfl, HT.out, HB.out⟩
theorem words_no : ∀ (j : Nat) (hj : j < wordsT.length), nameB (wordsT[j]).data.toList = false := by decide +kernel
theorem words_small : ∀ (j : Nat) (hj : j < wordsT.length), (wordsT[j]).size ≤ 1000000 := by decide +kernel
theorem names_pack : ∃ wt : List ByteArray, wt.length < 2147483648 ∧ (∀ W, WordsAt W → Calls Tryd.prog 15 #[] W fun e w' => ∃ ao, e = .returned (.slice ao wt.length 17) ∧ Txs w' ao wt ∧ Below W.heap.size W w') ∧
    (∀ W, Calls Tryd.prog 21 #[] W fun e w' => ∃ ao c, e = .returned (.slice ao wt.length c) ∧ Txs w' ao wt ∧ Below W.heap.size W w') ∧
    (∀ (a1 a2 : Option Addr) (c1 c2 : Nat) W, Txs W a1 wt → Txs W a2 wt → Calls Tryd.prog 20 #[.slice a1 wt.length c1, .slice a2 wt.length c2] W fun e w' => e = .returned (.bool true) ∧ Below W.heap.size W w') ∧
    (∀ (k : Nat) (hk : k < wt.length) W, WordsAt W → Calls Tryd.prog 16 #[.string wt[k]] W fun e w' => e = .returned (.bool false) ∧ w' = W) :=
  ⟨wordsT, by decide, lexWords_any, refWords_any, fun a1 a2 c1 c2 W h1 h2 => same_any a1 a2 c1 c2 wordsT W (by decide) h1 h2, fun k hk W hW => by
    have h := lexName_any wordsT[k] (words_small k hk) W hW
    rwa [words_no k hk] at h⟩
set_option maxRecDepth 10000 in
set_option maxHeartbeats 1600000 in
theorem lexNames_any (A : Nat → Addr) (s : ByteArray) (w : World) (hV : Vars A w) : Calls Tryd.prog 4 #[.string s] w fun e w' => e = .returned (.bool true) ∧ Below w.heap.size w w' := by
  have HF := hid' (first_any A w hV)
  have HV := hid' hV
  clear hV
  by_cases h1 : s.size ≤ 300
  · have hn1 : ¬ (300 : Int) < (s.size : Int) := by omega
    obtain ⟨p, hp⟩ : ∃ p, txt (quoteF s.data.toList) = p := ⟨_, rfl⟩
    have HQ1 : Hid (∀ w, Calls Tryd.prog 18 #[.string s] w fun e w' => e = .returned (.string p) ∧ Below w.heap.size w w') := hid' (fun w => by rw [← hp]; exact quote_any s (by omega) w)
    have HQ2 : Hid (∀ w, Calls Tryd.prog 19 #[.string s] w fun e w' => e = .returned (.string p) ∧ Below w.heap.size w w') := hid' (fun w => by rw [← hp]; exact refQuote_any s (by omega) w)
    have HN1 := hid' (fun W (h : WordsAt W) => lexName_any s (by omega) W h)
    have HN2 := hid' (fun W => refName_any s (by omega) W)
    obtain ⟨wt, hlen, hwl, hrw, hsame, hnk⟩ := names_pack
    have HWL := hid' hwl
    have HRW := hid' hrw
    have HSAME := hid' hsame
    have HNK := hid' hnk
    generalize nameB s.data.toList = nb at HN1 HN2
    clear hp hwl hrw hsame hnk
    go_enter Tryd.func4, Tryd.ntmps4
    go_wp2_with fail
    refine (HF.out).mono ?_
    rintro e w1 ⟨rfl, b1⟩
    have HB1 := hid' b1
    have HV1 := hid' (HV.out.below b1)
    clear HF HV b1
    go_wp2_with fail
    refine (HWL.out _ HV1.out.words).mono ?_
    rintro e w2 ⟨ao, rfl, htx, b2⟩
    have HT2 := hid' htx
    have HB2 := hid' (below_join HB1.out b2)
    have HV2 := hid' (HV1.out.below b2)
    clear htx b2 HB1 HV1
    go_wp2
    go_loop [5] (fun i => ∃ k : Nat, k ≤ wt.length ∧ i = .int .i64 k) (fun i => wt.length - (intOf i).toNat)
    case atStart => exact ⟨0, Nat.zero_le _, rfl⟩
    case round =>
      obtain ⟨k, hk, rfl⟩ := hrel
      by_cases hlt : k < wt.length
      · rcases HT2.out with h0 | ⟨b, o, rfl, g3, g4⟩
        · rw [h0] at hlt; exact absurd hlt (by simp)
        · have hc := g4 k _ (List.getElem?_eq_getElem hlt)
          have HNk := hid' (HNK.out k hlt w2 HV2.out.words)
          clear g4
          generalize wt[k] = x at hc HNk
          go_wp2_with fail
          refine (HNk.out).mono ?_
          rintro e w3 ⟨rfl, rfl⟩
          go_wp2
          go_round
          case rel => exact ⟨k + 1, by omega, by go_num⟩
          case measure => simp [intOf]; omega
      · obtain rfl : k = wt.length := by omega
        go_wp2_with fail
        refine (HN1.out _ HV2.out.words).mono ?_
        rintro e w3 ⟨rfl, rfl⟩
        go_wp2_with fail
        refine (HN2.out _).mono ?_
        rintro e w4 ⟨rfl, b4⟩
        have HB4 := hid' (below_join HB2.out b4)
        have HT4 := hid' (HT2.out.below b4)
        clear b4
        obtain ⟨r, hr⟩ : ∃ r, (nb == nb) = r := ⟨_, rfl⟩
        have hr' : r = true := by rw [← hr]; simp
        subst hr'
        go_wp2_with fail
        refine (HQ1.out _).mono ?_
        rintro e w5 ⟨rfl, b5⟩
        have HB5 := hid' (below_join HB4.out b5)
        have HT5 := hid' (HT4.out.below b5)
        clear b5
        go_wp2_with fail
        refine (HQ2.out _).mono ?_
        rintro e w6 ⟨rfl, b6⟩
        have HB6 := hid' (below_join HB5.out b6)
        have HT6 := hid' (HT5.out.below b6)
        clear b6
        go_wp2_with fail
        refine (HRW.out _).mono ?_
        rintro e w7 ⟨ao', c', rfl, htx, b7⟩
        have HB7 := hid' (below_join HB6.out b7)
        have HSA := hid' (HSAME.out ao ao' 17 c' w7 (HT6.out.below b7) htx)
        clear b7 htx
        go_wp2_with fail
        refine (HSA.out).mono ?_
        rintro e w8 ⟨rfl, b8⟩
        have HB8 := hid' (below_join HB7.out b8)
        clear b8
        go_wp2
        go_ret
        exact ⟨rfl, HB8.out⟩
  · have hn1 : (300 : Int) < (s.size : Int) := by omega
    go_enter Tryd.func4, Tryd.ntmps4
    go_wp2_with fail
    refine (HF.out).mono ?_
    rintro e w1 ⟨rfl, b1⟩
    have HB1 := hid' b1
    clear b1
    go_wp2
    go_ret
    exact ⟨rfl, HB1.out⟩
end Go.Proofs.YtjobpcbnolgmnaaDoor
