/- What ast.Names and ast.Kids answer. Conditions: the nodes lie below the world's end; at most 2^20. -/
import Derived.Test.YtnjbhcjdlbmmhaaDoorAstSort
import Derived.Test.YtnjbhcjdlbmmhaaDoorAstOwn2
import Derived.Test.YtnjbhcjdlbmmhaaDoorAstAre
namespace Go.Proofs.YtnjbhcjdlbmmhaaDoor
open Go.RowKit
open Lx Ax

namespace Ax
def namesF (l : List Nd) : List ByteArray := (l.filter fun x => x.op == 6).map (·.s)
theorem namesF_snoc (l : List Nd) (x : Nd) : namesF (l ++ [x]) = namesF l ++ if x.op == 6 then [x.s] else [] := by
  unfold namesF
  rw [List.filter_append, List.map_append]
  congr 1
  by_cases h : x.op == 6
  · rw [if_pos h]; simp [h]
  · rw [if_neg h]; simp [h]
theorem namesF_le (l : List Nd) : (namesF l).length ≤ l.length := by
  unfold namesF
  rw [List.length_map]
  exact List.length_filter_le _ _
end Ax
theorem fresh_of {W : World} {B : Nat} {v : Value} {xs : List ByteArray} (h : Tx.Owned W B v xs) : ∃ ao cap, v = .slice ao xs.length cap ∧ Tx.Fresh W B ao cap (xs.map (·.data.toList)) := by
  rcases h.2 with ⟨rfl, h0⟩ | ⟨g, cap, cur, rfl, hB, hg, hc, _, hs, ht⟩
  · obtain rfl : xs = [] := List.eq_nil_of_length_eq_zero h0
    exact ⟨none, 0, rfl, .inl rfl⟩
  · refine ⟨_, cap, rfl, .inr ⟨g, rfl, hB, (Array.getElem?_eq_some_iff.1 hg).1, by simpa using hc, fun j hj => ⟨?_, frozen_of_row W g _ _ _ hg⟩⟩⟩
    have hj' : j < xs.length := by simpa using hj
    rw [Nat.zero_add, cell_of_row W g j _ _ _ hg]
    have h1 : (cur.toList.take (xs.length * 1))[j]? = some (Value.string xs[j]) := by rw [ht, List.getElem?_map, List.getElem?_eq_getElem hj']; rfl
    rw [List.getElem?_take, if_pos (by omega)] at h1
    rw [getElem!_pos _ j hj]
    simpa [encStr] using h1
theorem once_any (B : Nat) (ao : Option Addr) (cap : Nat) (xs : List ByteArray) (n : Nat) (w : World) (hn : n = xs.length) (hl : xs.length < 1000000) (hB : B ≤ w.heap.size) (hF : Tx.Fresh w B ao cap (xs.map (·.data.toList))) :
    Calls Tryd.prog 25 #[.slice ao n cap] w fun e w' => ∃ R : List ByteArray, e = .returned (.slice ao R.length cap) ∧ Tx.SliceOf w' ao cap R ∧ Tx.Rising R ∧ (∀ x, x ∈ R ↔ x ∈ xs) ∧ Below B w w' := by
  subst hn
  have HS := hid' (Tx.Sort_slice B ao xs.length cap _ w (by simp) (by omega) hB hF)
  go_enter Tryd.func25, Tryd.ntmps25
  go_wp2_with fail
  refine (HS.out).mono ?_
  rintro e w1 ⟨rfl, hF1, b1, _⟩
  obtain ⟨cs, hcs⟩ : ∃ cs, Lib.compact (Tx.sorted8 (xs.map (·.data.toList))) = cs := ⟨_, rfl⟩
  have HC := hid' (Tx.Compact_slice B ao xs.length cap _ cs w1 hcs (by simp [Tx.sorted8, List.length_mergeSort]) (by omega) hF1)
  have HCS := hid' hcs
  have HB1 := hid' b1
  clear hF1 b1 hcs hF
  go_wp2_with fail
  refine (HC.out).mono ?_
  rintro e w2 ⟨rfl, hF2, b2, _⟩
  have HF2 := hid' hF2
  have HB2 := hid' (HB1.out.trans b2)
  clear hF2 b2
  go_wp2
  go_ret
  have hsp : (Tx.sorted8 (xs.map (·.data.toList))).Pairwise (fun a b => a ≤ b) := by
    have h := List.pairwise_mergeSort (le := fun x y : List UInt8 => decide (x ≤ y)) (fun a b c h1 h2 => by
      simp only [decide_eq_true_eq] at *; exact List.le_trans h1 h2) (fun a b => by simp only [Bool.or_eq_true, decide_eq_true_eq]; exact List.le_total a b) (xs.map (·.data.toList))
    exact h.imp fun h => by simpa using h
  have hup := Tx.compact_up hsp
  rw [HCS.out] at hup
  refine ⟨cs.map txt, by rw [List.length_map]; rfl, ?_, ?_, fun x => ?_, HB2.out⟩
  · rcases HF2.out with h | ⟨g, h1, h2, h3, h4, h5⟩
    · left; rw [h]; rfl
    · refine .inr ⟨g, 0, h1, by simpa using h4, h3, fun j z hz => ?_⟩
      rw [List.getElem?_map] at hz
      obtain ⟨y, hy, rfl⟩ := Option.map_eq_some_iff.1 hz
      have hj := (List.getElem?_eq_some_iff.1 hy).1
      have h6 := (h5 j (by simpa using hj)).1
      rw [h6, getElem!_pos _ _ (by simpa using hj)]
      have h7 := (List.getElem?_eq_some_iff.1 hy).2
      simp [encStr, h7, txt]
  · unfold Tx.Rising
    rw [List.pairwise_map]
    exact hup.imp fun h => h
  · have hperm : ∀ q, q ∈ Tx.sorted8 (xs.map (·.data.toList)) ↔ q ∈ xs.map (·.data.toList) := fun q => (List.mergeSort_perm _ _).mem_iff
    rw [List.mem_map]
    constructor
    · rintro ⟨q, hq, rfl⟩
      rw [← HCS.out] at hq
      have := (hperm q).1 (Tx.mem_compact hq)
      obtain ⟨y, hy, e⟩ := List.mem_map.1 this
      rw [← e]; exact hy
    · intro hx
      refine ⟨x.data.toList, ?_, rfl⟩
      rw [← HCS.out]
      exact Tx.in_compact ((hperm _).2 (List.mem_map.2 ⟨x, hx, rfl⟩))
set_option maxRecDepth 10000 in
set_option maxHeartbeats 800000 in
theorem names_any (n : Nat) (ao : Option Addr) (cap : Nat) (l : List Nd) (w : World) (hl : l.length ≤ 100000) (hN : NodesAt n w ao l) (hn : n ≤ w.heap.size) :
    Calls Tryd.prog 14 #[.slice ao l.length cap] w fun e w' => ∃ a2 c2, ∃ R : List ByteArray, e = .returned (.slice a2 R.length c2) ∧ Tx.SliceOf w' a2 c2 R ∧ Tx.Rising R ∧ (∀ x, x ∈ R ↔ x ∈ namesF l) ∧ Below w.heap.size w w' := by
  have HN := hid' hN
  clear hN
  go_enter Tryd.func14, Tryd.ntmps14
  go_wp2
  go_loopw [3, 7] (fun v i wr => ∃ (k : Nat), k ≤ l.length ∧ i = .int .i64 k ∧ Hid (Tx.Owned wr w.heap.size v (namesF (l.take k))) ∧ Hid (Below w.heap.size w wr)) (fun _ i _ => l.length - (intOf i).toNat)
  case atStart => exact ⟨0, Nat.zero_le _, rfl, hid' ⟨rfl, .inl ⟨rfl, rfl⟩⟩, hid' (Below.refl _ _)⟩
  case round =>
    obtain ⟨k, hk, rfl, ho, hb⟩ := hrel
    have hwr := hb.out.size
    by_cases hlt : k < l.length
    · have hlt' : (k : Int) < (l.length : Int) := by omega
      obtain ⟨b, kv, hao, hbn, hnode⟩ := (HN.out.keep (hb.out.mono hn) (Nat.le_refl _)).node k hlt
      have hc0 := hnode.op
      have hc3 := hnode.text
      have htk := List.take_succ_eq_append_getElem hlt
      have hle : (namesF (l.take k)).length ≤ 100000 := by have := namesF_le (l.take k); rw [List.length_take] at this; omega
      generalize l[k] = x at hc0 hc3 htk
      have HTK := hid' htk
      subst hao
      obtain ⟨vao, vc, rfl, _⟩ := ho.out.slice
      clear hnode htk
      by_cases h6 : x.op = 6
      · rw [h6] at hc0
        have HNX : Hid (namesF (l.take (k + 1)) = namesF (l.take k) ++ [x.s]) := hid' (by rw [HTK.out, namesF_snoc, if_pos (by rw [h6]; rfl)])
        clear h6
        go_wp2_with (at_builtin; refine Tx.append_texts (wr.alloc (.cells #[.string x.s] 9)) rfl (.tmp 16) (.tmp 22) rfl w.heap.size _ (namesF (l.take k)) [x.s] rfl (Tx.Owned.below ho.out ((Below.refl _ _).alloc (Nat.le_refl _) _)) _ 1 rfl (Tx.one_slice wr x.s) (by simp; omega) (by simp; omega) ?_; intro v5 w5 q1 q2 q3; have HO5 := hid' q1; have HB5 := hid' ((hb.out.alloc hwr _).trans q2); clear q1 q2 q3)
        go_roundw
        case rel => exact ⟨k + 1, by omega, by go_num, hid' (by rw [HNX.out]; exact HO5.out), HB5⟩
        case measure => simp [intOf]; omega
      · have h6' : (x.op == 6) = false := by simpa using h6
        have HNX : Hid (namesF (l.take (k + 1)) = namesF (l.take k)) := hid' (by rw [HTK.out, namesF_snoc, h6']; simp)
        clear h6
        go_wp2
        go_roundw
        case rel => exact ⟨k + 1, by omega, by go_num, hid' (by rw [HNX.out]; exact ho.out), hb⟩
        case measure => simp [intOf]; omega
    · obtain rfl : k = l.length := by omega
      have ho2 := ho.out
      rw [List.take_length] at ho2
      obtain ⟨vao, vc, rfl, hF⟩ := fresh_of ho2
      have hle := namesF_le l
      have HON := hid' (once_any w.heap.size vao vc (namesF l) (namesF l).length wr rfl (by omega) hwr hF)
      clear ho ho2 hF hlt
      go_wp2_with fail
      refine (HON.out).mono ?_
      rintro e w3 ⟨R, rfl, hs, hr, hm, b3⟩
      have HB3 := hid' (hb.out.trans b3)
      have HS3 := hid' hs
      have HR3 := hid' hr
      have HM3 := hid' hm
      clear b3 hs hr hm
      go_wp2
      go_ret
      exact ⟨_, _, R, rfl, HS3.out, HR3.out, HM3.out, HB3.out⟩
end Go.Proofs.YtnjbhcjdlbmmhaaDoor
