/- smithylaw5.AstRows returns true. Conditions: the words and the error of api lie in their variables; the list's numbers lie where it says. -/
import Derived.Test.YtnjbhcjdlbmmhaaDoorAstCalls
import Derived.Test.YtnjbhcjdlbmmhaaDoorAstRowsF
import Derived.Test.YtnjbhcjdlbmmhaaDoorAstKids
import Derived.Test.YtnjbhcjdlbmmhaaDoorAstSame
import Derived.Test.YtnjbhcjdlbmmhaaDoorAstText
import Derived.Test.YtnjbhcjdlbmmhaaDoorLexIntsIn
namespace Go.Proofs.YtnjbhcjdlbmmhaaDoor
open Go.RowKit
open Lx Ax

set_option maxRecDepth 10000 in
theorem slice_let (n : Nat) (hn : n < 8) (W : World) : (Instr.sliceAt 9 (.string ⟨#[97, 98, 99, 100, 101, 102, 103, 104]⟩) (some (.int .i64 (n : Int))) (some (.int .i64 ((n : Int) + 1))) none).run Tryd.prog W = .ok (.string ⟨#[UInt8.ofNat (97 + n)]⟩) W := by
  have h : n = 0 ∨ n = 1 ∨ n = 2 ∨ n = 3 ∨ n = 4 ∨ n = 5 ∨ n = 6 ∨ n = 7 := by omega
  rcases h with rfl | rfl | rfl | rfl | rfl | rfl | rfl | rfl <;> rfl
def nameF (zs : List Int) (j : Nat) : ByteArray := letT (foldN (zs.getD j 0) 8)
theorem nameF_ok (zs : List Int) (j : Nat) : nameB (nameF zs j).data.toList = true := letT_name _ (fold_is _ 8 (by omega)).2
theorem nodup_len : ∀ (R ns : List ByteArray), R.Nodup → (∀ x ∈ R, x ∈ ns) → R.length ≤ ns.length
  | [], _, _, _ => Nat.zero_le _
  | x :: R, ns, h, hs => by
    obtain ⟨h1, h2⟩ := List.nodup_cons.1 h
    obtain ⟨a, b, rfl⟩ := List.append_of_mem (hs x (by simp))
    have := nodup_len R (a ++ b) h2 (fun y hy => by
      have h3 := hs y (by simp [hy])
      rcases List.mem_append.1 h3 with h4 | h4
      · exact List.mem_append.2 (.inl h4)
      · rcases List.mem_cons.1 h4 with h5 | h5
        · exact absurd (h5 ▸ hy) h1
        · exact List.mem_append.2 (.inr h5))
    simp only [List.length_cons, List.length_append] at this ⊢
    omega
theorem row_last (f : Nat → ByteArray) (j : Nat) : (rowT f (j + 1))[2 * (j + 1)]? = some (adN (2 * (j : Int)) (2 * (j : Int) + 1)) := by
  unfold rowT
  rw [List.append_assoc, List.getElem?_append_left (by rw [rowN_length]; omega), rowN, List.getElem?_append_right (by rw [rowN_length]; omega), rowN_length, show 2 * (j + 1) - (2 * j + 1) = 1 by omega]
  rfl
set_option maxRecDepth 10000 in
set_option maxHeartbeats 8000000 in
theorem astRows_any (A : Nat → Addr) (ao : Option Addr) (cap : Nat) (zs : List Int) (w : World) (hV : TV A w) (hL : IntsAt w ao zs) : Calls Tryd.prog 4 #[.slice ao zs.length cap] w fun e w' => e = .returned (.bool true) ∧ Below w.heap.size w w' := by
  have HF := hid' (first_any w)
  have HV := hid' hV
  have HL := hid' hL
  clear hV hL
  by_cases h60 : zs.length ≤ 60
  · by_cases h2 : 2 ≤ zs.length
    · have g1 : ¬ (60 : Int) < (zs.length : Int) := by omega
      have g2 : ¬ (zs.length : Int) < 2 := by omega
      obtain ⟨f, hf⟩ : ∃ f, f = nameF zs := ⟨_, rfl⟩
      have HFN := hid' (fun j => (by rw [hf]; exact nameF_ok zs j : nameB (f j).data.toList = true))
      have HFE := hid' hf
      clear hf
      go_enter Tryd.func4, Tryd.ntmps4
      go_wp2_with fail
      refine (HF.out).mono ?_
      rintro e w1 ⟨rfl, b1⟩
      have HB1 := hid' b1
      have hsz1 := b1.size
      clear b1
      go_wp2
      go_loopw [4, 5, 6, 7] (fun vt vn vl vi wr => ∃ (k : Nat) (vs : List Value), k ≤ zs.length ∧ vi = .int .i64 k ∧ vl = .int .i64 ((2 * (k - 1) : Nat) : Int) ∧ Hid (Tr wr w.heap.size vt (rowN f k) vs) ∧ Hid (Tx.Owned wr w.heap.size vn ((List.range k).map f)) ∧ Hid (Below w.heap.size w wr)) (fun _ _ _ i _ => zs.length - (intOf i).toNat)
      case atStart => exact ⟨0, [], Nat.zero_le _, rfl, rfl, hid' (Tr.nil _ _), hid' ⟨rfl, .inl ⟨rfl, rfl⟩⟩, HB1⟩
      case round =>
        obtain ⟨k, vs, hk, rfl, rfl, ht, ho, hb⟩ := hrel
        have hwr := hb.out.size
        by_cases hlt : k < zs.length
        · have hlt' : (k : Int) < (zs.length : Int) := by omega
          obtain ⟨z, hzk⟩ : ∃ z, zs[k] = z := ⟨_, rfl⟩
          obtain ⟨bk, oo, hao, hcz⟩ : ∃ b o, ao = some ⟨b, o, none⟩ ∧ wr.cell? ⟨b, o + k, none⟩ = some (.int .i64 z) := by
            rcases HL.out.below hb.out with h0 | ⟨b, o, e, _, h4⟩
            · rw [h0] at hlt; simp at hlt
            · exact ⟨b, o, e, (h4 k z (by rw [List.getElem?_eq_getElem hlt, hzk])).1⟩
          subst hao
          have HN8 := hid' (number8 z)
          have hN8 := (fold_is z 8 (by omega)).2
          have HFK : Hid (f k = letT (foldN z 8)) := hid' (by rw [HFE.out]; unfold nameF; rw [List.getD_eq_getElem?_getD, List.getElem?_eq_getElem hlt, hzk]; rfl)
          generalize foldN z 8 = N at HN8 hN8 HFK
          have hsl := slice_let N hN8
          have hwrp : IntKind.i64.wrap ((N : Int) + 1) = (N : Int) + 1 := IntWalk.i64_in _ ⟨by omega, by omega⟩
          obtain ⟨c, hcc⟩ : ∃ c, UInt8.ofNat (97 + N) = c := ⟨_, rfl⟩
          rw [hcc] at hsl
          obtain ⟨S, hS⟩ : ∃ S, (⟨#[118]⟩ : ByteArray) ++ ⟨#[c]⟩ = S := ⟨_, rfl⟩
          have HSE : Hid (S = f k) := hid' (by rw [HFK.out, ← hS, ← hcc]; rfl)
          clear hcc
          obtain ⟨ns, hns⟩ : ∃ ns, (List.range k).map f = ns := ⟨_, rfl⟩
          rw [hns] at ho
          have HNS := hid' hns
          have hnl : ns.length ≤ 60 := by rw [← hns, List.length_map, List.length_range]; omega
          clear hns
          obtain ⟨tao, tcap, rfl, htc⟩ := own_form ht.out.own
          obtain ⟨nao, ncap, rfl, _⟩ := ho.out.slice
          clear hzk
          go_wp2_with fail
          go_quiet ((go_at_call 6; exact Calls.quiet_of_same (HN8.out _)))
          have HTd := hid' (show Tr (wr.drewN nq) w.heap.size _ _ _ from ht.out.keep fun _ _ _ => rfl)
          have HOd := hid' (show Tx.Owned (wr.drewN nq) w.heap.size _ _ from ho.out)
          have HBd := hid' (below_drewN hb.out nq)
          have hwd : w.heap.size ≤ (wr.drewN nq).heap.size := hwr
          clear ht ho hb hcz hsl hwrp hS HN8 hwr
          generalize wr.drewN nq = wd at HTd HOd HBd hwd ⊢
          have HRN := hid' (List.range_succ (n := k))
          have hok := HFN.out k
          have HSN : Hid (nmN S = nmN (f k)) := hid' (by rw [HSE.out])
          have HOS : Hid (ns ++ [S] = (List.range (k + 1)).map f) := hid' (by rw [HRN.out, List.map_append, HSE.out, HNS.out]; rfl)
          clear hok
          cases k with
          | zero =>
            have hrl0 : (rowN f 0).length ≤ 1 := Nat.zero_le _
            go_wp2_with (first
              | (at_builtin; refine text_plain (W := wd) HOd.out S (ns.length + 1) rfl hwd (by omega) rfl (.tmp 45) (.tmp 47) (by rfl) (by rfl) (by first | rfl | simp [Act.eval]) ?_; intro g5 cap5 w5 q1 q2 q3 q4; have HO5 := hid' q1; have HB5 := hid' (HBd.out.trans q2); have HT5 := hid' (HTd.out.keep' (W' := w5) (fun q e hq => q3 q hq (own_apart HTd.out.own HOd.out (by decide) q e)) (fun j v hv q e hq => q3 q hq (own_apart (HTd.out.kid j _ v (List.getElem?_eq_getElem (by rw [← HTd.out.len]; exact (List.getElem?_eq_some_iff.1 hv).1)) hv) HOd.out (by decide) q e))); have hs5 : w.heap.size ≤ w5.heap.size := (by omega); clear q1 q2 q3 q4)
              | (at_builtin; refine nodes_plain (W := w5) HT5.out [nmN S] [.slice none 0 0] rfl (by simp) (kid_one (x := nmN S) (OwnZ.nil _ _)) (few_one (by simp [nmN])) (apart_nil HT5.out.apart) ((rowN f 0).length + 1) 1 rfl (by simp) hs5 (by omega) _ rfl rfl (.tmp 49) (.tmp 52) (by rfl) (by rfl) (by first | rfl | simp [Act.eval]) ?_; intro g6 cap6 w6 p1 p2 p3 p4; have HT6 := hid' p1; have HB6 := hid' (HB5.out.trans p2); have HO6 := hid' (show Tx.Owned w6 w.heap.size _ _ from row_far HO5.out fun q e hq => p3 q hq (fun e2 => own_apart HO5.out HT5.out.own (by decide) q e e2)); have hs6 : w.heap.size ≤ w6.heap.size := (by omega); clear p1 p2 p3 p4))
            go_roundw
            case rel => exact ⟨1, _, by omega, by go_num, by first | rfl | (simp <;> rfl), hid' (by have h := HT6.out; rw [HSE.out] at h; exact h), hid' (by rw [← HOS.out]; exact HO6.out), HB6⟩
            case measure => simp [intOf] <;> omega
          | succ k =>
            have HRL := hid' (rowN_length f k)
            have hrl : (rowN f (k + 1)).length ≤ 200 := by rw [HRL.out]; omega
            rw [show k + 1 - 1 = k from rfl]
            have h21 : 2 * (k : Int) + 2 - 1 = 2 * (k : Int) + 1 := by omega
            have h31 : 2 * (k : Int) + 3 - 1 = 2 * (k : Int) + 2 := by omega
            go_wp2_with (first
              | (at_builtin; refine text_plain (W := wd) HOd.out S (ns.length + 1) rfl hwd (by omega) rfl (.tmp 45) (.tmp 47) (by rfl) (by rfl) (by first | rfl | simp [Act.eval]) ?_; intro g5 cap5 w5 q1 q2 q3 q4; have HO5 := hid' q1; have HB5 := hid' (HBd.out.trans q2); have HT5 := hid' (HTd.out.keep' (W' := w5) (fun q e hq => q3 q hq (own_apart HTd.out.own HOd.out (by decide) q e)) (fun j v hv q e hq => q3 q hq (own_apart (HTd.out.kid j _ v (List.getElem?_eq_getElem (by rw [← HTd.out.len]; exact (List.getElem?_eq_some_iff.1 hv).1)) hv) HOd.out (by decide) q e))); have hs5 : w.heap.size ≤ w5.heap.size := (by omega); clear q1 q2 q3 q4)
              | (at_builtin; refine nodes_plain (W := w5) HT5.out [nmN S] [.slice none 0 0] rfl (by simp) (kid_one (x := nmN S) (OwnZ.nil _ _)) (few_one (by simp [nmN])) (apart_nil HT5.out.apart) (2 * k + 2) 1 rfl (by rw [HRL.out]; simp) hs5 (by omega) _ rfl rfl (.tmp 49) (.tmp 52) (by rfl) (by rfl) (by first | rfl | simp [Act.eval]) ?_; intro g6 cap6 w6 p1 p2 p3 p4; have HT6 := hid' p1; have HB6 := hid' (HB5.out.trans p2); have HO6 := hid' (show Tx.Owned w6 w.heap.size _ _ from row_far HO5.out fun q e hq => p3 q hq (fun e2 => own_apart HO5.out HT5.out.own (by decide) q e e2)); have hs6 : w.heap.size ≤ w6.heap.size := (by omega); clear p1 p2 p3 p4)
              | (at_builtin; refine nodes_plain (W := w6.alloc (.cells #[.int .i64 (2 * (k : Int)), .int .i64 (2 * (k : Int) + 1)] 3)) (HT6.out.keep fun q _ hq => Below.heap_alloc _ _ _ hq) [adN (2 * (k : Int)) (2 * (k : Int) + 1)] [.slice (some ⟨w6.heap.size, 0, none⟩) 2 2] rfl (by simp) (kid_one (x := adN (2 * (k : Int)) (2 * (k : Int) + 1)) (OwnZ.lit w6 w.heap.size hs6 [2 * (k : Int), 2 * (k : Int) + 1] (by simp) _ rfl)) (few_one (by simp [adN])) (HT6.out.apart_new 2 2) (2 * k + 3) 1 rfl (by rw [List.length_append, HRL.out]; simp) (by simp; omega) (by omega) _ rfl rfl (.tmp 56) (.tmp 63) (by rfl) (by rfl) (by simp [Act.eval]) ?_; intro g8 cap8 w8 s1 s2 s3 s4; have HT8 := hid' s1; have HB8 := hid' ((HB6.out.alloc hs6 _).trans s2); have HO8 := hid' (show Tx.Owned w8 w.heap.size _ _ from row_far HO6.out fun q e hq => (s3 q (by simp; omega) (fun e2 => own_apart HO6.out HT6.out.own (by decide) q e e2)).trans (Below.heap_alloc _ _ _ hq)); clear s1 s2 s3 s4))
            go_roundw
            case rel => exact ⟨k + 1 + 1, _, by omega, by go_num, by first | rfl | (simp <;> omega), hid' (by have h := HT8.out; rw [HSE.out] at h; rw [List.append_assoc] at h; exact h), hid' (by rw [← HOS.out]; exact HO8.out), HB8⟩
            case measure => simp [intOf] <;> omega
        · obtain ⟨j, rfl⟩ : ∃ j, k = j + 1 + 1 := ⟨k - 2, by omega⟩
          have HZL : Hid (zs.length = j + 2) := hid' (by omega)
          have hjs : j ≤ 58 := by omega
          have hend : ¬ (((j + 1 + 1 : Nat) : Int) < (zs.length : Int)) := by omega
          have hend2 : ¬ ((j : Int) + 1 + 1 < (zs.length : Int)) := by omega
          rw [show j + 1 + 1 - 1 = j + 1 from rfl]
          have HRL := hid' (rowN_length f (j + 1))
          obtain ⟨ns, hns⟩ : ∃ ns, (List.range (j + 1 + 1)).map f = ns := ⟨_, rfl⟩
          rw [hns] at ho
          have HNS := hid' hns
          have HNL : Hid (ns.length ≤ 60) := hid' (by rw [← hns, List.length_map, List.length_range]; omega)
          obtain ⟨tao, tcap, rfl, htc⟩ := own_form ht.out.own
          obtain ⟨nao, ncap, rfl, _⟩ := ho.out.slice
          have hc1 : (((2 * (j + 1) : Nat) : Int)) = 2 * ((j : Int) + 1) := by omega
          rw [hc1]
          clear hns hlt hc1
          go_wp2_with (first
            | (at_builtin; refine nodes_plain (W := wr.alloc (.cells #[.int .i64 (2 * ((j : Int) + 1))] 3)) (ht.out.keep fun q _ hq => Below.heap_alloc _ _ _ hq) [exN (2 * ((j : Int) + 1))] [.slice (some ⟨wr.heap.size, 0, none⟩) 1 1] rfl (by simp) (kid_one (x := exN (2 * ((j : Int) + 1))) (OwnZ.lit wr w.heap.size hwr [2 * ((j : Int) + 1)] (by simp) _ rfl)) (few_one (by simp [exN])) (ht.out.apart_new 1 1) (2 * (j + 1) + 2) 1 rfl (by rw [HRL.out]; simp) (by simp; omega) (by omega) _ rfl rfl (.tmp 68) (.tmp 72) (by rfl) (by rfl) (by simp [Act.eval]) ?_; intro g5 cap5 w5 p1 p2 p3 p4; have HT5 := hid' p1; have HB5 := hid' ((hb.out.alloc hwr _).trans p2); have HO5 := hid' (show Tx.Owned w5 w.heap.size _ _ from row_far ho.out fun q e hq => (p3 q (by simp; omega) (fun e2 => own_apart ho.out ht.out.own (by decide) q e e2)).trans (Below.heap_alloc _ _ _ hq)); have hs5 : w.heap.size ≤ w5.heap.size := (by simp at p4; omega); clear p1 p2 p3 p4)
            | (at_builtin; refine nodes_plain (W := w5.alloc (.cells #[.int .i64 (2 * ((j : Int) + 1) + 1)] 3)) (HT5.out.keep fun q _ hq => Below.heap_alloc _ _ _ hq) [blN [2 * ((j : Int) + 1) + 1]] [.slice (some ⟨w5.heap.size, 0, none⟩) 1 1] rfl (by simp) (kid_one (x := blN [2 * ((j : Int) + 1) + 1]) (OwnZ.lit w5 w.heap.size hs5 [2 * ((j : Int) + 1) + 1] (by simp) _ rfl)) (few_one (by simp [blN])) (HT5.out.apart_new 1 1) (2 * (j + 1) + 3) 1 rfl (by rw [List.length_append, HRL.out]; simp) (by simp; omega) (by omega) _ rfl rfl (.tmp 74) (.tmp 79) (by rfl) (by rfl) (by simp [Act.eval]) ?_; intro g6 cap6 w6 q1 q2 q3 q4; have HT6 := hid' q1; have HB6 := hid' ((HB5.out.alloc hs5 _).trans q2); have HO6 := hid' (show Tx.Owned w6 w.heap.size _ _ from row_far HO5.out fun q e hq => (q3 q (by simp; omega) (fun e2 => own_apart HO5.out HT5.out.own (by decide) q e e2)).trans (Below.heap_alloc _ _ _ hq)); have hs6 : w.heap.size ≤ w6.heap.size := (by simp at q4; omega); clear q1 q2 q3 q4))
          have hlenL : 2 * (j + 1) + 3 = (rowT f (j + 1)).length := (rowT_length f (j + 1)).symm
          have HT7 : Hid (Tr w6 w.heap.size (.slice (some ⟨g6, 0, none⟩) (2 * (j + 1) + 3) cap6) (rowT f (j + 1)) _) := hid' (by
            have h := HT6.out
            unfold rowT
            rw [show (((j + 1 : Nat)) : Int) = (j : Int) + 1 by omega]
            exact h)
          have HNW := hid' (fun W (h : Below w6.heap.size w6 W) => HT7.out.nodesAt.keep h h.size)
          have HBW := hid' (fun W (h : Below w6.heap.size w6 W) => HB6.out.trans (h.mono HB6.out.size))
          have hiL : 2 * (j + 1) < (rowT f (j + 1)).length := by omega
          have hel : (rowT f (j + 1))[2 * (j + 1)] = adN (2 * (j : Int)) (2 * (j : Int) + 1) := (List.getElem?_eq_some_iff.1 (row_last f j)).2
          have HKD := hid' (kids_any w6.heap.size (some ⟨g6, 0, none⟩) cap6 (rowT f (j + 1)) w6 HT7.out.nodesAt (2 * (j + 1)) hiL (by rw [hel]; show 0 < 2; omega))
          rw [hel, ← hlenL, show ((2 * (j + 1) : Nat) : Int) = 2 * ((j : Int) + 1) by omega] at HKD
          have HOK := hid' (ok_rowT f (fun i => by rw [HFE.out]; show (2 : Nat) ≤ _; omega) (j + 1))
          have HLL := hid' hlenL
          have HVD := hid' (valid_rowT f HFN.out (j + 1))
          have HTE := hid' (isTree_rowT f HFN.out (j + 1))
          have HDE := hid' (deep_rowT f HFN.out (j + 1))
          clear hlenL hel hiL ht ho hb HT5 HB5 HO5
          refine (HKD.out).mono ?_
          rintro e w7 ⟨g9, c9, he9, ho9, b7⟩
          have he9' : e = .returned (.slice (some ⟨g9, 0, none⟩) 2 c9) := he9
          subst he9'
          have HO9 : Hid (OwnZ w7 w6.heap.size (.slice (some ⟨g9, 0, none⟩) 2 c9) [2 * (j : Int), 2 * (j : Int) + 1]) := hid' ho9
          have HB7 := hid' b7
          have hg9 : w6.heap.size ≤ g9 ∧ g9 < w7.heap.size := ho9.lt g9 rfl
          clear b7 ho9 he9
          have HVAL := hid' (valid_at (HV.out.below (HBW.out w7 HB7.out)) (some ⟨g6, 0, none⟩) cap6 (2 * (j + 1) + 3) (rowT f (j + 1)) HLL.out (HNW.out w7 HB7.out) (by rw [← HLL.out]; omega) (by rw [← HLL.out]; omega) HOK.out.1 HOK.out.2 none HVD.out)
          go_wp2_with fail
          refine (HVAL.out).mono ?_
          rintro e w8 ⟨b8, he⟩
          obtain rfl := he
          have HB8 := hid' (HB7.out.trans (b8.mono HB7.out.size))
          have HO8 := hid' (HO9.out.keep fun q _ hq => b8.block q hq)
          clear b8 HVAL
          have HDP := hid' (deep_any w8.heap.size (some ⟨g6, 0, none⟩) cap6 (rowT f (j + 1)) w8 (by rw [← HLL.out]; omega) (HNW.out w8 HB8.out) (Nat.le_refl _) HTE.out)
          rw [HDE.out, ← HLL.out, show (((j + 1 : Nat) : Int)) + 3 = (zs.length : Int) + 2 by have := HZL.out; omega] at HDP
          go_wp2_with fail
          refine (HDP.out).mono ?_
          rintro e w9 ⟨rfl, b9⟩
          have HB9 := hid' (HB8.out.trans (b9.mono HB8.out.size))
          have HO10 := hid' (HO8.out.keep fun q _ hq => b9.block q hq)
          clear b9 HDP
          have HNM := hid' (names_any w9.heap.size (some ⟨g6, 0, none⟩) cap6 (rowT f (j + 1)) w9 (by rw [← HLL.out]; omega) (HNW.out w9 HB9.out) (Nat.le_refl _))
          rw [← HLL.out] at HNM
          go_wp2_with fail
          refine (HNM.out).mono ?_
          rintro e w10 ⟨a2, c2, R1, rfl, hs1, hr1, hm1, b10⟩
          have HB10 := hid' (HB9.out.trans (b10.mono HB9.out.size))
          have HO11 := hid' (HO10.out.keep fun q _ hq => b10.block q hq)
          have HS1 := hid' hs1
          have HR1 := hid' hr1
          have HM1 := hid' hm1
          clear b10 HNM hs1 hr1 hm1
          have HNSL : Hid (Tx.SliceOf w10 nao ncap ns) := hid' (by
            obtain ⟨xao, xc, e, h⟩ := HO6.out.slice
            injection e with e1 _ e3
            subst e1 e3
            exact h.below HB10.out)
          have HST := hid' (Tx.SortedTexts_any nao ncap ns w10 (by have := HNL.out; omega) HNSL.out)
          go_wp2_with fail
          refine (HST.out).mono ?_
          rintro e w11 ⟨v11, R2, rfl, ho2, hr2, hm2, b11⟩
          have HB11 := hid' (HB10.out.trans (b11.mono HB10.out.size))
          have HO12 := hid' (HO11.out.keep fun q _ hq => b11.block q hq)
          have HREQ : Hid (R1 = R2) := hid' (Tx.Rising.eq HR1.out hr2 fun x => by rw [HM1.out x, hm2 x, names_rowT, HNS.out])
          obtain ⟨rao, rc, rfl, hs2⟩ := ho2.slice
          have HS2 := hid' hs2
          have HS1b := hid' (HS1.out.below b11)
          have hR2l : R1.length ≤ 1000 := by
            have h1 : ∀ x ∈ R1, x ∈ ns := fun x hx => by rw [← HNS.out, ← names_rowT]; exact (HM1.out x).1 hx
            have hnd : R1.Nodup := HR1.out.imp fun h e => by rw [e] at h; exact List.lt_irrefl _ h
            have := nodup_len R1 ns hnd h1
            have := HNL.out
            omega
          have HSM := hid' (Tx.SameTexts_any a2 rao c2 rc R1 R2 w11 (by omega) (by rw [← HREQ.out]; omega) HS1b.out HS2.out HREQ.out)
          clear b11 HST ho2 hr2 hm2 hs2
          go_wp2_with fail
          refine (HSM.out).mono ?_
          rintro e w12 ⟨rfl, b12⟩
          have HB12 := hid' (HB11.out.trans (b12.mono HB11.out.size))
          have HO13 := hid' (HO12.out.keep fun q _ hq => b12.block q hq)
          clear b12 HSM
          obtain ⟨gg, cc, ge, _, _, hgl, hgc⟩ := own_some HO13.out (by simp)
          injection ge with ge1 _ ge3
          injection ge1 with ge1
          injection ge1 with ge1 _ _
          subst ge1 ge3
          have k0 := hgc 0 _ rfl
          have kf := OwnZ.open_ HO13.out 0
          clear hgc
          have hgne : ∀ q, q < w6.heap.size → q ≠ g9 := fun q hq => by omega
          have HB13 := hid' (HB12.out.setCell (p := ⟨g9, 0, none⟩) hg9.1 (.int .i64 99))
          have HN13 := hid' (HNW.out _ HB13.out)
          obtain ⟨vk, hvk, NK, OK⟩ := HT7.out.cells (2 * (j + 1)) _ (row_last f j)
          obtain ⟨gk, ck, hke, _, hk6, hk7, hkc⟩ := own_some OK (by show 0 < 2; omega)
          have hke' : vk = .slice (some ⟨gk, 0, none⟩) 2 ck := hke
          subst hke'
          have hg6l := HT7.out.own.lt g6 rfl
          have d4 : (w12.setCell ⟨g9, 0, none⟩ (.int .i64 99)).cell? ⟨g6, 2 * (j + 1) * 5 + 4, none⟩ = some (.slice (some ⟨gk, 0, none⟩) 2 ck) := (HB13.out.cell (p := ⟨g6, 2 * (j + 1) * 5 + 4, none⟩) hg6l.2).trans NK.kids
          have d0 : (w12.setCell ⟨g9, 0, none⟩ (.int .i64 99)).cell? ⟨gk, 0, none⟩ = some (.int .i64 (2 * (j : Int))) := (HB13.out.cell (p := ⟨gk, 0, none⟩) hk7).trans (hkc 0 _ rfl)
          have hat : (2 * ((j : Int) + 1)).toNat = 2 * (j + 1) := by omega
          have h99 : (2 * (j : Int) == 99) = false := by rw [beq_eq_false_iff_ne]; omega
          have h99' : (2 * (j : Int) != 99) = true := by rw [bne_iff_ne]; omega
          have HKO := hid' (fun i W (h : i < 0 ∨ ((2 * (j + 1) + 3 : Nat) : Int) ≤ i) => kids_out (some ⟨g6, 0, none⟩) cap6 (2 * (j + 1) + 3) i W h)
          have HSF := hid' (same_self (w12.setCell ⟨g9, 0, none⟩ (.int .i64 99)).heap.size (some ⟨g6, 0, none⟩) cap6 (rowT f (j + 1)) (w12.setCell ⟨g9, 0, none⟩ (.int .i64 99)) (by rw [← HLL.out]; omega) HN13.out (Nat.le_refl _) HTE.out)
          rw [← HLL.out] at HSF
          clear hvk NK OK hke hkc hgne
          go_wp2_with fail
          refine (HKO.out _ _ (.inl (by omega))).mono ?_
          rintro e w14 ⟨rfl, rfl⟩
          go_wp2_with fail
          refine (HKO.out _ _ (.inr (by omega))).mono ?_
          rintro e w15 ⟨rfl, rfl⟩
          go_wp2_with fail
          refine (HSF.out).mono ?_
          rintro e w16 ⟨rfl, b16⟩
          have HB16 := hid' (HBW.out _ (HB13.out.trans (b16.mono HB13.out.size)))
          clear b16
          go_wp2
          go_ret
          exact ⟨rfl, HB16.out⟩
    · have g1 : ¬ (60 : Int) < (zs.length : Int) := by omega
      have g2 : (zs.length : Int) < 2 := by omega
      go_enter Tryd.func4, Tryd.ntmps4
      go_wp2_with fail
      refine (HF.out).mono ?_
      rintro e w1 ⟨rfl, b1⟩
      go_wp2
      go_ret
      exact ⟨rfl, b1⟩
  · have g1 : (60 : Int) < (zs.length : Int) := by omega
    go_enter Tryd.func4, Tryd.ntmps4
    go_wp2_with fail
    refine (HF.out).mono ?_
    rintro e w1 ⟨rfl, b1⟩
    go_wp2
    go_ret
    exact ⟨rfl, b1⟩
end Go.Proofs.YtnjbhcjdlbmmhaaDoor
