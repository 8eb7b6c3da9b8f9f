/- What smithyworld.Number, smithyref.Ints and the law's first answer. Conditions: short lists. -/
import Derived.Test.YtnjbhcjdlbmmhaaDoorAstOwn2
import Derived.Test.YtnjbhcjdlbmmhaaDoorAstTreesF
namespace Go.Proofs.YtnjbhcjdlbmmhaaDoor
open Go.RowKit
open Lx Ax

def foldN (z : Int) (b : Nat) : Nat := ((z.tmod b + b).tmod b).toNat
theorem fold_le (z : Int) (b : Nat) (hb : 0 < b) : -(b : Int) < z.tmod b ∧ z.tmod b < b := by
  have h1 := Int.tmod_lt_of_pos z (b := (b : Int)) (by omega)
  have h2 := Int.tmod_lt_of_pos (-z) (b := (b : Int)) (by omega)
  rw [Int.neg_tmod] at h2
  omega
theorem fold_is (z : Int) (b : Nat) (hb : 0 < b) : (z.tmod b + b).tmod b = (foldN z b : Int) ∧ foldN z b < b := by
  have h := fold_le z b hb
  unfold foldN
  have h2 : (z.tmod b + b).tmod b = (z.tmod b + b) % b := Int.tmod_eq_emod_of_nonneg (by omega)
  rw [h2]
  have h3 := Int.emod_nonneg (z.tmod b + b) (b := (b : Int)) (by omega)
  have h4 := Int.emod_lt_of_pos (z.tmod b + b) (b := (b : Int)) (by omega)
  omega
theorem number5 (z : Int) (w : World) : Calls Tryd.prog 6 #[.int .i64 z, .int .i64 5] w fun e w' => e = .returned (.int .i64 (foldN z 5 : Nat)) ∧ w' = w := by
  have h1 := fold_le z 5 (by omega)
  have h2 := (fold_is z 5 (by omega)).1
  rw [show ((5 : Nat) : Int) = 5 from rfl] at h1 h2
  obtain ⟨m, hm⟩ : ∃ m, z.tmod 5 = m := ⟨_, rfl⟩
  rw [hm] at h1 h2
  obtain ⟨n, hn⟩ : ∃ n, foldN z 5 = n := ⟨_, rfl⟩
  rw [hn] at h2 ⊢
  clear hn
  go_enter Tryd.func6, Tryd.ntmps6
  go_wp2
  go_ret
  exact ⟨rfl, rfl⟩
theorem number20 (z : Int) (w : World) : Calls Tryd.prog 6 #[.int .i64 z, .int .i64 20] w fun e w' => e = .returned (.int .i64 (foldN z 20 : Nat)) ∧ w' = w := by
  have h1 := fold_le z 20 (by omega)
  have h2 := (fold_is z 20 (by omega)).1
  rw [show ((20 : Nat) : Int) = 20 from rfl] at h1 h2
  obtain ⟨m, hm⟩ : ∃ m, z.tmod 20 = m := ⟨_, rfl⟩
  rw [hm] at h1 h2
  obtain ⟨n, hn⟩ : ∃ n, foldN z 20 = n := ⟨_, rfl⟩
  rw [hn] at h2 ⊢
  clear hn
  go_enter Tryd.func6, Tryd.ntmps6
  go_wp2
  go_ret
  exact ⟨rfl, rfl⟩
theorem number8 (z : Int) (w : World) : Calls Tryd.prog 6 #[.int .i64 z, .int .i64 8] w fun e w' => e = .returned (.int .i64 (foldN z 8 : Nat)) ∧ w' = w := by
  have h1 := fold_le z 8 (by omega)
  have h2 := (fold_is z 8 (by omega)).1
  rw [show ((8 : Nat) : Int) = 8 from rfl] at h1 h2
  obtain ⟨m, hm⟩ : ∃ m, z.tmod 8 = m := ⟨_, rfl⟩
  rw [hm] at h1 h2
  obtain ⟨n, hn⟩ : ∃ n, foldN z 8 = n := ⟨_, rfl⟩
  rw [hn] at h2 ⊢
  clear hn
  go_enter Tryd.func6, Tryd.ntmps6
  go_wp2
  go_ret
  exact ⟨rfl, rfl⟩
set_option maxRecDepth 10000 in
set_option maxHeartbeats 400000 in
theorem ints_any (n : Nat) (v : Value) (zs : List Int) (w : World) (hz : KidsAt n w v zs) (hn : n ≤ w.heap.size) (hl : zs.length ≤ 100000) :
    Calls Tryd.prog 9 #[v] w fun e w' => ∃ g cap, e = .returned (.slice (some ⟨g, 0, none⟩) zs.length cap) ∧ OwnZ w' w.heap.size (.slice (some ⟨g, 0, none⟩) zs.length cap) zs ∧ Below w.heap.size w w' := by
  obtain ⟨i0, hi, hz0, hz1, hz2⟩ := info_parts info_num
  have HZ := hid' hz
  obtain ⟨ao, cap, rfl, ⟨hcap, hzl⟩, _⟩ := hz
  go_enter Tryd.func9, Tryd.ntmps9
  go_wp2_with ((with_reducible refine wpList_make_own w rfl _ _ 25 rfl w.heap.size 3 i0 (.int .i64 0) 1 Tryd.underlying25 hi hz0 hz1 .i64 .i64 _ zs.length rfl rfl rfl (by rw [hz2]; omega) (by unfold maxLen; omega) (Nat.le_refl _) ?_); intro w1 hown hg; have HO1 := hid' hown; have HG1 := hid' hg; clear hown hg)
  go_loopw [3, 4] (fun u i wr => ∃ (k g c : Nat), k ≤ zs.length ∧ i = .int .i64 k ∧ u = .slice (some ⟨g, 0, none⟩) k c ∧ Hid (OwnZ wr w.heap.size (.slice (some ⟨g, 0, none⟩) k c) (zs.take k)) ∧ Hid (Below w.heap.size w wr)) (fun _ i _ => zs.length - (intOf i).toNat)
  case atStart => exact ⟨0, w.heap.size, zs.length, Nat.zero_le _, rfl, rfl, HO1, hid' ((Below.refl _ _).grown HG1.out (Nat.le_refl _) (fun k hk => by cases hk))⟩
  case round =>
    obtain ⟨k, g, c, hk, rfl, rfl, ho, hb⟩ := hrel
    by_cases hlt : k < zs.length
    · have hlt' : (k : Int) < (zs.length : Int) := by omega
      obtain ⟨b, o, cap', e, _, hc⟩ := kid_at (HZ.out.keep (hb.out.mono hn) (Nat.le_refl _)) hlt
      injection e with e1 e2 e3
      subst e1 e3
      clear e2
      have htk := List.take_succ_eq_append_getElem hlt
      generalize zs[k] = z at hc htk
      have HTK := hid' htk
      have hsz := hb.out.size
      clear htk
      go_wp2_with (at_builtin; refine num_plain ho.out z (k + 1) (by rw [List.length_take]; omega) hsz (by rw [List.length_take]; omega) rfl (.tmp 14) (.tmp 19) (by rfl) (by rfl) (by rfl) ?_; intro g5 cap5 w5 q1 q2 q3 q4 q5; have HO5 := hid' q1; have HB5 := hid' (hb.out.trans q2); clear q1 q2 q3 q4 q5)
      go_roundw
      case rel => exact ⟨k + 1, g5, cap5, by omega, by go_num, rfl, hid' (by rw [HTK.out]; exact HO5.out), HB5⟩
      case measure => simp [intOf]; omega
    · obtain rfl : k = zs.length := by omega
      go_wp2
      go_ret
      exact ⟨g, c, rfl, by have := ho.out; rwa [List.take_length] at this, hb.out⟩
/-- What the statements' walks want of the world. -/
structure TV (A : Nat → Addr) (W : World) : Prop where
  words : WordsAt W
  shape : W.cell? ⟨1, 0, none⟩ = some (E A 12)
theorem TV.below {A : Nat → Addr} {W W' : World} (h : TV A W) (hb : Below W.heap.size W W') : TV A W' := ⟨h.words.below hb, (hb.cell (World.block_lt_of_cell? W _ h.shape)).trans h.shape⟩
theorem TV.low {A : Nat → Addr} {W : World} (h : TV A W) : 2 < W.heap.size := World.block_lt_of_cell? W ⟨2, 0 + 0, none⟩ (h.words 0 _ rfl)
/-- Valid, asked of nodes of the call's own. -/
theorem valid_at {A : Nat → Addr} {W : World} (hV : TV A W) (ao : Option Addr) (cap m : Nat) (l : List Nd) (hm : m = l.length) (hN : NodesAt W.heap.size W ao l) (hl : l.length ≤ 100000) (hpos : 0 < l.length) (ho : ∀ x ∈ l, OpOK x.op) (hs : ∀ x ∈ l, x.s.size ≤ 1000000) (r : Option Nat) (hr : validF l = r) :
    Calls Tryd.prog 7 #[.slice ao m cap] W (ValidPost A W r) := by
  subst hm hr
  exact valid_any A W.heap.size ao cap l W hl hpos hN (Nat.le_refl _) hV.words hV.low hV.shape ho hs
set_option maxRecDepth 10000 in
set_option maxHeartbeats 400000 in
theorem first_any (w : World) : Calls Tryd.prog 5 #[] w fun e w' => e = .returned (.bool true) ∧ Below w.heap.size w w' := by
  have h1 := OwnZ.lit w w.heap.size (Nat.le_refl _) [0] (by simp) #[.int .i64 0] rfl
  have h2 := OwnZ.lit (w.alloc (.cells #[.int .i64 0] 3)) w.heap.size (by simp) [1] (by simp) #[.int .i64 1] rfl
  have hb2 : Below w.heap.size w ((w.alloc (.cells #[.int .i64 0] 3)).alloc (.cells #[.int .i64 1] 3)) := ((Below.refl _ _).alloc (Nat.le_refl _) _).alloc (by simp) _
  have h1' : OwnZ ((w.alloc (.cells #[.int .i64 0] 3)).alloc (.cells #[.int .i64 1] 3)) w.heap.size (.slice (some ⟨w.heap.size, 0, none⟩) 1 1) [0] := h1.keep fun k _ hk => Below.heap_alloc _ _ _ hk
  have hsz : (w.alloc (.cells #[.int .i64 0] 3)).heap.size = w.heap.size + 1 := by simp
  rw [hsz] at h2
  have hT := Tr.lit (W := (w.alloc (.cells #[.int .i64 0] 3)).alloc (.cells #[.int .i64 1] 3)) w.heap.size hb2.size [nmN xT, exN 0, blN [1]] [.slice none 0 0, .slice (some ⟨w.heap.size, 0, none⟩) 1 1, .slice (some ⟨w.heap.size + 1, 0, none⟩) 1 1] rfl (by simp)
    (fun j x v hx hv => by
      match j, hx, hv with
      | 0, hx, hv => simp at hx hv; subst hx hv; exact OwnZ.nil _ _
      | 1, hx, hv => simp at hx hv; subst hx hv; exact h1'
      | 2, hx, hv => simp at hx hv; subst hx hv; exact h2
      | j + 3, hx, hv => simp at hx)
    (fun x hx => by simp at hx; rcases hx with rfl | rfl | rfl <;> simp [nmN, exN, blN])
    (fun i j vi vj hij hi hj k hk e => by
      match i, j, hi, hj with
      | 0, _, hi, _ => simp at hi; subst hi; simp [Value.ownBlock] at hk
      | _, 0, _, hj => simp at hj; subst hj; simp [Value.ownBlock] at e
      | 1, 1, _, _ => exact hij rfl
      | 2, 2, _, _ => exact hij rfl
      | 1, 2, hi, hj => simp at hi hj; subst hi hj; simp [Value.ownBlock] at hk e; omega
      | 2, 1, hi, hj => simp at hi hj; subst hi hj; simp [Value.ownBlock] at hk e; omega
      | i + 3, _, hi, _ => simp at hi
      | _, j + 3, _, hj => simp at hj)
    #[.int .i64 6, .int .i64 0, .int .i64 0, .string xT, .slice none 0 0, .int .i64 35, .int .i64 0, .int .i64 0, .string ⟨#[]⟩, .slice (some ⟨w.heap.size, 0, none⟩) 1 1, .int .i64 47, .int .i64 0, .int .i64 0, .string ⟨#[]⟩, .slice (some ⟨w.heap.size + 1, 0, none⟩) 1 1] rfl 3 rfl
  obtain ⟨ao, cap, e, _, hN⟩ := hT.nodes
  have HD := hid' (deep_any _ ao cap _ _ (by simp) hN (Nat.le_refl _) (isTree_tree 1 (by omega)))
  rw [← e, show deepF [nmN xT, exN 0, blN [1]] = 3 from deep_tree 1 (by omega)] at HD
  have hsz2 : ((w.alloc (.cells #[.int .i64 0] 3)).alloc (.cells #[.int .i64 1] 3)).heap.size = w.heap.size + 1 + 1 := by simp
  rw [hsz2] at HD
  have HB2 := hid' hb2
  clear hsz hsz2 h1 h2 h1' hT e hN hb2
  unfold xT at HD
  go_enter Tryd.func5, Tryd.ntmps5
  go_wp2_with fail
  with_reducible refine (HD.out).mono ?_
  rintro e w2 ⟨rfl, b2⟩
  have HB3 := hid' ((HB2.out.alloc HB2.out.size _).trans (b2.mono (by simp; omega)))
  clear b2
  go_wp2
  go_ret
  exact ⟨rfl, HB3.out⟩
end Go.Proofs.YtnjbhcjdlbmmhaaDoor
