/- What ast's isTree answers. Conditions: the nodes lie below the world's end; at most 2^20. -/
import Derived.Test.YtnjbhcjdlbmmhaaDoorAstTake
namespace Go.Proofs.YtnjbhcjdlbmmhaaDoor
open Go.RowKit
open Lx Ax

theorem pad_next (k : List Bool) (n : Nat) (h : 0 < n) : k ++ List.replicate n false = (k ++ [false]) ++ List.replicate (n - 1) false := by
  obtain ⟨m, rfl⟩ : ∃ m, n = m + 1 := ⟨n - 1, by omega⟩
  rw [List.replicate_succ]; simp
set_option maxRecDepth 10000 in
set_option maxHeartbeats 800000 in
theorem isTree_any (n : Nat) (ao : Option Addr) (cap : Nat) (l : List Nd) (w : World) (hl : l.length ≤ 1048576) (hN : NodesAt n w ao l) (hn : n ≤ w.heap.size) :
    Calls Tryd.prog 21 #[.slice ao l.length cap] w fun e w' => e = .returned (.bool (isTreeF l)) ∧ Below w.heap.size w w' := by
  obtain ⟨res, hres⟩ : ∃ r, isTreeF l = r := ⟨_, rfl⟩
  rw [hres]
  have HRES := hid' hres
  have hmk := make_flags l.length hl
  have HN := hid' hN
  have HR1 := hid' (row_new w 4 (flags (List.replicate l.length false)))
  have HB1 := hid' ((Below.refl w.heap.size w).alloc (Nat.le_refl _) (.cells (flags (List.replicate l.length false)).toArray 4))
  clear hres hN
  go_enter Tryd.func21, Tryd.ntmps21
  go_wp2
  go_loopw [10] (fun c wr => ∃ (k : Nat) (tk : List Bool), k ≤ l.length ∧ c = .int .i64 k ∧ tk.length = k ∧ Hid (RowV wr w.heap.size 4 (flags (tk ++ List.replicate (l.length - k) false))) ∧ Hid (treeF l [] = treeF (l.drop k) tk) ∧ Hid (Below w.heap.size w wr)) (fun c _ => l.length - (intOf c).toNat)
  case atStart => exact ⟨0, [], Nat.zero_le _, rfl, rfl, HR1, hid' rfl, HB1⟩
  case round =>
    obtain ⟨k, tk, hk, rfl, htk, hr, ht, hb⟩ := hrel
    by_cases hlt : k < l.length
    · have hlt' : (k : Int) < (l.length : Int) := by omega
      obtain ⟨b, v, hao, hbn, hnode⟩ := (HN.out.keep (hb.out.mono hn) (Nat.le_refl _)).node k hlt
      have ht2 := ht.out
      rw [List.drop_eq_getElem_cons hlt, treeF] at ht2
      have hc4 := hnode.kids
      have htl : (tk ++ List.replicate (l.length - k) false).length = l.length := by simp; omega
      have HT := hid' (take_any w.heap.size n (tk ++ List.replicate (l.length - k) false) k v _ wr (by omega) hr.out hnode.list hn)
      rw [htl, List.take_left' htk, List.drop_left' htk] at HT
      generalize l[k].kids = zs at HT ht2
      subst hao
      clear hnode hr ht htl
      go_wp2_with fail
      refine (HT.out).mono ?_
      rintro e w2 ⟨rfl, ⟨T', hr2, hl2, hT'⟩, ho⟩
      cases hf : takeF zs tk with
      | none =>
        have hend : Hid (false = res) := hid' (by rw [← HRES.out]; unfold isTreeF; rw [ht2, hf])
        have HB2 := hid' (hb.out.trans (ho.below (Nat.le_refl _)))
        clear hr2 hT' ho hf HT ht2
        go_wp2
        go_ret
        exact ⟨ret_bool' hend.out, HB2.out⟩
      | some k' =>
        rw [hf] at ht2
        have hT2 := hT' k' hf
        rw [pad_next k' (l.length - k) (by omega), show l.length - k - 1 = l.length - (k + 1) by omega] at hT2
        have hl' := takeF_length hf
        have HR2 : Hid (RowV w2 w.heap.size 4 (flags ((k' ++ [false]) ++ List.replicate (l.length - (k + 1)) false))) := hid' (by rw [← hT2]; exact hr2)
        have HTR := hid' ht2
        have HB2 := hid' (hb.out.trans (ho.below (Nat.le_refl _)))
        clear hr2 hT' ho hf HT ht2 hT2
        go_wp2
        go_roundw
        case rel => exact ⟨k + 1, k' ++ [false], by omega, by go_num, by simp; omega, HR2, HTR, HB2⟩
        case measure => simp [intOf]; omega
    · obtain rfl : k = l.length := by omega
      have hr2 := hr.out
      rw [Nat.sub_self, List.replicate_zero, List.append_nil] at hr2
      have HW := hid' (whole_any w.heap.size tk wr (by omega) hr2)
      rw [htk] at HW
      have hend : Hid (wholeF tk = res) := hid' (by rw [← HRES.out]; unfold isTreeF; rw [ht.out, List.drop_eq_nil_of_le (Nat.le_refl _)]; rfl)
      clear hr2 hr ht hlt htk
      go_wp2_with fail
      refine (HW.out).mono ?_
      rintro e w2 ⟨rfl, rfl⟩
      go_wp2
      go_ret
      exact ⟨ret_bool' hend.out, hb.out⟩
end Go.Proofs.YtnjbhcjdlbmmhaaDoor
