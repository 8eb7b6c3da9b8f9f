/- What ast.Deep answers. Conditions: the nodes lie below the world's end; at most 2^20. -/
import Derived.Test.YtnjbhcjdlbmmhaaDoorAstTree
import Derived.StillTailTactics
namespace Go.Proofs.YtnjbhcjdlbmmhaaDoor
open Go.RowKit
open Lx Ax

namespace Ax
theorem treeF_length : ∀ {l : List Nd} {k k' : List Bool}, treeF l k = some k' → k'.length = k.length + l.length
  | [], k, k', h => by simp [treeF] at h; rw [h]; rfl
  | x :: r, k, k', h => by
    rw [treeF] at h
    cases h2 : takeF x.kids k with
    | none => rw [h2] at h; cases h
    | some k1 =>
      rw [h2] at h
      have := treeF_length h
      have h3 := takeF_length h2
      simp at this ⊢
      omega
theorem kids_range {l : List Nd} {K : List Bool} (h : treeF l [] = some K) (k : Nat) (hk : k < l.length) : ∀ z ∈ l[k].kids, 0 ≤ z ∧ z < k := by
  have h1 : l = l.take k ++ l.drop k := (List.take_append_drop k l).symm
  rw [h1, treeF_append] at h
  cases h2 : treeF (l.take k) [] with
  | none => rw [h2] at h; cases h
  | some k1 =>
    rw [h2, Option.bind_some, List.drop_eq_getElem_cons hk, treeF] at h
    have hl := treeF_length h2
    rw [List.length_take] at hl
    cases h3 : takeF l[k].kids k1 with
    | none => rw [h3] at h; cases h
    | some k2 =>
      intro z hz
      have := takeF_range h3 z hz
      simp at hl
      omega
def deepM (d : List Int) (m : Int) (zs : List Int) : Int := zs.foldl (fun m z => max m (d.getD z.toNat 0)) m
theorem deepsF_cons (x : Nd) (r : List Nd) (d : List Int) : deepsF (x :: r) d = deepsF r (d ++ [deepM d 0 x.kids + 1]) := rfl
theorem isTreeF_some {l : List Nd} (h : isTreeF l = true) : ∃ K, treeF l [] = some K ∧ wholeF K = true := by
  unfold isTreeF at h
  cases h2 : treeF l [] with
  | none => rw [h2] at h; cases h
  | some K => rw [h2] at h; exact ⟨K, rfl, h⟩
theorem isTreeF_pos {l : List Nd} (h : isTreeF l = true) : 0 < l.length := by
  obtain ⟨K, h1, h2⟩ := isTreeF_some h
  have := treeF_length h1
  cases K with
  | nil => simp [wholeF] at h2
  | cons a b => simp at this; omega
theorem row_put (d r : List Int) (m y : Int) (k : Nat) (h : d.length = k) : (d ++ m :: r).set k y = d ++ y :: r := by
  subst h
  rw [List.set_append, if_neg (by omega), Nat.sub_self, List.set_cons_zero]
theorem row_here (d r : List Int) (m : Int) (k : Nat) (h : d.length = k) : (d ++ m :: r)[k]? = some m := by
  subst h
  rw [List.getElem?_append_right (by omega), Nat.sub_self]; rfl
theorem row_ahead (d r : List Int) (z : Nat) (h : z < d.length) : (d ++ r)[z]? = some (d.getD z 0) := by
  rw [List.getElem?_append_left h, List.getD_eq_getElem?_getD, List.getElem?_eq_getElem h]; rfl
end Ax
set_option maxRecDepth 10000 in
set_option maxHeartbeats 800000 in
theorem deep_any (n : Nat) (ao : Option Addr) (cap : Nat) (l : List Nd) (w : World) (hl : l.length ≤ 1048576) (hN : NodesAt n w ao l) (hn : n ≤ w.heap.size) (ht : isTreeF l = true) :
    Calls Tryd.prog 8 #[.slice ao l.length cap] w fun e w' => e = .returned (.int .i64 (deepF l)) ∧ Below w.heap.size w w' := by
  have HT := hid' (isTree_any n ao cap l w hl hN hn)
  rw [ht] at HT
  have hpos := isTreeF_pos ht
  obtain ⟨K, hK, _⟩ := isTreeF_some ht
  have HKR := hid' (kids_range hK)
  obtain ⟨res, hres⟩ : ∃ r, deepF l = r := ⟨_, rfl⟩
  rw [hres]
  unfold deepF at hres
  rw [ht, if_pos rfl] at hres
  have HRES := hid' hres
  have HN := hid' hN
  clear hres hN ht hK
  go_enter Tryd.func8, Tryd.ntmps8
  go_wp2_with fail
  refine (HT.out).mono ?_
  rintro e w1 ⟨rfl, b1⟩
  have hmk := make_nums l.length hl
  have HR1 := hid' (row_new w1 3 (nums (List.replicate l.length 0)))
  have hn1 : n ≤ w1.heap.size := Nat.le_trans hn b1.size
  have HN1 := hid' (HN.out.keep (b1.mono hn) (Nat.le_refl _))
  have HB1 := hid' ((Below.refl w1.heap.size w1).alloc (Nat.le_refl _) (.cells (nums (List.replicate l.length 0)).toArray 3))
  have HB0 := hid' b1
  have hsz := b1.size
  clear b1
  go_wp2
  go_loopw [15] (fun c wr => ∃ (k : Nat) (d : List Int), k ≤ l.length ∧ c = .int .i64 k ∧ d.length = k ∧ Hid (RowV wr w1.heap.size 3 (nums (d ++ List.replicate (l.length - k) 0))) ∧ Hid (∀ v ∈ d, 1 ≤ v ∧ v ≤ k) ∧ Hid (deepsF l [] = deepsF (l.drop k) d) ∧ Hid (Below w1.heap.size w1 wr)) (fun c _ => l.length - (intOf c).toNat)
  case atStart => exact ⟨0, [], Nat.zero_le _, rfl, rfl, HR1, hid' (by simp), hid' rfl, HB1⟩
  case round =>
    obtain ⟨k, d, hk, rfl, hd, hr, hv, hf, hb⟩ := hrel
    by_cases hlt : k < l.length
    · have hlt' : (k : Int) < (l.length : Int) := by omega
      obtain ⟨b, v, hao, hbn, hnode1⟩ := HN1.out.node k hlt
      have hnode := hnode1.keep hbn (hb.out.mono hn1) (Nat.le_refl _)
      have hf2 := hf.out
      rw [List.drop_eq_getElem_cons hlt, deepsF_cons] at hf2
      have hc4 := hnode.kids
      have hkr := HKR.out k hlt
      have hlist := hnode1.list
      generalize l[k].kids = zs at hkr hf2 hlist
      have HLIST := hid' (fun W (h : Below w1.heap.size w1 W) => hlist.keep (h.mono hn1) (Nat.le_refl _))
      obtain ⟨ako, kcap, rfl, ⟨hkc, hzl⟩, _⟩ := hlist
      have HKR2 := hid' hkr
      have HF2 := hid' hf2
      subst hao
      clear hnode hnode1 hf hkr hf2
      obtain ⟨wz, rfl⟩ : ∃ wz, wz = wr := ⟨_, rfl⟩
      go_wp2
      go_loopw [24] (fun c wr => ∃ (j : Nat) (m : Int), j ≤ zs.length ∧ c = .int .i64 j ∧ Hid (RowV wr w1.heap.size 3 (nums (d ++ m :: List.replicate (l.length - k - 1) 0))) ∧ Hid (deepM d 0 zs = deepM d m (zs.drop j)) ∧ 0 ≤ m ∧ m ≤ k ∧ Hid (Below w1.heap.size w1 wr)) (fun c _ => zs.length - (intOf c).toNat)
      case atStart =>
        refine ⟨0, 0, Nat.zero_le _, rfl, hid' ?_, hid' rfl, Int.le_refl _, by omega, hb⟩
        have := hr.out
        rwa [show l.length - k = (l.length - k - 1) + 1 by omega, List.replicate_succ] at this
      case round =>
        obtain ⟨j, m, hj, rfl, hr2, hm, hm0, hmk, hb2⟩ := hrel
        by_cases hlj : j < zs.length
        · have hlj' : (j : Int) < (zs.length : Int) := by omega
          obtain ⟨zi, hzi⟩ : ∃ zi, zs[j] = zi := ⟨_, rfl⟩
          have hm2 := hm.out
          rw [List.drop_eq_getElem_cons hlj, hzi] at hm2
          have hzr := HKR2.out zi (by rw [← hzi]; exact List.getElem_mem hlj)
          obtain ⟨z, rfl⟩ : ∃ z : Nat, zi = (z : Int) := ⟨zi.toNat, by omega⟩
          obtain ⟨bk, o, hako, hcz⟩ : ∃ b o, ako = some ⟨b, o, none⟩ ∧ wr.cell? ⟨b, o + j, none⟩ = some (.int .i64 (z : Int)) := by
            obtain ⟨ao', cap', e, _, h2⟩ := HLIST.out wr hb2.out
            injection e with e1 e2 e3
            subst e1
            rcases h2 with h2 | ⟨b, o, e1, _, e3⟩
            · rw [h2] at hlj; simp at hlj
            · exact ⟨b, o, e1, e3 j _ (by rw [List.getElem?_eq_getElem hlj, hzi])⟩
          subst hako
          have hzk : z < k := by omega
          have hzl' : (z : Int) < (l.length : Int) := by omega
          have hza : z < d.length := by omega
          have hck := hr2.out.cell (nums_at (row_here d (List.replicate (l.length - k - 1) 0) m k hd))
          have hcd := hr2.out.cell (nums_at (row_ahead d (m :: List.replicate (l.length - k - 1) 0) z hza))
          have hop := hr2.out.open_ k
          have hyr := hv.out (d.getD z 0) (by rw [List.getD_eq_getElem?_getD, List.getElem?_eq_getElem hza]; exact List.getElem_mem hza)
          have hr3 := hr2.out.set k (.int .i64 (max m (d.getD z 0)))
          rw [nums_set, row_put _ _ _ _ _ hd] at hr3
          have HM3 : Hid (deepM d 0 zs = deepM d (max m (d.getD z 0)) (zs.drop (j + 1))) := hid' hm2
          generalize d.getD z 0 = y at hcd hyr hr3 HM3
          have hmax : max m y = if m < y then y else m := by split <;> omega
          rw [hmax] at hr3 HM3
          have HR3 := hid' hr3
          clear hm hm2 hr3 hzi hmax
          go_wp2
          go_still_tail 12, (by kernel_rfl)
          change wpList _ _ _ _ _ wr.drew
          go_wp2
          go_roundw
          case rel => exact ⟨j + 1, if m < y then y else m, by omega, by go_num, HR3, HM3, by split <;> omega, by split <;> omega, hid' (Below.drew ((hb2.out.setCell (Nat.le_refl _) _)))⟩
          case measure => simp [intOf]; omega
        · obtain rfl : j = zs.length := by omega
          have hm2 : deepM d 0 zs = m := by rw [hm.out, List.drop_eq_nil_of_le (Nat.le_refl _)]; rfl
          have hck := hr2.out.cell (nums_at (row_here d (List.replicate (l.length - k - 1) 0) m k hd))
          have hop := hr2.out.open_ k
          have hr3 := hr2.out.set k (.int .i64 (m + 1))
          rw [nums_set, row_put _ _ _ _ _ hd] at hr3
          have HR3 := hid' hr3
          have HF3 : Hid (deepsF l [] = deepsF (l.drop (k + 1)) (d ++ [m + 1])) := hid' (by rw [← hm2]; exact HF2.out)
          have HV3 : Hid (∀ v ∈ d ++ [m + 1], 1 ≤ v ∧ v ≤ ((k + 1 : Nat) : Int)) := hid' (fun v hv' => by
            rcases List.mem_append.1 hv' with h | h
            · have := hv.out v h; omega
            · have : v = m + 1 := by simpa using h
              omega)
          clear hm hm2 hr3 hlj
          go_wp2
          go_roundw
          case rel => exact ⟨k + 1, d ++ [m + 1], by omega, by go_num, by simp; omega, hid' (by
            have h := HR3.out
            rw [show l.length - k - 1 = l.length - (k + 1) by omega] at h
            simpa using h), HV3, HF3, hid' (hb2.out.setCell (Nat.le_refl _) _)⟩
          case measure => simp [intOf]; omega
    · obtain rfl : k = l.length := by omega
      have hr2 := hr.out
      rw [Nat.sub_self, List.replicate_zero, List.append_nil] at hr2
      have hlast : d[l.length - 1]? = some res := by
        rw [← HRES.out, hf.out, List.drop_eq_nil_of_le (Nat.le_refl _)]
        show _ = some (d.getLast?.getD 0)
        rw [List.getLast?_eq_getElem?, hd, List.getElem?_eq_getElem (by omega)]
        rfl
      have hcl := hr2.cell (nums_at hlast)
      have hm1 : (l.length : Int) - 1 = ((l.length - 1 : Nat) : Int) := by omega
      have k1 : ((l.length - 1 : Nat) : Int) < (l.length : Int) := by omega
      have HB4 := hid' (HB0.out.trans (hb.out.mono hsz))
      clear hr2 hr hv hf hlt hlast
      go_wp2
      go_ret
      exact ⟨rfl, HB4.out⟩
end Go.Proofs.YtnjbhcjdlbmmhaaDoor
