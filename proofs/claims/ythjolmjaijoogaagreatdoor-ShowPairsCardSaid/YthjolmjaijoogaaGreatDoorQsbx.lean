/- Parts of the proof, together. What the law ShowPairs lays in memory; what its signs are. Conditions: none. ShowPairs, with the pair on the left. Conditions: the words and the errors of api lie in their variables. ShowPairs, with the pair on the right. Conditions: the words and the errors of api lie in their variables. ShowPairs: any two signs over three names, in either shape, are shown so that they are parsed again the same. Conditions: the words and the errors of api lie in their variables. -/
import Derived.Test.YthjolmjaijoogaaGreatDoorQsbw
import Derived.Test.YthjolmjaijoogaaGreatDoorQsbc
namespace Go.Proofs.YthjolmjaijoogaaGreatDoor
open Go.RowKit
open Lx Ax Sw Px

theorem ops_at (i : Nat) (hi : i < 15) : (nums ops15)[i]? = some (.int .i64 (ops15.getD i 0)) ∧ ops15.getD i 0 ∈ ops15 ∧ Bin (ops15.getD i 0) := by
  have h2 : i = 0 ∨ i = 1 ∨ i = 2 ∨ i = 3 ∨ i = 4 ∨ i = 5 ∨ i = 6 ∨ i = 7 ∨ i = 8 ∨ i = 9 ∨ i = 10 ∨ i = 11 ∨ i = 12 ∨ i = 13 ∨ i = 14 := by omega
  rcases h2 with rfl | rfl | rfl | rfl | rfl | rfl | rfl | rfl | rfl | rfl | rfl | rfl | rfl | rfl | rfl <;> exact ⟨rfl, by decide, by decide⟩
theorem two_kids (W : World) (B : Nat) (hB : B ≤ W.heap.size) (y z : Int) : OwnZ (W.alloc (.cells #[.int .i64 y, .int .i64 z] 3)) B (.slice (some ⟨W.heap.size, 0, none⟩) 2 2) [y, z] := OwnZ.lit W B hB [y, z] (by simp) #[.int .i64 y, .int .i64 z] rfl
/-- The five nodes. -/
theorem pair_src {W : World} {g B k1 k2 : Nat} {a b : Int} {right : Bool} {zs : List Int} (hz : zs = if right then [3, 2] else [2, 3]) (hr : RowV W g 39 (nodesC (pairL a b right) [.slice none 0 0, .slice none 0 0, .slice (some ⟨k1, 0, none⟩) 2 2, .slice none 0 0, .slice (some ⟨k2, 0, none⟩) 2 2]))
    (h1 : OwnZ W B (.slice (some ⟨k1, 0, none⟩) 2 2) [0, 1]) (h2 : OwnZ W B (.slice (some ⟨k2, 0, none⟩) 2 2) zs) : NSrc W g (pairL a b right) [.slice none 0 0, .slice none 0 0, .slice (some ⟨k1, 0, none⟩) 2 2, .slice none 0 0, .slice (some ⟨k2, 0, none⟩) 2 2] := by
  subst hz
  have hl : (if right then ([3, 2] : List Int) else [2, 3]).length ≤ 1048576 := by cases right <;> simp
  refine ⟨fun j u hu => hr.cell hu, nodesC_one _ _ (fun v hv => by simp only [List.mem_cons, List.not_mem_nil, or_false] at hv; rcases hv with hv | hv | hv | hv | hv <;> (rw [hv]; rfl)), hr.lt, rfl, fun j x u hx hu => ?_⟩
  match j, hx, hu with
  | 0, hx, hu => simp [pairL] at hx hu; subst hx hu; exact (OwnZ.nil W B).kids (by simp)
  | 1, hx, hu => simp [pairL] at hx hu; subst hx hu; exact (OwnZ.nil W B).kids (by simp)
  | 2, hx, hu => simp [pairL] at hx hu; subst hx hu; exact h1.kids (by simp)
  | 3, hx, hu => simp [pairL] at hx hu; subst hx hu; exact (OwnZ.nil W B).kids (by simp)
  | 4, hx, hu => simp [pairL] at hx hu; subst hx hu; exact h2.kids hl
  | j + 5, hx, hu => simp [pairL] at hx
theorem pair_parts {a b : Int} {right : Bool} (h : pairOK a b right = true) : ∃ t m, shows (pairL a b right) t = true ∧ Px.treeF 60 .alone t = some (.ok m) ∧ samePairs right (pairL a b right) m = true ∧ t.any (· == 40) = mustF a b right ∧ t.length ≤ 1000 := by
  unfold pairOK at h
  simp only [Bool.and_eq_true, beq_iff_eq] at h
  obtain ⟨⟨h1, h2⟩, h3⟩ := h
  split at h2
  · rename_i m hm
    have h4 := h1
    unfold shows at h4
    simp only [Bool.and_eq_true, decide_eq_true_eq, beq_iff_eq] at h4
    exact ⟨_, m, h1, hm, h2, h3, h4.1.1.2⟩
  · cases h2
theorem same_parts {right : Bool} {l m : List Nd} (hl : l.length = 5) (h : samePairs right l m = true) : isTreeF l = true ∧ isTreeF m = true ∧ m.length = 5 ∧ qR right (l.length - 1) = m.length - 1 ∧ ∀ (i : Nat) x, l[i]? = some x → ∃ y, m[qR right i]? = some y ∧ y.op = x.op ∧ y.n = x.n ∧ y.s = x.s ∧ y.kids = x.kids.map (fun z => (qR right z.toNat : Int)) := by
  unfold samePairs at h
  simp only [Bool.and_eq_true, beq_iff_eq] at h
  obtain ⟨⟨⟨h1, h2⟩, h3⟩, h4⟩ := h
  refine ⟨h1, h2, h3, by rw [hl, h3]; cases right <;> rfl, fun i x hx => ?_⟩
  have hi := (List.getElem?_eq_some_iff.1 hx).1
  have h5 := List.all_eq_true.1 h4 i (List.mem_range.2 (by omega))
  rw [hx] at h5
  split at h5
  · rename_i x' y e1 e2
    injection e1 with e1
    subst e1
    simp only [Bool.and_eq_true, beq_iff_eq] at h5
    exact ⟨y, e2, h5.1.1.1, h5.1.1.2, ba_inj h5.1.2, h5.2⟩
  · cases h5
set_option maxRecDepth 100000 in
set_option maxHeartbeats 800000 in
theorem same_nil (w : World) : Calls Tryz.prog 28 #[.nilIface, bare 0] w (tells (.bool true) w) := by
  have HF := hid' (fun W => Fault_nil W)
  unfold bare
  go_enter Tryz.func28, Tryz.ntmps28
  go_wp2_with fail
  have hb0 : Below w.heap.size w (w.alloc (.cells (bareRow 0) 32)) := (Below.refl _ _).alloc (Nat.le_refl _) _
  go_region_with (first | (go_at_call 9; refine (HF.out _).mono ?_; rintro e w1 ⟨rfl, hb1⟩; obtain ⟨c0, c1, c2, c3, c4⟩ := row_cells (row_drew hb1)) | (go_at_call 53; refine (SameFault_bare _ _ _).mono ?_; rintro e w2 ⟨rfl, hb2⟩))
  all_goals go_wp2
  all_goals go_ret
  all_goals exact ⟨rfl, hb0.drew.trans (hb1.mono (by show w.heap.size ≤ (w.alloc _).heap.size; simp)) |>.trans (hb2.mono (Nat.le_trans (by show w.heap.size ≤ (w.alloc _).heap.size; simp) hb1.size))⟩
theorem is_nil (w : World) : Calls Tryz.prog 15 #[.nilIface, .int .i64 0] w fun e w' => e = .returned (.bool true) ∧ Below w.heap.size w w' := by
  have HB := hid' (Bare_any 0 w)
  have HF := hid' (fun W => same_nil W)
  go_enter Tryz.func15, Tryz.ntmps15
  go_wp2_with fail
  refine HB.out.mono ?_
  rintro e w1 ⟨rfl, hb1⟩
  go_wp2_with fail
  refine (HF.out _).mono ?_
  rintro e w2 ⟨rfl, hb2⟩
  go_wp2
  go_ret
  exact ⟨rfl, hb1.trans (hb2.mono hb1.size)⟩
end Go.Proofs.YthjolmjaijoogaaGreatDoor

namespace Go.Proofs.YthjolmjaijoogaaGreatDoor
open Go.RowKit
open Lx Ax Sw Px

set_option maxRecDepth 20000 in
set_option maxHeartbeats 12800000 in
theorem pairs_false (A : Nat → Addr) (x y : Int) (W : World) (h : PCx A W) : Calls Tryz.prog 4 #[.int .i64 x, .int .i64 y, .bool false] W fun e w' => e = .returned (.bool true) ∧ Below W.heap.size W w' := by
  have hnot : ∀ (x : Bool) (w : World), (Op.unary .not (.bool x)).run Tryz.prog w = .ok (.bool (!x)) w := fun _ _ => rfl
  have hnn := neq_none
  have HF := hid' (sfirst_any A W h)
  have HCX := hid' h
  obtain ⟨i, e1, hi⟩ := foldR_is x 15 (by omega)
  obtain ⟨k, e2, hk⟩ := foldR_is y 15 (by omega)
  have m1 := foldR_le x 15 (by omega)
  have m2 := foldR_le y 15 (by omega)
  rw [show ((15 : Nat) : Int) = 15 from rfl] at e1 e2 m1 m2
  obtain ⟨mx, hmx⟩ : ∃ m, x.tmod 15 = m := ⟨_, rfl⟩
  obtain ⟨my, hmy⟩ : ∃ m, y.tmod 15 = m := ⟨_, rfl⟩
  rw [hmx] at e1 m1
  rw [hmy] at e2 m2
  have hii : (0 : Int) ≤ (i : Int) ∧ (i : Int) < 15 := by omega
  have hkk : (0 : Int) ≤ (k : Int) ∧ (k : Int) < 15 := by omega
  obtain ⟨hai, hma, hba⟩ := ops_at i hi
  obtain ⟨hak, hmb, hbb⟩ := ops_at k hk
  obtain ⟨a, hae⟩ : ∃ a, ops15.getD i 0 = a := ⟨_, rfl⟩
  obtain ⟨b, hbe⟩ : ∃ b, ops15.getD k 0 = b := ⟨_, rfl⟩
  rw [hae] at hai hma hba
  rw [hbe] at hak hmb hbb
  obtain ⟨t, m, hsh, htm, hsp, hmu, htl⟩ := pair_parts (pair_all a b hma hmb false)
  have HSP := hid' (same_parts rfl hsp)
  have HSH := hid' hsh
  have HTM := hid' htm
  have HMU := hid' hmu
  have HAI := hid' hai
  have HAK := hid' hak
  have HRA := hid' (rank_any a (.inr hba))
  have HRB := hid' (rank_any b (.inr hbb))
  clear h hsh htm hsp hmu hai hak hae hbe hma hmb hba hbb hi hk
  go_enter Tryz.func4, Tryz.ntmps4
  go_wp2_with fail
  refine Calls.mono HF.out ?_
  rintro e w1 ⟨rfl, b1⟩
  have HB1 := hid' b1
  clear b1 HF
  have sz1 : (w1.alloc (.cells #[.int .i64 18, .int .i64 19, .int .i64 21, .int .i64 22, .int .i64 23, .int .i64 24, .int .i64 25, .int .i64 26, .int .i64 27, .int .i64 28, .int .i64 29, .int .i64 30, .int .i64 31, .int .i64 32, .int .i64 33] 3)).heap.size = w1.heap.size + 1 := by simp
  have sz2 : ((w1.alloc (.cells #[.int .i64 18, .int .i64 19, .int .i64 21, .int .i64 22, .int .i64 23, .int .i64 24, .int .i64 25, .int .i64 26, .int .i64 27, .int .i64 28, .int .i64 29, .int .i64 30, .int .i64 31, .int .i64 32, .int .i64 33] 3)).alloc (.cells #[.int .i64 0, .int .i64 1] 3)).heap.size = w1.heap.size + 1 + 1 := by simp
  have sz3 : (((w1.alloc (.cells #[.int .i64 18, .int .i64 19, .int .i64 21, .int .i64 22, .int .i64 23, .int .i64 24, .int .i64 25, .int .i64 26, .int .i64 27, .int .i64 28, .int .i64 29, .int .i64 30, .int .i64 31, .int .i64 32, .int .i64 33] 3)).alloc (.cells #[.int .i64 0, .int .i64 1] 3)).alloc (.cells #[.int .i64 2, .int .i64 3] 3)).heap.size = w1.heap.size + 1 + 1 + 1 := by simp
  have sz4 : ((((w1.alloc (.cells #[.int .i64 18, .int .i64 19, .int .i64 21, .int .i64 22, .int .i64 23, .int .i64 24, .int .i64 25, .int .i64 26, .int .i64 27, .int .i64 28, .int .i64 29, .int .i64 30, .int .i64 31, .int .i64 32, .int .i64 33] 3)).alloc (.cells #[.int .i64 0, .int .i64 1] 3)).alloc (.cells #[.int .i64 2, .int .i64 3] 3)).alloc (.cells #[.int .i64 6, .int .i64 0, .int .i64 0, .string ⟨#[112]⟩, .slice none 0 0, .int .i64 6, .int .i64 0, .int .i64 0, .string ⟨#[113]⟩, .slice none 0 0, .int .i64 a, .int .i64 0, .int .i64 0, .string ⟨#[]⟩, .slice (some ⟨w1.heap.size + 1, 0, none⟩) 2 2, .int .i64 6, .int .i64 0, .int .i64 0, .string ⟨#[114]⟩, .slice none 0 0, .int .i64 b, .int .i64 0, .int .i64 0, .string ⟨#[]⟩, .slice (some ⟨w1.heap.size + 1 + 1, 0, none⟩) 2 2] 39)).heap.size = w1.heap.size + 1 + 1 + 1 + 1 := by simp
  have hsz1 := HB1.out.size
  have hOP : RowV (w1.alloc (.cells #[.int .i64 18, .int .i64 19, .int .i64 21, .int .i64 22, .int .i64 23, .int .i64 24, .int .i64 25, .int .i64 26, .int .i64 27, .int .i64 28, .int .i64 29, .int .i64 30, .int .i64 31, .int .i64 32, .int .i64 33] 3)) w1.heap.size 3 (nums ops15) := row_new w1 3 (nums ops15)
  have ci := hOP.cell HAI.out
  have ck := hOP.cell HAK.out
  have o1 : OwnZ ((((w1.alloc (.cells #[.int .i64 18, .int .i64 19, .int .i64 21, .int .i64 22, .int .i64 23, .int .i64 24, .int .i64 25, .int .i64 26, .int .i64 27, .int .i64 28, .int .i64 29, .int .i64 30, .int .i64 31, .int .i64 32, .int .i64 33] 3)).alloc (.cells #[.int .i64 0, .int .i64 1] 3)).alloc (.cells #[.int .i64 2, .int .i64 3] 3)).alloc (.cells #[.int .i64 6, .int .i64 0, .int .i64 0, .string ⟨#[112]⟩, .slice none 0 0, .int .i64 6, .int .i64 0, .int .i64 0, .string ⟨#[113]⟩, .slice none 0 0, .int .i64 a, .int .i64 0, .int .i64 0, .string ⟨#[]⟩, .slice (some ⟨w1.heap.size + 1, 0, none⟩) 2 2, .int .i64 6, .int .i64 0, .int .i64 0, .string ⟨#[114]⟩, .slice none 0 0, .int .i64 b, .int .i64 0, .int .i64 0, .string ⟨#[]⟩, .slice (some ⟨w1.heap.size + 1 + 1, 0, none⟩) 2 2] 39)) 0 (.slice (some ⟨w1.heap.size + 1, 0, none⟩) 2 2) [0, 1] := by
    have h := two_kids (w1.alloc (.cells #[.int .i64 18, .int .i64 19, .int .i64 21, .int .i64 22, .int .i64 23, .int .i64 24, .int .i64 25, .int .i64 26, .int .i64 27, .int .i64 28, .int .i64 29, .int .i64 30, .int .i64 31, .int .i64 32, .int .i64 33] 3)) 0 (Nat.zero_le _) 0 1
    rw [sz1] at h
    exact (h.keep fun k _ hk => Below.heap_alloc _ _ _ hk).keep fun k _ hk => Below.heap_alloc _ _ _ hk
  have o2 : OwnZ ((((w1.alloc (.cells #[.int .i64 18, .int .i64 19, .int .i64 21, .int .i64 22, .int .i64 23, .int .i64 24, .int .i64 25, .int .i64 26, .int .i64 27, .int .i64 28, .int .i64 29, .int .i64 30, .int .i64 31, .int .i64 32, .int .i64 33] 3)).alloc (.cells #[.int .i64 0, .int .i64 1] 3)).alloc (.cells #[.int .i64 2, .int .i64 3] 3)).alloc (.cells #[.int .i64 6, .int .i64 0, .int .i64 0, .string ⟨#[112]⟩, .slice none 0 0, .int .i64 6, .int .i64 0, .int .i64 0, .string ⟨#[113]⟩, .slice none 0 0, .int .i64 a, .int .i64 0, .int .i64 0, .string ⟨#[]⟩, .slice (some ⟨w1.heap.size + 1, 0, none⟩) 2 2, .int .i64 6, .int .i64 0, .int .i64 0, .string ⟨#[114]⟩, .slice none 0 0, .int .i64 b, .int .i64 0, .int .i64 0, .string ⟨#[]⟩, .slice (some ⟨w1.heap.size + 1 + 1, 0, none⟩) 2 2] 39)) 0 (.slice (some ⟨w1.heap.size + 1 + 1, 0, none⟩) 2 2) [2, 3] := by
    have h := two_kids ((w1.alloc (.cells #[.int .i64 18, .int .i64 19, .int .i64 21, .int .i64 22, .int .i64 23, .int .i64 24, .int .i64 25, .int .i64 26, .int .i64 27, .int .i64 28, .int .i64 29, .int .i64 30, .int .i64 31, .int .i64 32, .int .i64 33] 3)).alloc (.cells #[.int .i64 0, .int .i64 1] 3)) 0 (Nat.zero_le _) 2 3
    rw [sz2] at h
    exact h.keep fun k _ hk => Below.heap_alloc _ _ _ hk
  have rn : RowV ((((w1.alloc (.cells #[.int .i64 18, .int .i64 19, .int .i64 21, .int .i64 22, .int .i64 23, .int .i64 24, .int .i64 25, .int .i64 26, .int .i64 27, .int .i64 28, .int .i64 29, .int .i64 30, .int .i64 31, .int .i64 32, .int .i64 33] 3)).alloc (.cells #[.int .i64 0, .int .i64 1] 3)).alloc (.cells #[.int .i64 2, .int .i64 3] 3)).alloc (.cells #[.int .i64 6, .int .i64 0, .int .i64 0, .string ⟨#[112]⟩, .slice none 0 0, .int .i64 6, .int .i64 0, .int .i64 0, .string ⟨#[113]⟩, .slice none 0 0, .int .i64 a, .int .i64 0, .int .i64 0, .string ⟨#[]⟩, .slice (some ⟨w1.heap.size + 1, 0, none⟩) 2 2, .int .i64 6, .int .i64 0, .int .i64 0, .string ⟨#[114]⟩, .slice none 0 0, .int .i64 b, .int .i64 0, .int .i64 0, .string ⟨#[]⟩, .slice (some ⟨w1.heap.size + 1 + 1, 0, none⟩) 2 2] 39)) (w1.heap.size + 1 + 1 + 1) 39 (nodesC (pairL a b false) [.slice none 0 0, .slice none 0 0, .slice (some ⟨w1.heap.size + 1, 0, none⟩) 2 2, .slice none 0 0, .slice (some ⟨w1.heap.size + 1 + 1, 0, none⟩) 2 2]) := by
    have h := row_new (((w1.alloc (.cells #[.int .i64 18, .int .i64 19, .int .i64 21, .int .i64 22, .int .i64 23, .int .i64 24, .int .i64 25, .int .i64 26, .int .i64 27, .int .i64 28, .int .i64 29, .int .i64 30, .int .i64 31, .int .i64 32, .int .i64 33] 3)).alloc (.cells #[.int .i64 0, .int .i64 1] 3)).alloc (.cells #[.int .i64 2, .int .i64 3] 3)) 39 (nodesC (pairL a b false) [.slice none 0 0, .slice none 0 0, .slice (some ⟨w1.heap.size + 1, 0, none⟩) 2 2, .slice none 0 0, .slice (some ⟨w1.heap.size + 1 + 1, 0, none⟩) 2 2])
    rw [sz3] at h
    exact h
  have bD : Below W.heap.size W ((((w1.alloc (.cells #[.int .i64 18, .int .i64 19, .int .i64 21, .int .i64 22, .int .i64 23, .int .i64 24, .int .i64 25, .int .i64 26, .int .i64 27, .int .i64 28, .int .i64 29, .int .i64 30, .int .i64 31, .int .i64 32, .int .i64 33] 3)).alloc (.cells #[.int .i64 0, .int .i64 1] 3)).alloc (.cells #[.int .i64 2, .int .i64 3] 3)).alloc (.cells #[.int .i64 6, .int .i64 0, .int .i64 0, .string ⟨#[112]⟩, .slice none 0 0, .int .i64 6, .int .i64 0, .int .i64 0, .string ⟨#[113]⟩, .slice none 0 0, .int .i64 a, .int .i64 0, .int .i64 0, .string ⟨#[]⟩, .slice (some ⟨w1.heap.size + 1, 0, none⟩) 2 2, .int .i64 6, .int .i64 0, .int .i64 0, .string ⟨#[114]⟩, .slice none 0 0, .int .i64 b, .int .i64 0, .int .i64 0, .string ⟨#[]⟩, .slice (some ⟨w1.heap.size + 1 + 1, 0, none⟩) 2 2] 39)) := ((((HB1.out.alloc (by omega) _).alloc (by rw [sz1]; omega) _).alloc (by rw [sz2]; omega) _).alloc (by rw [sz3]; omega) _)
  have HNS := hid' (pair_src (right := false) (zs := [2, 3]) rfl rn o1 o2)
  have HBN := hid' bD
  clear hOP o1 rn sz1 sz2 sz3 sz4 hsz1 o2 bD
  go_wp2_with fail
  refine Calls.mono (show_of (HCX.out.below HBN.out) HNS.out rfl HSH.out) ?_
  rintro e w5 ⟨rfl, b5⟩
  have HN5 := hid' (HNS.out.below b5)
  have HB5 := hid' (Below.thenB HBN.out b5)
  clear b5 HNS HBN
  generalize w1.heap.size + 1 + 1 + 1 = gn at HN5 ⊢
  obtain ⟨sB, hsB⟩ : ∃ s, txt t = s := ⟨_, rfl⟩
  rw [hsB]
  have hsl : sB.data.toList = t := by rw [← hsB]; rfl
  have hsz : sB.size = t.length := by rw [← hsB]; rfl
  have HX := hid' (expr_any A sB (by omega) w5 (HCX.out.below HB5.out).vars (HCX.out.below HB5.out).ev 60 _ (by rw [hsl]; exact HTM.out))
  have HSL := hid' hsl
  clear hsB hsl
  go_wp2_with fail
  refine Calls.mono HX.out ?_
  rintro e w6 ⟨b6, B6, vl6, vs6, rfl, hB6, hT6⟩
  obtain ⟨gm, cm, rfl⟩ := tr_form hT6 (by rw [HSP.out.2.2.1]; omega)
  have hNm := hT6.nodesAt
  have HN6 := hid' (HN5.out.below b6)
  have HB6 := hid' (Below.thenB HB5.out b6)
  have HSM := hid' (same_two (qR false) w6.heap.size (some ⟨gn, 0, none⟩) 5 (pairL a b false) (some ⟨gm, 0, none⟩) cm m w6 (show 5 ≤ 100000 by decide) HN6.out.nodesAt (by rw [HSP.out.2.2.1]; omega) hNm (Nat.le_refl _) HSP.out.1 HSP.out.2.1 HSP.out.2.2.2.1 HSP.out.2.2.2.2)
  rw [HSP.out.2.2.1, show (pairL a b false).length = 5 from rfl] at HSM
  rw [HSP.out.2.2.1]
  clear b6 hB6 hT6 hNm HX HN5 HB5 HN6
  go_wp2_with fail
  refine Calls.mono HSM.out ?_
  rintro e w7 ⟨rfl, b7⟩
  have HB7 := hid' (Below.thenB HB6.out b7)
  clear b7 HSM HB6
  obtain ⟨n, hn⟩ : ∃ n, sB.size = n := ⟨_, rfl⟩
  have HTL : Hid (sB.data.toList.length = n) := hid' (by rw [← hn, Array.length_toList]; rfl)
  go_wp2
  go_loopw [16, 17] (fun u c wq => ∃ j : Nat, j ≤ sB.size ∧ c = .int .i64 (j : Int) ∧ u = .bool ((t.take j).any (· == 40)) ∧ wq = w7) (fun _ c _ => sB.size - (intOf c).toNat)
  case atStart => exact ⟨0, Nat.zero_le _, rfl, rfl, rfl⟩
  case round =>
    obtain ⟨j, hj, rfl, rfl, rfl⟩ := hrel
    by_cases hlt : j < sB.size
    · have hlt' : (j : Int) < (sB.size : Int) := by omega
      have hat := drop_at sB j hlt
      have hany : Hid ((t.take (j + 1)).any (· == 40) = ((t.take j).any (· == 40) || sB[j] == 40)) := hid' (by
        rw [← HSL.out, List.take_succ_eq_append_getElem (by rw [Array.length_toList]; exact hlt), List.any_append]
        simp
        rfl)
      have hb : (sB[j] == 40) = ((sB[j].toNat : Int) == 40) := by rw [Bool.eq_iff_iff]; simp [← UInt8.toNat_inj]; omega
      rw [hb] at hany
      have hlt2 : j < t.length := by rw [← hsz]; exact hlt
      have hidx : ∀ W, (Instr.index 9 (.string sB) (.int .i64 (j : Int))).run Tryz.prog W = .ok (.int .u8 (sB[j].toNat : Int)) W := fun W => by go_simp
      generalize (sB[j].toNat : Int) = y at hany hidx
      generalize (t.take j).any (· == 40) = bj at hany ⊢
      clear hat hb
      cases bj with
      | true =>
        go_wp2
        go_roundw
        case rel => exact ⟨j + 1, by omega, by go_num, by rw [hany.out]; rfl, trivial⟩
        case measure => simp [intOf]; omega
      | false =>
        by_cases h40 : y = 40
        · subst h40
          go_wp2
          go_roundw
          case rel => exact ⟨j + 1, by omega, by go_num, by rw [hany.out]; rfl, trivial⟩
          case measure => simp [intOf]; omega
        · have h40' : (y == 40) = false := by simpa using h40
          rw [h40'] at hany
          go_wp2
          go_roundw
          case rel => exact ⟨j + 1, by omega, by go_num, by rw [hany.out]; rfl, trivial⟩
          case measure => simp [intOf]; omega
    · obtain rfl : j = sB.size := by omega
      have hfull : t.take sB.size = t := by rw [hsz, List.take_length]
      rw [hfull, HMU.out]
      clear hlt hj hfull
      obtain ⟨mv, hmv⟩ : ∃ v, mustF a b false = v := ⟨_, rfl⟩
      rw [hmv]
      unfold mustF at hmv
      generalize rankF a = rx at HRA hmv
      generalize rankF b = ry at HRB hmv
      have HMV := hid' hmv
      clear hmv
      go_wp2_with fail
      refine Calls.mono (HRA.out _) ?_
      rintro e w8 ⟨rfl, rfl⟩
      go_wp2_with fail
      refine Calls.mono (HRB.out _) ?_
      rintro e w8 ⟨rfl, rfl⟩
      by_cases c1 : rx < ry
      · obtain rfl : mv = true := by rw [← HMV.out]; simp [c1]
        go_wp2_with fail
        refine Calls.mono (is_nil _) ?_
        rintro e w9 ⟨rfl, b9⟩
        have b10 := Below.thenB HB7.out b9
        go_wp2
        go_returns
        exact ⟨by first | rfl | exact ret_bool' (by simp; omega), b10⟩
      by_cases c3 : rx = 5
      · have q3 : (rx == 5) = true := by simpa using c3
        by_cases c4 : ry = 5
        · have q4 : (ry == 5) = true := by simpa using c4
          obtain rfl : mv = true := by rw [← HMV.out]; simp [c3, c4]
          go_wp2_with fail
          refine Calls.mono (is_nil _) ?_
          rintro e w9 ⟨rfl, b9⟩
          have b10 := Below.thenB HB7.out b9
          go_wp2
          go_returns
          exact ⟨by first | rfl | exact ret_bool' (by simp; omega), b10⟩
        · have q4 : (ry == 5) = false := by simpa using c4
          obtain rfl : mv = false := by rw [← HMV.out, q4]; simp [c1]
          go_wp2_with fail
          refine Calls.mono (is_nil _) ?_
          rintro e w9 ⟨rfl, b9⟩
          have b10 := Below.thenB HB7.out b9
          go_wp2
          go_returns
          exact ⟨by first | rfl | exact ret_bool' (by simp; omega), b10⟩
      · have q3 : (rx == 5) = false := by simpa using c3
        obtain rfl : mv = false := by rw [← HMV.out, q3]; simp [c1]
        go_wp2_with fail
        refine Calls.mono (is_nil _) ?_
        rintro e w9 ⟨rfl, b9⟩
        have b10 := Below.thenB HB7.out b9
        go_wp2
        go_returns
        exact ⟨by first | rfl | exact ret_bool' (by simp; omega), b10⟩
end Go.Proofs.YthjolmjaijoogaaGreatDoor

namespace Go.Proofs.YthjolmjaijoogaaGreatDoor
open Go.RowKit
open Lx Ax Sw Px

set_option maxRecDepth 20000 in
set_option maxHeartbeats 12800000 in
theorem pairs_true (A : Nat → Addr) (x y : Int) (W : World) (h : PCx A W) : Calls Tryz.prog 4 #[.int .i64 x, .int .i64 y, .bool true] W fun e w' => e = .returned (.bool true) ∧ Below W.heap.size W w' := by
  have hnot : ∀ (x : Bool) (w : World), (Op.unary .not (.bool x)).run Tryz.prog w = .ok (.bool (!x)) w := fun _ _ => rfl
  have hnn := neq_none
  have HF := hid' (sfirst_any A W h)
  have HCX := hid' h
  obtain ⟨i, e1, hi⟩ := foldR_is x 15 (by omega)
  obtain ⟨k, e2, hk⟩ := foldR_is y 15 (by omega)
  have m1 := foldR_le x 15 (by omega)
  have m2 := foldR_le y 15 (by omega)
  rw [show ((15 : Nat) : Int) = 15 from rfl] at e1 e2 m1 m2
  obtain ⟨mx, hmx⟩ : ∃ m, x.tmod 15 = m := ⟨_, rfl⟩
  obtain ⟨my, hmy⟩ : ∃ m, y.tmod 15 = m := ⟨_, rfl⟩
  rw [hmx] at e1 m1
  rw [hmy] at e2 m2
  have hii : (0 : Int) ≤ (i : Int) ∧ (i : Int) < 15 := by omega
  have hkk : (0 : Int) ≤ (k : Int) ∧ (k : Int) < 15 := by omega
  obtain ⟨hai, hma, hba⟩ := ops_at i hi
  obtain ⟨hak, hmb, hbb⟩ := ops_at k hk
  obtain ⟨a, hae⟩ : ∃ a, ops15.getD i 0 = a := ⟨_, rfl⟩
  obtain ⟨b, hbe⟩ : ∃ b, ops15.getD k 0 = b := ⟨_, rfl⟩
  rw [hae] at hai hma hba
  rw [hbe] at hak hmb hbb
  obtain ⟨t, m, hsh, htm, hsp, hmu, htl⟩ := pair_parts (pair_all a b hma hmb true)
  have HSP := hid' (same_parts rfl hsp)
  have HSH := hid' hsh
  have HTM := hid' htm
  have HMU := hid' hmu
  have HAI := hid' hai
  have HAK := hid' hak
  have HRA := hid' (rank_any a (.inr hba))
  have HRB := hid' (rank_any b (.inr hbb))
  clear h hsh htm hsp hmu hai hak hae hbe hma hmb hba hbb hi hk
  go_enter Tryz.func4, Tryz.ntmps4
  go_wp2_with fail
  refine Calls.mono HF.out ?_
  rintro e w1 ⟨rfl, b1⟩
  have HB1 := hid' b1
  clear b1 HF
  have sz1 : (w1.alloc (.cells #[.int .i64 18, .int .i64 19, .int .i64 21, .int .i64 22, .int .i64 23, .int .i64 24, .int .i64 25, .int .i64 26, .int .i64 27, .int .i64 28, .int .i64 29, .int .i64 30, .int .i64 31, .int .i64 32, .int .i64 33] 3)).heap.size = w1.heap.size + 1 := by simp
  have sz2 : ((w1.alloc (.cells #[.int .i64 18, .int .i64 19, .int .i64 21, .int .i64 22, .int .i64 23, .int .i64 24, .int .i64 25, .int .i64 26, .int .i64 27, .int .i64 28, .int .i64 29, .int .i64 30, .int .i64 31, .int .i64 32, .int .i64 33] 3)).alloc (.cells #[.int .i64 0, .int .i64 1] 3)).heap.size = w1.heap.size + 1 + 1 := by simp
  have sz3 : (((w1.alloc (.cells #[.int .i64 18, .int .i64 19, .int .i64 21, .int .i64 22, .int .i64 23, .int .i64 24, .int .i64 25, .int .i64 26, .int .i64 27, .int .i64 28, .int .i64 29, .int .i64 30, .int .i64 31, .int .i64 32, .int .i64 33] 3)).alloc (.cells #[.int .i64 0, .int .i64 1] 3)).alloc (.cells #[.int .i64 2, .int .i64 3] 3)).heap.size = w1.heap.size + 1 + 1 + 1 := by simp
  have sz4 : ((((w1.alloc (.cells #[.int .i64 18, .int .i64 19, .int .i64 21, .int .i64 22, .int .i64 23, .int .i64 24, .int .i64 25, .int .i64 26, .int .i64 27, .int .i64 28, .int .i64 29, .int .i64 30, .int .i64 31, .int .i64 32, .int .i64 33] 3)).alloc (.cells #[.int .i64 0, .int .i64 1] 3)).alloc (.cells #[.int .i64 2, .int .i64 3] 3)).alloc (.cells #[.int .i64 6, .int .i64 0, .int .i64 0, .string ⟨#[112]⟩, .slice none 0 0, .int .i64 6, .int .i64 0, .int .i64 0, .string ⟨#[113]⟩, .slice none 0 0, .int .i64 a, .int .i64 0, .int .i64 0, .string ⟨#[]⟩, .slice (some ⟨w1.heap.size + 1, 0, none⟩) 2 2, .int .i64 6, .int .i64 0, .int .i64 0, .string ⟨#[114]⟩, .slice none 0 0, .int .i64 b, .int .i64 0, .int .i64 0, .string ⟨#[]⟩, .slice (some ⟨w1.heap.size + 1 + 1 + 1 + 1, 0, none⟩) 2 2] 39)).heap.size = w1.heap.size + 1 + 1 + 1 + 1 := by simp
  have hsz1 := HB1.out.size
  have hOP : RowV (w1.alloc (.cells #[.int .i64 18, .int .i64 19, .int .i64 21, .int .i64 22, .int .i64 23, .int .i64 24, .int .i64 25, .int .i64 26, .int .i64 27, .int .i64 28, .int .i64 29, .int .i64 30, .int .i64 31, .int .i64 32, .int .i64 33] 3)) w1.heap.size 3 (nums ops15) := row_new w1 3 (nums ops15)
  have ci := hOP.cell HAI.out
  have ck := hOP.cell HAK.out
  have o1 : OwnZ (((((w1.alloc (.cells #[.int .i64 18, .int .i64 19, .int .i64 21, .int .i64 22, .int .i64 23, .int .i64 24, .int .i64 25, .int .i64 26, .int .i64 27, .int .i64 28, .int .i64 29, .int .i64 30, .int .i64 31, .int .i64 32, .int .i64 33] 3)).alloc (.cells #[.int .i64 0, .int .i64 1] 3)).alloc (.cells #[.int .i64 2, .int .i64 3] 3)).alloc (.cells #[.int .i64 6, .int .i64 0, .int .i64 0, .string ⟨#[112]⟩, .slice none 0 0, .int .i64 6, .int .i64 0, .int .i64 0, .string ⟨#[113]⟩, .slice none 0 0, .int .i64 a, .int .i64 0, .int .i64 0, .string ⟨#[]⟩, .slice (some ⟨w1.heap.size + 1, 0, none⟩) 2 2, .int .i64 6, .int .i64 0, .int .i64 0, .string ⟨#[114]⟩, .slice none 0 0, .int .i64 b, .int .i64 0, .int .i64 0, .string ⟨#[]⟩, .slice (some ⟨w1.heap.size + 1 + 1 + 1 + 1, 0, none⟩) 2 2] 39)).alloc (.cells #[.int .i64 3, .int .i64 2] 3)) 0 (.slice (some ⟨w1.heap.size + 1, 0, none⟩) 2 2) [0, 1] := by
    have h := two_kids (w1.alloc (.cells #[.int .i64 18, .int .i64 19, .int .i64 21, .int .i64 22, .int .i64 23, .int .i64 24, .int .i64 25, .int .i64 26, .int .i64 27, .int .i64 28, .int .i64 29, .int .i64 30, .int .i64 31, .int .i64 32, .int .i64 33] 3)) 0 (Nat.zero_le _) 0 1
    rw [sz1] at h
    exact ((h.keep fun k _ hk => Below.heap_alloc _ _ _ hk).keep fun k _ hk => Below.heap_alloc _ _ _ hk).keep fun k _ hk => Below.heap_alloc _ _ _ hk
  have o3 : OwnZ (((((w1.alloc (.cells #[.int .i64 18, .int .i64 19, .int .i64 21, .int .i64 22, .int .i64 23, .int .i64 24, .int .i64 25, .int .i64 26, .int .i64 27, .int .i64 28, .int .i64 29, .int .i64 30, .int .i64 31, .int .i64 32, .int .i64 33] 3)).alloc (.cells #[.int .i64 0, .int .i64 1] 3)).alloc (.cells #[.int .i64 2, .int .i64 3] 3)).alloc (.cells #[.int .i64 6, .int .i64 0, .int .i64 0, .string ⟨#[112]⟩, .slice none 0 0, .int .i64 6, .int .i64 0, .int .i64 0, .string ⟨#[113]⟩, .slice none 0 0, .int .i64 a, .int .i64 0, .int .i64 0, .string ⟨#[]⟩, .slice (some ⟨w1.heap.size + 1, 0, none⟩) 2 2, .int .i64 6, .int .i64 0, .int .i64 0, .string ⟨#[114]⟩, .slice none 0 0, .int .i64 b, .int .i64 0, .int .i64 0, .string ⟨#[]⟩, .slice (some ⟨w1.heap.size + 1 + 1 + 1 + 1, 0, none⟩) 2 2] 39)).alloc (.cells #[.int .i64 3, .int .i64 2] 3)) 0 (.slice (some ⟨w1.heap.size + 1 + 1 + 1 + 1, 0, none⟩) 2 2) [3, 2] := by
    have h := two_kids ((((w1.alloc (.cells #[.int .i64 18, .int .i64 19, .int .i64 21, .int .i64 22, .int .i64 23, .int .i64 24, .int .i64 25, .int .i64 26, .int .i64 27, .int .i64 28, .int .i64 29, .int .i64 30, .int .i64 31, .int .i64 32, .int .i64 33] 3)).alloc (.cells #[.int .i64 0, .int .i64 1] 3)).alloc (.cells #[.int .i64 2, .int .i64 3] 3)).alloc (.cells #[.int .i64 6, .int .i64 0, .int .i64 0, .string ⟨#[112]⟩, .slice none 0 0, .int .i64 6, .int .i64 0, .int .i64 0, .string ⟨#[113]⟩, .slice none 0 0, .int .i64 a, .int .i64 0, .int .i64 0, .string ⟨#[]⟩, .slice (some ⟨w1.heap.size + 1, 0, none⟩) 2 2, .int .i64 6, .int .i64 0, .int .i64 0, .string ⟨#[114]⟩, .slice none 0 0, .int .i64 b, .int .i64 0, .int .i64 0, .string ⟨#[]⟩, .slice (some ⟨w1.heap.size + 1 + 1 + 1 + 1, 0, none⟩) 2 2] 39)) 0 (Nat.zero_le _) 3 2
    rw [sz4] at h
    exact h
  have rn : RowV (((((w1.alloc (.cells #[.int .i64 18, .int .i64 19, .int .i64 21, .int .i64 22, .int .i64 23, .int .i64 24, .int .i64 25, .int .i64 26, .int .i64 27, .int .i64 28, .int .i64 29, .int .i64 30, .int .i64 31, .int .i64 32, .int .i64 33] 3)).alloc (.cells #[.int .i64 0, .int .i64 1] 3)).alloc (.cells #[.int .i64 2, .int .i64 3] 3)).alloc (.cells #[.int .i64 6, .int .i64 0, .int .i64 0, .string ⟨#[112]⟩, .slice none 0 0, .int .i64 6, .int .i64 0, .int .i64 0, .string ⟨#[113]⟩, .slice none 0 0, .int .i64 a, .int .i64 0, .int .i64 0, .string ⟨#[]⟩, .slice (some ⟨w1.heap.size + 1, 0, none⟩) 2 2, .int .i64 6, .int .i64 0, .int .i64 0, .string ⟨#[114]⟩, .slice none 0 0, .int .i64 b, .int .i64 0, .int .i64 0, .string ⟨#[]⟩, .slice (some ⟨w1.heap.size + 1 + 1 + 1 + 1, 0, none⟩) 2 2] 39)).alloc (.cells #[.int .i64 3, .int .i64 2] 3)) (w1.heap.size + 1 + 1 + 1) 39 (nodesC (pairL a b true) [.slice none 0 0, .slice none 0 0, .slice (some ⟨w1.heap.size + 1, 0, none⟩) 2 2, .slice none 0 0, .slice (some ⟨w1.heap.size + 1 + 1 + 1 + 1, 0, none⟩) 2 2]) := by
    have h := row_new (((w1.alloc (.cells #[.int .i64 18, .int .i64 19, .int .i64 21, .int .i64 22, .int .i64 23, .int .i64 24, .int .i64 25, .int .i64 26, .int .i64 27, .int .i64 28, .int .i64 29, .int .i64 30, .int .i64 31, .int .i64 32, .int .i64 33] 3)).alloc (.cells #[.int .i64 0, .int .i64 1] 3)).alloc (.cells #[.int .i64 2, .int .i64 3] 3)) 39 (nodesC (pairL a b true) [.slice none 0 0, .slice none 0 0, .slice (some ⟨w1.heap.size + 1, 0, none⟩) 2 2, .slice none 0 0, .slice (some ⟨w1.heap.size + 1 + 1 + 1 + 1, 0, none⟩) 2 2])
    rw [sz3] at h
    exact row_alloc h _
  have HNS := hid' (pair_src (right := true) (zs := [3, 2]) rfl rn o1 o3)
  have HBN : Hid (Below W.heap.size W (((((w1.alloc (.cells #[.int .i64 18, .int .i64 19, .int .i64 21, .int .i64 22, .int .i64 23, .int .i64 24, .int .i64 25, .int .i64 26, .int .i64 27, .int .i64 28, .int .i64 29, .int .i64 30, .int .i64 31, .int .i64 32, .int .i64 33] 3)).alloc (.cells #[.int .i64 0, .int .i64 1] 3)).alloc (.cells #[.int .i64 2, .int .i64 3] 3)).alloc (.cells #[.int .i64 6, .int .i64 0, .int .i64 0, .string ⟨#[112]⟩, .slice none 0 0, .int .i64 6, .int .i64 0, .int .i64 0, .string ⟨#[113]⟩, .slice none 0 0, .int .i64 a, .int .i64 0, .int .i64 0, .string ⟨#[]⟩, .slice (some ⟨w1.heap.size + 1, 0, none⟩) 2 2, .int .i64 6, .int .i64 0, .int .i64 0, .string ⟨#[114]⟩, .slice none 0 0, .int .i64 b, .int .i64 0, .int .i64 0, .string ⟨#[]⟩, .slice (some ⟨w1.heap.size + 1 + 1 + 1 + 1, 0, none⟩) 2 2] 39)).alloc (.cells #[.int .i64 3, .int .i64 2] 3))) := hid' (((((HB1.out.alloc (by omega) _).alloc (by rw [sz1]; omega) _).alloc (by rw [sz2]; omega) _).alloc (by rw [sz3]; omega) _).alloc (by rw [sz4]; omega) _)
  clear hOP o1 rn sz1 sz2 sz3 sz4 hsz1 o3
  go_wp2_with fail
  refine Calls.mono (show_of (HCX.out.below HBN.out) HNS.out rfl HSH.out) ?_
  rintro e w5 ⟨rfl, b5⟩
  have HN5 := hid' (HNS.out.below b5)
  have HB5 := hid' (Below.thenB HBN.out b5)
  clear b5 HNS HBN
  generalize w1.heap.size + 1 + 1 + 1 = gn at HN5 ⊢
  obtain ⟨sB, hsB⟩ : ∃ s, txt t = s := ⟨_, rfl⟩
  rw [hsB]
  have hsl : sB.data.toList = t := by rw [← hsB]; rfl
  have hsz : sB.size = t.length := by rw [← hsB]; rfl
  have HX := hid' (expr_any A sB (by omega) w5 (HCX.out.below HB5.out).vars (HCX.out.below HB5.out).ev 60 _ (by rw [hsl]; exact HTM.out))
  have HSL := hid' hsl
  clear hsB hsl
  go_wp2_with fail
  refine Calls.mono HX.out ?_
  rintro e w6 ⟨b6, B6, vl6, vs6, rfl, hB6, hT6⟩
  obtain ⟨gm, cm, rfl⟩ := tr_form hT6 (by rw [HSP.out.2.2.1]; omega)
  have hNm := hT6.nodesAt
  have HN6 := hid' (HN5.out.below b6)
  have HB6 := hid' (Below.thenB HB5.out b6)
  have HSM := hid' (same_two (qR true) w6.heap.size (some ⟨gn, 0, none⟩) 5 (pairL a b true) (some ⟨gm, 0, none⟩) cm m w6 (show 5 ≤ 100000 by decide) HN6.out.nodesAt (by rw [HSP.out.2.2.1]; omega) hNm (Nat.le_refl _) HSP.out.1 HSP.out.2.1 HSP.out.2.2.2.1 HSP.out.2.2.2.2)
  rw [HSP.out.2.2.1, show (pairL a b true).length = 5 from rfl] at HSM
  rw [HSP.out.2.2.1]
  clear b6 hB6 hT6 hNm HX HN5 HB5 HN6
  go_wp2_with fail
  refine Calls.mono HSM.out ?_
  rintro e w7 ⟨rfl, b7⟩
  have HB7 := hid' (Below.thenB HB6.out b7)
  clear b7 HSM HB6
  obtain ⟨n, hn⟩ : ∃ n, sB.size = n := ⟨_, rfl⟩
  have HTL : Hid (sB.data.toList.length = n) := hid' (by rw [← hn, Array.length_toList]; rfl)
  go_wp2
  go_loopw [16, 17] (fun u c wq => ∃ j : Nat, j ≤ sB.size ∧ c = .int .i64 (j : Int) ∧ u = .bool ((t.take j).any (· == 40)) ∧ wq = w7) (fun _ c _ => sB.size - (intOf c).toNat)
  case atStart => exact ⟨0, Nat.zero_le _, rfl, rfl, rfl⟩
  case round =>
    obtain ⟨j, hj, rfl, rfl, rfl⟩ := hrel
    by_cases hlt : j < sB.size
    · have hlt' : (j : Int) < (sB.size : Int) := by omega
      have hat := drop_at sB j hlt
      have hany : Hid ((t.take (j + 1)).any (· == 40) = ((t.take j).any (· == 40) || sB[j] == 40)) := hid' (by
        rw [← HSL.out, List.take_succ_eq_append_getElem (by rw [Array.length_toList]; exact hlt), List.any_append]
        simp
        rfl)
      have hb : (sB[j] == 40) = ((sB[j].toNat : Int) == 40) := by rw [Bool.eq_iff_iff]; simp [← UInt8.toNat_inj]; omega
      rw [hb] at hany
      have hlt2 : j < t.length := by rw [← hsz]; exact hlt
      have hidx : ∀ W, (Instr.index 9 (.string sB) (.int .i64 (j : Int))).run Tryz.prog W = .ok (.int .u8 (sB[j].toNat : Int)) W := fun W => by go_simp
      generalize (sB[j].toNat : Int) = y at hany hidx
      generalize (t.take j).any (· == 40) = bj at hany ⊢
      clear hat hb
      cases bj with
      | true =>
        go_wp2
        go_roundw
        case rel => exact ⟨j + 1, by omega, by go_num, by rw [hany.out]; rfl, trivial⟩
        case measure => simp [intOf]; omega
      | false =>
        by_cases h40 : y = 40
        · subst h40
          go_wp2
          go_roundw
          case rel => exact ⟨j + 1, by omega, by go_num, by rw [hany.out]; rfl, trivial⟩
          case measure => simp [intOf]; omega
        · have h40' : (y == 40) = false := by simpa using h40
          rw [h40'] at hany
          go_wp2
          go_roundw
          case rel => exact ⟨j + 1, by omega, by go_num, by rw [hany.out]; rfl, trivial⟩
          case measure => simp [intOf]; omega
    · obtain rfl : j = sB.size := by omega
      have hfull : t.take sB.size = t := by rw [hsz, List.take_length]
      rw [hfull, HMU.out]
      clear hlt hj hfull
      obtain ⟨mv, hmv⟩ : ∃ v, mustF a b true = v := ⟨_, rfl⟩
      rw [hmv]
      unfold mustF at hmv
      generalize rankF a = rx at HRA hmv
      generalize rankF b = ry at HRB hmv
      have HMV := hid' hmv
      clear hmv
      go_wp2_with fail
      refine Calls.mono (HRA.out _) ?_
      rintro e w8 ⟨rfl, rfl⟩
      go_wp2_with fail
      refine Calls.mono (HRB.out _) ?_
      rintro e w8 ⟨rfl, rfl⟩
      by_cases c1 : rx < ry
      · obtain rfl : mv = true := by rw [← HMV.out]; simp [c1]
        go_wp2_with fail
        refine Calls.mono (is_nil _) ?_
        rintro e w9 ⟨rfl, b9⟩
        have b10 := Below.thenB HB7.out b9
        go_wp2
        go_returns
        exact ⟨by first | rfl | exact ret_bool' (by simp; omega), b10⟩
      by_cases c2 : rx = ry
      · obtain rfl : mv = true := by rw [← HMV.out]; simp [c2]
        have q2 : (rx == ry) = true := by simpa using c2
        go_wp2_with fail
        refine Calls.mono (is_nil _) ?_
        rintro e w9 ⟨rfl, b9⟩
        have b10 := Below.thenB HB7.out b9
        go_wp2
        go_returns
        exact ⟨by first | rfl | exact ret_bool' (by simp; omega), b10⟩
      have q2 : (rx == ry) = false := by simpa using c2
      by_cases c3 : rx = 5
      · have q3 : (rx == 5) = true := by simpa using c3
        by_cases c4 : ry = 5
        · have q4 : (ry == 5) = true := by simpa using c4
          obtain rfl : mv = true := by rw [← HMV.out]; simp [c3, c4]
          go_wp2_with fail
          refine Calls.mono (is_nil _) ?_
          rintro e w9 ⟨rfl, b9⟩
          have b10 := Below.thenB HB7.out b9
          go_wp2
          go_returns
          exact ⟨by first | rfl | exact ret_bool' (by simp; omega), b10⟩
        · have q4 : (ry == 5) = false := by simpa using c4
          obtain rfl : mv = false := by rw [← HMV.out, q4]; simp [c1, c2]
          go_wp2_with fail
          refine Calls.mono (is_nil _) ?_
          rintro e w9 ⟨rfl, b9⟩
          have b10 := Below.thenB HB7.out b9
          go_wp2
          go_returns
          exact ⟨by first | rfl | exact ret_bool' (by simp; omega), b10⟩
      · have q3 : (rx == 5) = false := by simpa using c3
        obtain rfl : mv = false := by rw [← HMV.out, q3]; simp [c1, c2]
        go_wp2_with fail
        refine Calls.mono (is_nil _) ?_
        rintro e w9 ⟨rfl, b9⟩
        have b10 := Below.thenB HB7.out b9
        go_wp2
        go_returns
        exact ⟨by first | rfl | exact ret_bool' (by simp; omega), b10⟩
end Go.Proofs.YthjolmjaijoogaaGreatDoor

namespace Go.Proofs.YthjolmjaijoogaaGreatDoor
open Go.RowKit
open Lx Ax Sw Px

theorem showPairs_any (A : Nat → Addr) (x y : Int) (r : Bool) (W : World) (h : PCx A W) : Calls Tryz.prog 4 #[.int .i64 x, .int .i64 y, .bool r] W fun e w' => e = .returned (.bool true) ∧ Below W.heap.size W w' := by
  cases r with
  | true => exact pairs_true A x y W h
  | false => exact pairs_false A x y W h
end Go.Proofs.YthjolmjaijoogaaGreatDoor
