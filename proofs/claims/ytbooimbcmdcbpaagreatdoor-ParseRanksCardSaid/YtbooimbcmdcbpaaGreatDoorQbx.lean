/- Parts of the proof, together. The law's first answer. Conditions: the words and the errors of api lie in their variables. ParseRanks: of three words with signs between, the tighter sign binds first, from the left. Conditions: the words and the errors of api lie in their variables. -/
import Derived.BigQuiet
import Derived.Test.YtbooimbcmdcbpaaGreatDoorQbw
import Derived.Test.YtbooimbcmdcbpaaGreatDoorQad
import Derived.Test.YtbooimbcmdcbpaaGreatDoorQbn
import Derived.Test.YtbooimbcmdcbpaaGreatDoorQbm
namespace Go.Proofs.YtbooimbcmdcbpaaGreatDoor
open Go.RowKit
open Lx Ax Px

/-- The words and the errors of api lie in their variables. -/
structure PCx (A : Nat → Addr) (W : World) : Prop where
  vars : Vars A W
  sent : Sent A W
theorem PCx.below {A : Nat → Addr} {W W' : World} (h : PCx A W) (hb : Below W.heap.size W W') : PCx A W' := ⟨h.vars.below hb, h.sent.below hb⟩
theorem PCx.ev {A : Nat → Addr} {W : World} (h : PCx A W) : EV A W.heap.size W := ⟨h.sent.g1, h.sent.g7, World.block_lt_of_cell? W _ h.sent.g1, World.block_lt_of_cell? W _ h.sent.g7⟩
def O6 : List Int := [6, 4, 4, 21, 36, 47]
def P6 : List Int := [0, 4, 8, 6, 2, 2]
theorem first_nodes : ∃ l, Px.treeF 60 .file [120, 32, 61, 32, 49, 32, 43, 32, 50] = some (.ok l) ∧ l.map (fun x => (x.op, x.pos)) = [(6, 0), (4, 4), (4, 8), (21, 6), (36, 2), (47, 2)] := by
  have h := rk_first
  split at h
  · rename_i l hl
    exact ⟨l, hl, by simpa using h⟩
  · cases h
/-- The nodes of a list that came out, by their cells. -/
theorem nodes_cells {W : World} {B : Nat} {vl : Value} {l : List Nd} {vs : List Value} (h : Tr W B vl l vs) (hp : 0 < l.length) : ∃ g cap, vl = .slice (some ⟨g, 0, none⟩) l.length cap ∧ g < W.heap.size ∧ ∀ (j : Nat) x, l[j]? = some x → W.cell? ⟨g, j * 5, none⟩ = some (.int .i64 x.op) ∧ W.cell? ⟨g, j * 5 + 2, none⟩ = some (.int .i64 x.pos) := by
  obtain ⟨g, cap, e, _, _, hg, _⟩ := own_some h.own hp
  subst e
  refine ⟨g, cap, rfl, hg, fun j x hx => ?_⟩
  obtain ⟨v, _, N, _⟩ := h.cells j x hx
  exact ⟨N.op, N.pos⟩
set_option maxRecDepth 20000 in
set_option maxHeartbeats 3200000 in
theorem pfirst_any (A : Nat → Addr) (W : World) (h : PCx A W) : Calls Tryz.prog 8 #[] W fun e w' => e = .returned (.bool true) ∧ Below W.heap.size W w' := by
  obtain ⟨l, hl, hm⟩ := first_nodes
  have hlen : l.length = 6 := by have := congrArg List.length hm; simpa using this
  have hat : ∀ j, j < 6 → ∃ x, l[j]? = some x ∧ x.op = O6.getD j 0 ∧ x.pos = P6.getD j 0 := by
    intro j hj
    have hx : l[j]? = some l[j] := List.getElem?_eq_getElem (by omega)
    refine ⟨l[j], hx, ?_⟩
    have h1 : (l.map (fun x => (x.op, x.pos)))[j]? = some (l[j].op, l[j].pos) := by rw [List.getElem?_map, hx]; rfl
    rw [hm] at h1
    have h2 : j = 0 ∨ j = 1 ∨ j = 2 ∨ j = 3 ∨ j = 4 ∨ j = 5 := by omega
    rcases h2 with rfl | rfl | rfl | rfl | rfl | rfl <;> (simp at h1; simp [O6, P6, h1.1.symm, h1.2.symm])
  have HT := hid' (parse_any A ⟨#[120, 32, 61, 32, 49, 32, 43, 32, 50]⟩ (by decide) W h.vars h.ev 60 (.ok l) hl)
  have hn2 := neq_none
  clear h hl hm
  go_enter Tryz.func8, Tryz.ntmps8
  go_wp2_with fail
  refine Calls.mono HT.out ?_
  rintro e w2 ⟨b2, B, vl, vs, rfl, hB, hT⟩
  obtain ⟨g, cap, rfl, hg, hc⟩ := nodes_cells hT (by omega)
  rw [hlen]
  have HC : Hid (∀ j, j < 6 → w2.cell? ⟨g, j * 5, none⟩ = some (.int .i64 (O6.getD j 0)) ∧ w2.cell? ⟨g, j * 5 + 2, none⟩ = some (.int .i64 (P6.getD j 0))) := hid' (fun j hj => by
    obtain ⟨x, hx, e1, e2⟩ := hat j hj
    have := hc j x hx
    rwa [e1, e2] at this)
  have HB := hid' b2
  clear hT hc hat b2 HT hlen
  go_wp2_with fail
  go_loopg [4] 6 (fun gk u4 wr => ∃ i : Nat, i + gk = 6 ∧ u4 = .int .i64 (i : Int) ∧ Hid (Below (w2.alloc (.cells #[.int .i64 6, .int .i64 4, .int .i64 4, .int .i64 21, .int .i64 36, .int .i64 47] 3)).heap.size (w2.alloc (.cells #[.int .i64 6, .int .i64 4, .int .i64 4, .int .i64 21, .int .i64 36, .int .i64 47] 3)) wr))
  case atStart => exact ⟨0, rfl, rfl, hid' (Below.refl _ _)⟩
  case round =>
    obtain ⟨i, hi, rfl, HBR⟩ := hrel
    have hrw := row_new w2 3 [.int .i64 6, .int .i64 4, .int .i64 4, .int .i64 21, .int .i64 36, .int .i64 47]
    have hgr : g < (w2.alloc (.cells #[.int .i64 6, .int .i64 4, .int .i64 4, .int .i64 21, .int .i64 36, .int .i64 47] 3)).heap.size := by simp; omega
    have hcell : ∀ o, wr.cell? ⟨g, o, none⟩ = w2.cell? ⟨g, o, none⟩ := fun o => World.cell?_of_block (w := w2) ((HBR.out.block g hgr).trans (Below.heap_alloc _ _ _ hg))
    have hrow := hrw.far (HBR.out.block _ hrw.lt)
    by_cases hlt : i < 6
    · have hli : (i : Int) < 6 := by omega
      obtain ⟨k1, k2⟩ := HC.out i hlt
      rw [← hcell] at k1
      have k3 : wr.cell? ⟨w2.heap.size, i, none⟩ = some (.int .i64 (O6.getD i 0)) := by
        have h2 : i = 0 ∨ i = 1 ∨ i = 2 ∨ i = 3 ∨ i = 4 ∨ i = 5 := by omega
        rcases h2 with rfl | rfl | rfl | rfl | rfl | rfl <;> exact hrow.cell rfl
      generalize O6.getD i 0 = o at k1 k3
      have hoo : (o != o) = false := by simp
      have hb1 : (0 : Int) ≤ (i : Int) ∧ (i : Int) < 6 := by omega
      have hwi : IntKind.i64.wrap ((i : Int) + 1) = ((i + 1 : Nat) : Int) := by rw [IntWalk.i64_in _ ⟨by omega, by omega⟩]; omega
      have HI := hid' hi
      clear hrw hgr hcell hrow k2 hi HC
      go_wp2
      go_region
      all_goals (
        go_wp2
        go_roundg (gk - 1)
        case measure => have := HI.out; omega
        case rel => exact ⟨i + 1, by have := HI.out; omega, by simp, hid' HBR.out.drew⟩)
    · obtain rfl : i = 6 := by omega
      have k4 := (HC.out 4 (by omega)).2
      have k5 := (HC.out 3 (by omega)).2
      rw [← hcell] at k4 k5
      have HBZ : Hid (Below W.heap.size W wr) := hid' (HB.out.trans (((Below.refl w2.heap.size w2).alloc (Nat.le_refl _) _ |>.trans (HBR.out.mono (by simp))).mono HB.out.size))
      clear hrw hgr hcell hrow HC HB HBR
      go_wp2
      go_returns
      exact ⟨rfl, HBZ.out⟩
end Go.Proofs.YtbooimbcmdcbpaaGreatDoor

namespace Go.Proofs.YtbooimbcmdcbpaaGreatDoor
open Go.RowKit
open Lx Ax Px

theorem foldR_le (z : Int) (b : Nat) (hb : 0 < b) : -(b : Int) < z.tmod b ∧ z.tmod b < b := by
  have h1 := Int.tmod_lt_of_pos z (b := (b : Int)) (by omega)
  have h2 := Int.tmod_lt_of_pos (-z) (b := (b : Int)) (by omega)
  rw [Int.neg_tmod] at h2
  omega
theorem foldR_is (z : Int) (b : Nat) (hb : 0 < b) : ∃ n : Nat, (z.tmod b + b).tmod b = (n : Int) ∧ n < b := by
  have h := foldR_le z b hb
  have h2 : (z.tmod b + b).tmod b = (z.tmod b + b) % b := Int.tmod_eq_emod_of_nonneg (by omega)
  have h3 := Int.emod_nonneg (z.tmod b + b) (b := (b : Int)) (by omega)
  have h4 := Int.emod_lt_of_pos (z.tmod b + b) (b := (b : Int)) (by omega)
  exact ⟨((z.tmod b + b) % b).toNat, by rw [h2]; omega, by omega⟩
theorem txt_cat (x y : List UInt8) : txt x ++ txt y = txt (x ++ y) := by
  apply ByteArray.ext
  apply Array.toList_inj.1
  rw [ByteArray.data_append, Array.toList_append]
  rfl
/-- What the functions say of two signs. -/
theorem rk_at (i k : Nat) (hi : i < 8) (hk : k < 8) (h : ¬ (i = 2 ∧ k = 2)) : rkOK i k = true := by
  have h1 := List.all_eq_true.1 rk_all i (List.mem_range.2 hi)
  have h2 := List.all_eq_true.1 h1 k (List.mem_range.2 hk)
  rw [Bool.or_eq_true] at h2
  rcases h2 with h2 | h2
  · rw [Bool.and_eq_true] at h2
    exact absurd ⟨by simpa using h2.1, by simpa using h2.2⟩ h
  · exact h2
def topR (i k : Nat) : Int := if ranksR.getD k 0 > ranksR.getD i 0 then opsR.getD i 0 else opsR.getD k 0
theorem rk_a (i k : Nat) (h : rkOK i k = true) : ∃ l, Px.treeF 60 .alone (rkA i k) = some (.ok l) ∧ l.length = 5 ∧ ∃ x, l[4]? = some x ∧ x.op = topR i k := by
  unfold rkOK at h
  rw [Bool.and_eq_true] at h
  have h1 := h.1
  split at h1
  · rename_i l hl
    have h2 := eq_of_beq h1
    have hlen : l.length = 5 := by have := congrArg List.length h2; simpa using this
    refine ⟨l, hl, hlen, l[4], List.getElem?_eq_getElem (by omega), ?_⟩
    have h3 : (l.map (·.op))[4]? = some l[4].op := by rw [List.getElem?_map, List.getElem?_eq_getElem (by omega)]; rfl
    rw [h2] at h3
    simp only [List.getElem?_cons_succ, List.getElem?_cons_zero, Option.some.injEq] at h3
    exact h3.symm
  · cases h1
theorem rk_b (i k : Nat) (h : rkOK i k = true) : ∃ l, Px.treeF 60 .alone (rkB i k) = some (.ok l) ∧ l.length = 5 ∧ (∃ x, l[4]? = some x ∧ x.op = opsR.getD i 0) ∧ ∃ x, l[3]? = some x ∧ x.op = opsR.getD k 0 := by
  unfold rkOK at h
  rw [Bool.and_eq_true] at h
  have h1 := h.2
  split at h1
  · rename_i l hl
    have h2 := eq_of_beq h1
    have hlen : l.length = 5 := by have := congrArg List.length h2; simpa using this
    have h3 : (l.map (·.op))[4]? = some l[4].op := by rw [List.getElem?_map, List.getElem?_eq_getElem (by omega)]; rfl
    have h4 : (l.map (·.op))[3]? = some l[3].op := by rw [List.getElem?_map, List.getElem?_eq_getElem (by omega)]; rfl
    rw [h2] at h3 h4
    simp only [List.getElem?_cons_succ, List.getElem?_cons_zero, Option.some.injEq] at h3 h4
    exact ⟨l, hl, hlen, ⟨l[4], List.getElem?_eq_getElem (by omega), h3.symm⟩, l[3], List.getElem?_eq_getElem (by omega), h4.symm⟩
  · cases h1
theorem two_bad : Px.treeF 60 .alone [97, 32, 61, 61, 32, 98, 32, 61, 61, 32, 99] = some (.bad false 7) := by
  have h := rk_two
  split at h
  · rename_i hl
    exact hl
  · cases h
def sgC : List Value := signs.map fun l => .string (txt l)
theorem sg_at (i : Nat) (hi : i < 8) : sgC[i]? = some (.string (txt (signs.getD i []))) := by
  have h2 : i = 0 ∨ i = 1 ∨ i = 2 ∨ i = 3 ∨ i = 4 ∨ i = 5 ∨ i = 6 ∨ i = 7 := by omega
  rcases h2 with rfl | rfl | rfl | rfl | rfl | rfl | rfl | rfl <;> rfl
theorem nums_getD (l : List Int) (i : Nat) (hi : i < l.length) : (nums l)[i]? = some (.int .i64 (l.getD i 0)) := by
  rw [nums_at (List.getElem?_eq_getElem hi), List.getD_eq_getElem?_getD, List.getElem?_eq_getElem hi]
  rfl
theorem placed_same (A : Nat → Addr) (W : World) (h : Sent A W) (g : Nat) (pos : Int) (hg : W.heap[g]? = some (.cells #[.int .i64 pos, E A 1] 84 (0, 0))) : Calls Tryz.prog 15 #[.iface 67 (.pointer (some ⟨g, 0, none⟩)), pl 102 pos] W (tells (.bool true) W) := Same_pl A 1 g pos W (by omega) h hg
set_option maxRecDepth 20000 in
set_option maxHeartbeats 6400000 in
theorem parseRanks_any (A : Nat → Addr) (x y : Int) (W : World) (h : PCx A W) : Calls Tryz.prog 5 #[.int .i64 x, .int .i64 y] W fun e w' => e = .returned (.bool true) ∧ Below W.heap.size W w' := by
  have hnot : ∀ (x : Bool) (w : World), (Op.unary .not (.bool x)).run Tryz.prog w = .ok (.bool (!x)) w := fun _ _ => rfl
  have hn2 := neq_none
  have HF := hid' (pfirst_any A W h)
  have HCX := hid' h
  obtain ⟨i, e1, hi⟩ := foldR_is x 8 (by omega)
  obtain ⟨k, e2, hk⟩ := foldR_is y 8 (by omega)
  have m1 := foldR_le x 8 (by omega)
  have m2 := foldR_le y 8 (by omega)
  rw [show ((8 : Nat) : Int) = 8 from rfl] at e1 e2 m1 m2
  obtain ⟨mx, hmx⟩ : ∃ m, x.tmod 8 = m := ⟨_, rfl⟩
  obtain ⟨my, hmy⟩ : ∃ m, y.tmod 8 = m := ⟨_, rfl⟩
  rw [hmx] at e1 m1
  rw [hmy] at e2 m2
  have hii : (0 : Int) ≤ (i : Int) ∧ (i : Int) < 8 := by omega
  have hkk : (0 : Int) ≤ (k : Int) ∧ (k : Int) < 8 := by omega
  clear h
  by_cases h22 : i = 2 ∧ k = 2
  · obtain ⟨rfl, rfl⟩ := h22
    rw [show ((2 : Nat) : Int) = 2 from rfl] at e1 e2
    have hFB : Below W.heap.size W W := Below.refl _ _
    clear hii hkk hi hk hFB
    go_enter Tryz.func5, Tryz.ntmps5
    go_wp2_with fail
    refine Calls.mono HF.out ?_
    rintro e w1 ⟨rfl, b1⟩
    have hsz1 := b1.size
    have HX := fun W' (hb : Below W.heap.size W W') => hid' (expr_any A ⟨#[97, 32, 61, 61, 32, 98, 32, 61, 61, 32, 99]⟩ (by decide) W' (HCX.out.below hb).vars (HCX.out.below hb).ev 60 _ two_bad)
    go_wp2_with fail
    refine Calls.mono (HX _ ?_).out ?_
    · go_grown
    rintro e w2 ⟨b2, g, rfl, hg, hrow⟩
    have b3 := Below.thenB (by go_grown : Below W.heap.size W _) b2
    clear b2
    go_wp2_with fail
    refine Calls.mono (Placed_any 102 7 (by decide) _) ?_
    rintro e w4 ⟨rfl, b4⟩
    have hrow4 := (b4.block g (Array.getElem?_eq_some_iff.1 hrow).1).trans hrow
    have b5 := Below.thenB b3 b4
    have HSM := hid' (placed_same A w4 (HCX.out.below b5).sent g 7 hrow4)
    clear hrow hrow4
    go_wp2_with fail
    refine Calls.mono HSM.out ?_
    rintro e w6 ⟨rfl, b6⟩
    have b7 := Below.thenB b5 b6
    go_wp2
    go_returns
    exact ⟨rfl, b7⟩
  have hrk := rk_at i k hi hk h22
  obtain ⟨la, hla, hlenA, xa, hxa, hta⟩ := rk_a i k hrk
  obtain ⟨lb, hlb, hlenB, ⟨xb, hxb, htb⟩, xc, hxc, htc⟩ := rk_b i k hrk
  have hsi := hid' (sg_at i hi)
  have hsk := hid' (sg_at k hk)
  have hoi := hid' (nums_getD opsR i (by simpa [opsR] using hi))
  have hok := hid' (nums_getD opsR k (by simpa [opsR] using hk))
  have hri := hid' (nums_getD ranksR i (by simpa [ranksR] using hi))
  have hrk2 := hid' (nums_getD ranksR k (by simpa [ranksR] using hk))
  obtain ⟨si, hsie⟩ : ∃ l, signs.getD i [] = l := ⟨_, rfl⟩
  obtain ⟨sk, hske⟩ : ∃ l, signs.getD k [] = l := ⟨_, rfl⟩
  have hsl : si.length ≤ 10 ∧ sk.length ≤ 10 := by
    constructor
    · have h2 : i = 0 ∨ i = 1 ∨ i = 2 ∨ i = 3 ∨ i = 4 ∨ i = 5 ∨ i = 6 ∨ i = 7 := by omega
      subst hsie
      rcases h2 with rfl | rfl | rfl | rfl | rfl | rfl | rfl | rfl <;> decide
    · have h2 : k = 0 ∨ k = 1 ∨ k = 2 ∨ k = 3 ∨ k = 4 ∨ k = 5 ∨ k = 6 ∨ k = 7 := by omega
      subst hske
      rcases h2 with rfl | rfl | rfl | rfl | rfl | rfl | rfl | rfl <;> decide
  have hss : (txt si).size ≤ 10 ∧ (txt sk).size ≤ 10 := hsl
  unfold rkA at hla
  unfold rkB at hlb
  rw [hsie, hske] at hla hlb
  rw [hsie] at hsi
  rw [hske] at hsk
  have hTA : ((⟨#[97, 32]⟩ : ByteArray) ++ txt si ++ ⟨#[32, 98, 32]⟩ ++ txt sk ++ ⟨#[32, 99]⟩ : ByteArray) = txt ([97, 32] ++ si ++ [32, 98, 32] ++ sk ++ [32, 99]) := by
    rw [show (⟨#[97, 32]⟩ : ByteArray) = txt [97, 32] from rfl, show (⟨#[32, 98, 32]⟩ : ByteArray) = txt [32, 98, 32] from rfl, show (⟨#[32, 99]⟩ : ByteArray) = txt [32, 99] from rfl, txt_cat, txt_cat, txt_cat, txt_cat]
  have hTB : ((⟨#[97, 32]⟩ : ByteArray) ++ txt si ++ ⟨#[32, 40, 98, 32]⟩ ++ txt sk ++ ⟨#[32, 99, 41]⟩ : ByteArray) = txt ([97, 32] ++ si ++ [32, 40, 98, 32] ++ sk ++ [32, 99, 41]) := by
    rw [show (⟨#[97, 32]⟩ : ByteArray) = txt [97, 32] from rfl, show (⟨#[32, 40, 98, 32]⟩ : ByteArray) = txt [32, 40, 98, 32] from rfl, show (⟨#[32, 99, 41]⟩ : ByteArray) = txt [32, 99, 41] from rfl, txt_cat, txt_cat, txt_cat, txt_cat]
  have HXA := fun W' (hb : Below W.heap.size W W') => hid' (expr_any A ((⟨#[97, 32]⟩ : ByteArray) ++ txt si ++ ⟨#[32, 98, 32]⟩ ++ txt sk ++ ⟨#[32, 99]⟩) (by rw [hTA]; show List.length _ ≤ _; simp; omega) W' (HCX.out.below hb).vars (HCX.out.below hb).ev 60 (.ok la) (by rw [hTA]; exact hla))
  have HXB := fun W' (hb : Below W.heap.size W W') => hid' (expr_any A ((⟨#[97, 32]⟩ : ByteArray) ++ txt si ++ ⟨#[32, 40, 98, 32]⟩ ++ txt sk ++ ⟨#[32, 99, 41]⟩) (by rw [hTB]; show List.length _ ≤ _; simp; omega) W' (HCX.out.below hb).vars (HCX.out.below hb).ev 60 (.ok lb) (by rw [hTB]; exact hlb))
  have h22a : (((i : Int) == 2) && ((k : Int) == 2)) = false := by
    by_cases h1 : i = 2
    · have h2 : ¬ k = 2 := fun e => h22 ⟨h1, e⟩
      have : ((k : Int) == 2) = false := by simp; omega
      rw [this, Bool.and_false]
    · have : ((i : Int) == 2) = false := by simp; omega
      rw [this, Bool.false_and]
  have HLA := hid' hlenA
  have HLB := hid' hlenB
  have HTA := hid' (show ∃ x, la[4]? = some x ∧ x.op = topR i k from ⟨xa, hxa, hta⟩)
  have HTB := hid' (show (∃ x, lb[4]? = some x ∧ x.op = opsR.getD i 0) ∧ ∃ x, lb[3]? = some x ∧ x.op = opsR.getD k 0 from ⟨⟨xb, hxb, htb⟩, xc, hxc, htc⟩)
  have H22 := hid' h22a
  clear hla hlb hlenA hlenB hxa hta hxb htb hxc htc hsie hske hsl hTA hTB hrk h22 h22a
  go_enter Tryz.func5, Tryz.ntmps5
  go_wp2_with fail
  refine Calls.mono HF.out ?_
  rintro e w1 ⟨rfl, b1⟩
  have HB1 := hid' b1
  clear b1

  cases hi2 : ((i : Int) == 2) with
  | true =>
    have hk2 : ((k : Int) == 2) = false := by have := H22.out; rw [hi2, Bool.true_and] at this; exact this
    go_wp2_with fail
    have RS : RowV (((w1.alloc (.cells #[.string ⟨#[111, 114]⟩, .string ⟨#[97, 110, 100]⟩, .string ⟨#[61, 61]⟩, .string ⟨#[43]⟩, .string ⟨#[45]⟩, .string ⟨#[42]⟩, .string ⟨#[47, 47]⟩, .string ⟨#[37]⟩] 9)).alloc (.cells #[.int .i64 19, .int .i64 18, .int .i64 26, .int .i64 21, .int .i64 22, .int .i64 23, .int .i64 24, .int .i64 25] 3)).alloc (.cells #[.int .i64 1, .int .i64 2, .int .i64 3, .int .i64 4, .int .i64 4, .int .i64 5, .int .i64 5, .int .i64 5] 3)) w1.heap.size 9 sgC := row_alloc (row_alloc (row_new w1 9 sgC) (.cells #[.int .i64 19, .int .i64 18, .int .i64 26, .int .i64 21, .int .i64 22, .int .i64 23, .int .i64 24, .int .i64 25] 3)) (.cells #[.int .i64 1, .int .i64 2, .int .i64 3, .int .i64 4, .int .i64 4, .int .i64 5, .int .i64 5, .int .i64 5] 3)
    have RO : RowV (((w1.alloc (.cells #[.string ⟨#[111, 114]⟩, .string ⟨#[97, 110, 100]⟩, .string ⟨#[61, 61]⟩, .string ⟨#[43]⟩, .string ⟨#[45]⟩, .string ⟨#[42]⟩, .string ⟨#[47, 47]⟩, .string ⟨#[37]⟩] 9)).alloc (.cells #[.int .i64 19, .int .i64 18, .int .i64 26, .int .i64 21, .int .i64 22, .int .i64 23, .int .i64 24, .int .i64 25] 3)).alloc (.cells #[.int .i64 1, .int .i64 2, .int .i64 3, .int .i64 4, .int .i64 4, .int .i64 5, .int .i64 5, .int .i64 5] 3)) (w1.heap.size + 1) 3 (nums opsR) := by
      have h1 := row_alloc (row_new (w1.alloc (.cells #[.string ⟨#[111, 114]⟩, .string ⟨#[97, 110, 100]⟩, .string ⟨#[61, 61]⟩, .string ⟨#[43]⟩, .string ⟨#[45]⟩, .string ⟨#[42]⟩, .string ⟨#[47, 47]⟩, .string ⟨#[37]⟩] 9)) 3 (nums opsR)) (.cells #[.int .i64 1, .int .i64 2, .int .i64 3, .int .i64 4, .int .i64 4, .int .i64 5, .int .i64 5, .int .i64 5] 3)
      rwa [show (w1.alloc (.cells #[.string ⟨#[111, 114]⟩, .string ⟨#[97, 110, 100]⟩, .string ⟨#[61, 61]⟩, .string ⟨#[43]⟩, .string ⟨#[45]⟩, .string ⟨#[42]⟩, .string ⟨#[47, 47]⟩, .string ⟨#[37]⟩] 9)).heap.size = w1.heap.size + 1 by simp] at h1
    have RR : RowV (((w1.alloc (.cells #[.string ⟨#[111, 114]⟩, .string ⟨#[97, 110, 100]⟩, .string ⟨#[61, 61]⟩, .string ⟨#[43]⟩, .string ⟨#[45]⟩, .string ⟨#[42]⟩, .string ⟨#[47, 47]⟩, .string ⟨#[37]⟩] 9)).alloc (.cells #[.int .i64 19, .int .i64 18, .int .i64 26, .int .i64 21, .int .i64 22, .int .i64 23, .int .i64 24, .int .i64 25] 3)).alloc (.cells #[.int .i64 1, .int .i64 2, .int .i64 3, .int .i64 4, .int .i64 4, .int .i64 5, .int .i64 5, .int .i64 5] 3)) (w1.heap.size + 1 + 1) 3 (nums ranksR) := by
      have h1 := row_new ((w1.alloc (.cells #[.string ⟨#[111, 114]⟩, .string ⟨#[97, 110, 100]⟩, .string ⟨#[61, 61]⟩, .string ⟨#[43]⟩, .string ⟨#[45]⟩, .string ⟨#[42]⟩, .string ⟨#[47, 47]⟩, .string ⟨#[37]⟩] 9)).alloc (.cells #[.int .i64 19, .int .i64 18, .int .i64 26, .int .i64 21, .int .i64 22, .int .i64 23, .int .i64 24, .int .i64 25] 3)) 3 (nums ranksR)
      rwa [show ((w1.alloc (.cells #[.string ⟨#[111, 114]⟩, .string ⟨#[97, 110, 100]⟩, .string ⟨#[61, 61]⟩, .string ⟨#[43]⟩, .string ⟨#[45]⟩, .string ⟨#[42]⟩, .string ⟨#[47, 47]⟩, .string ⟨#[37]⟩] 9)).alloc (.cells #[.int .i64 19, .int .i64 18, .int .i64 26, .int .i64 21, .int .i64 22, .int .i64 23, .int .i64 24, .int .i64 25] 3)).heap.size = w1.heap.size + 1 + 1 by simp] at h1
    have B3 : Below W.heap.size W (((w1.alloc (.cells #[.string ⟨#[111, 114]⟩, .string ⟨#[97, 110, 100]⟩, .string ⟨#[61, 61]⟩, .string ⟨#[43]⟩, .string ⟨#[45]⟩, .string ⟨#[42]⟩, .string ⟨#[47, 47]⟩, .string ⟨#[37]⟩] 9)).alloc (.cells #[.int .i64 19, .int .i64 18, .int .i64 26, .int .i64 21, .int .i64 22, .int .i64 23, .int .i64 24, .int .i64 25] 3)).alloc (.cells #[.int .i64 1, .int .i64 2, .int .i64 3, .int .i64 4, .int .i64 4, .int .i64 5, .int .i64 5, .int .i64 5] 3)) := ((HB1.out.alloc HB1.out.size _).alloc (by have := HB1.out.size; simp; omega) _).alloc (by have := HB1.out.size; simp; omega) _
    generalize (((w1.alloc (.cells #[.string ⟨#[111, 114]⟩, .string ⟨#[97, 110, 100]⟩, .string ⟨#[61, 61]⟩, .string ⟨#[43]⟩, .string ⟨#[45]⟩, .string ⟨#[42]⟩, .string ⟨#[47, 47]⟩, .string ⟨#[37]⟩] 9)).alloc (.cells #[.int .i64 19, .int .i64 18, .int .i64 26, .int .i64 21, .int .i64 22, .int .i64 23, .int .i64 24, .int .i64 25] 3)).alloc (.cells #[.int .i64 1, .int .i64 2, .int .i64 3, .int .i64 4, .int .i64 4, .int .i64 5, .int .i64 5, .int .i64 5] 3)) = w3 at RS RO RR B3 ⊢
    generalize w1.heap.size + 1 + 1 = gr at RR ⊢
    generalize w1.heap.size + 1 = go at RO ⊢
    generalize w1.heap.size = gs at RS ⊢
    have HB3 := hid' B3
    have HRS := hid' RS
    have HRO := hid' RO
    have HRR := hid' RR
    have hgs := RS.lt
    have csi := RS.cell hsi.out
    have csk := RS.cell hsk.out
    clear B3 RS RO RR
    refine wp_region_held_drew (S := fun W' => Below w3.heap.size w3 W') (by kernel_rfl) (Below.refl _ _).drew (fun hHeld => ?_)
    refine take_val' (i := 0) (v := .slice (some ⟨gs, 0, none⟩) 8 8) rfl (by kernel_rfl) (by kernel_rfl) (by kernel_rfl) (some 47) rfl (fun _ _ _ h => h) (Or.inl ⟨by rfl, fun W' hW => by go_simp⟩) hHeld ?_
    try simp only [Act.put, List.setIfInBounds_toArray, List.set_cons_zero, List.set_cons_succ]
    refine take_val' (i := 1) (v := .int .i64 (i : Int)) rfl (by kernel_rfl) (by kernel_rfl) (by kernel_rfl) (some 48) rfl (fun _ _ _ h => h) (Or.inl ⟨by rfl, fun W' hW => by go_simp⟩) hHeld ?_
    try simp only [Act.put, List.setIfInBounds_toArray, List.set_cons_zero, List.set_cons_succ]
    refine take_val' (i := 2) (v := .pointer (some ⟨gs, i, none⟩)) rfl (by kernel_rfl) (by kernel_rfl) (by kernel_rfl) (some 49) rfl (fun _ _ _ h => h) (Or.inl ⟨by rfl, fun W' hW => by go_simp⟩) hHeld ?_
    try simp only [Act.put, List.setIfInBounds_toArray, List.set_cons_zero, List.set_cons_succ]
    refine take_val' (i := 3) (v := .string (txt si)) rfl (by kernel_rfl) (by kernel_rfl) (by kernel_rfl) (some 50) rfl (fun _ _ _ h => h) (Or.inl ⟨by rfl, fun W' hW => by have c2 := (hW.cell (p := ⟨gs, i, none⟩) hgs).trans csi; go_simp⟩) hHeld ?_
    try simp only [Act.put, List.setIfInBounds_toArray, List.set_cons_zero, List.set_cons_succ]
    refine take_val' (i := 4) (v := .string ((⟨#[97, 32]⟩ : ByteArray) ++ txt si)) rfl (by kernel_rfl) (by kernel_rfl) (by kernel_rfl) (some 51) rfl (fun _ _ _ h => h) (Or.inl ⟨by rfl, fun W' hW => by go_simp; omega⟩) hHeld ?_
    try simp only [Act.put, List.setIfInBounds_toArray, List.set_cons_zero, List.set_cons_succ]
    refine take_val' (i := 5) (v := .string ((⟨#[97, 32]⟩ : ByteArray) ++ txt si ++ ⟨#[32, 98, 32]⟩)) rfl (by kernel_rfl) (by kernel_rfl) (by kernel_rfl) (some 52) rfl (fun _ _ _ h => h) (Or.inl ⟨by rfl, fun W' hW => by go_simp; omega⟩) hHeld ?_
    try simp only [Act.put, List.setIfInBounds_toArray, List.set_cons_zero, List.set_cons_succ]
    refine take_val' (i := 6) (v := .slice (some ⟨gs, 0, none⟩) 8 8) rfl (by kernel_rfl) (by kernel_rfl) (by kernel_rfl) (some 53) rfl (fun _ _ _ h => h) (Or.inl ⟨by rfl, fun W' hW => by go_simp⟩) hHeld ?_
    try simp only [Act.put, List.setIfInBounds_toArray, List.set_cons_zero, List.set_cons_succ]
    refine take_val' (i := 7) (v := .int .i64 (k : Int)) rfl (by kernel_rfl) (by kernel_rfl) (by kernel_rfl) (some 54) rfl (fun _ _ _ h => h) (Or.inl ⟨by rfl, fun W' hW => by go_simp⟩) hHeld ?_
    try simp only [Act.put, List.setIfInBounds_toArray, List.set_cons_zero, List.set_cons_succ]
    refine take_val' (i := 8) (v := .pointer (some ⟨gs, k, none⟩)) rfl (by kernel_rfl) (by kernel_rfl) (by kernel_rfl) (some 55) rfl (fun _ _ _ h => h) (Or.inl ⟨by rfl, fun W' hW => by go_simp⟩) hHeld ?_
    try simp only [Act.put, List.setIfInBounds_toArray, List.set_cons_zero, List.set_cons_succ]
    refine take_val' (i := 9) (v := .string (txt sk)) rfl (by kernel_rfl) (by kernel_rfl) (by kernel_rfl) (some 56) rfl (fun _ _ _ h => h) (Or.inl ⟨by rfl, fun W' hW => by have c2 := (hW.cell (p := ⟨gs, k, none⟩) hgs).trans csk; go_simp⟩) hHeld ?_
    try simp only [Act.put, List.setIfInBounds_toArray, List.set_cons_zero, List.set_cons_succ]
    refine take_val' (i := 10) (v := .string ((⟨#[97, 32]⟩ : ByteArray) ++ txt si ++ ⟨#[32, 98, 32]⟩ ++ txt sk)) rfl (by kernel_rfl) (by kernel_rfl) (by kernel_rfl) (some 57) rfl (fun _ _ _ h => h) (Or.inl ⟨by rfl, fun W' hW => by go_simp; omega⟩) hHeld ?_
    try simp only [Act.put, List.setIfInBounds_toArray, List.set_cons_zero, List.set_cons_succ]
    refine take_val' (i := 11) (v := .string ((⟨#[97, 32]⟩ : ByteArray) ++ txt si ++ ⟨#[32, 98, 32]⟩ ++ txt sk ++ ⟨#[32, 99]⟩)) rfl (by kernel_rfl) (by kernel_rfl) (by kernel_rfl) (some 58) rfl (fun _ _ _ h => h) (Or.inl ⟨by rfl, fun W' hW => by go_simp; omega⟩) hHeld ?_
    try simp only [Act.put, List.setIfInBounds_toArray, List.set_cons_zero, List.set_cons_succ]
    refine wpAnyH_ready (rs := [12]) (by kernel_rfl) (by simp) ?_
    refine AllReadyH.cons rfl (fun K hK => ?_) AllReadyH.nil
    go_simp
    refine Calls.mono (HXA _ (Below.thenB HB3.out hHeld)).out ?_
    rintro e wA ⟨bq, Bq, vlq, vsq, rfl, hBq, hTq⟩
    obtain ⟨gA, capA, rfl, hgA, hcA⟩ := nodes_cells hTq (by have := HLA.out; omega)
    rw [HLA.out]
    have bA := Below.thenB hHeld bq
    clear hHeld hTq
    refine hK.out _ _ bA (fun hHeld => ?_)
    clear hK K
    try simp only [Act.put, List.setIfInBounds_toArray, List.set_cons_zero, List.set_cons_succ]
    refine take_val' (i := 13) (v := .tuple #[.slice (some ⟨gA, 0, none⟩) 5 capA, .nilIface]) rfl (by kernel_rfl) (by kernel_rfl) (by kernel_rfl) (some 46) rfl (fun _ _ _ h => h) (Or.inl ⟨by rfl, fun W' hW => by go_simp⟩) hHeld ?_
    try simp only [Act.put, List.setIfInBounds_toArray, List.set_cons_zero, List.set_cons_succ]
    refine take_val' (i := 14) (v := .slice (some ⟨gA, 0, none⟩) 5 capA) rfl (by kernel_rfl) (by kernel_rfl) (by kernel_rfl) (some 60) rfl (fun _ _ _ h => h) (Or.inl ⟨by rfl, fun W' hW => by go_simp⟩) hHeld ?_
    try simp only [Act.put, List.setIfInBounds_toArray, List.set_cons_zero, List.set_cons_succ]
    refine take_val' (i := 15) (v := .nilIface) rfl (by kernel_rfl) (by kernel_rfl) (by kernel_rfl) (some 61) rfl (fun _ _ _ h => h) (Or.inl ⟨by rfl, fun W' hW => by go_simp⟩) hHeld ?_
    try simp only [Act.put, List.setIfInBounds_toArray, List.set_cons_zero, List.set_cons_succ]
    refine take_val' (i := 16) (v := .slice (some ⟨gA, 0, none⟩) 5 capA) rfl (by kernel_rfl) (by kernel_rfl) (by kernel_rfl) (some 11) rfl (fun _ _ _ h => h) (Or.inl ⟨by rfl, fun W' hW => by go_simp⟩) hHeld ?_
    try simp only [Act.put, List.setIfInBounds_toArray, List.set_cons_zero, List.set_cons_succ]
    refine take_val' (i := 17) (v := .nilIface) rfl (by kernel_rfl) (by kernel_rfl) (by kernel_rfl) (some 12) rfl (fun _ _ _ h => h) (Or.inl ⟨by rfl, fun W' hW => by go_simp⟩) hHeld ?_
    try simp only [Act.put, List.setIfInBounds_toArray, List.set_cons_zero, List.set_cons_succ]
    refine wpAnyH_done (by kernel_rfl) ?_ _
    clear hHeld
    have HBA := hid' (Below.thenB HB3.out bA)
    have HRS2 := hid' (HRS.out.far (bA.block _ HRS.out.lt))
    have HRO2 := hid' (HRO.out.far (bA.block _ HRO.out.lt))
    have HRR2 := hid' (HRR.out.far (bA.block _ HRR.out.lt))
    have HCA : Hid (wA.cell? ⟨gA, 4 * 5, none⟩ = some (.int .i64 (topR i k))) := hid' (by
      obtain ⟨x4, hx4, ex4⟩ := HTA.out
      rw [(hcA 4 x4 hx4).1, ex4])
    clear HRS HRO HRR hgs csi csk bA hcA HB3
    have hgs := HRS2.out.lt
    have csi := HRS2.out.cell hsi.out
    have csk := HRS2.out.cell hsk.out
    go_wp2_with fail
    refine wp_region_held_drew (S := fun W' => Below wA.heap.size wA W') (by kernel_rfl) (Below.refl _ _).drew (fun hHeld => ?_)
    refine take_val' (i := 0) (v := .slice (some ⟨gs, 0, none⟩) 8 8) rfl (by kernel_rfl) (by kernel_rfl) (by kernel_rfl) (some 63) rfl (fun _ _ _ h => h) (Or.inl ⟨by rfl, fun W' hW => by go_simp⟩) hHeld ?_
    try simp only [Act.put, List.setIfInBounds_toArray, List.set_cons_zero, List.set_cons_succ]
    refine take_val' (i := 1) (v := .int .i64 (i : Int)) rfl (by kernel_rfl) (by kernel_rfl) (by kernel_rfl) (some 64) rfl (fun _ _ _ h => h) (Or.inl ⟨by rfl, fun W' hW => by go_simp⟩) hHeld ?_
    try simp only [Act.put, List.setIfInBounds_toArray, List.set_cons_zero, List.set_cons_succ]
    refine take_val' (i := 2) (v := .pointer (some ⟨gs, i, none⟩)) rfl (by kernel_rfl) (by kernel_rfl) (by kernel_rfl) (some 65) rfl (fun _ _ _ h => h) (Or.inl ⟨by rfl, fun W' hW => by go_simp⟩) hHeld ?_
    try simp only [Act.put, List.setIfInBounds_toArray, List.set_cons_zero, List.set_cons_succ]
    refine take_val' (i := 3) (v := .string (txt si)) rfl (by kernel_rfl) (by kernel_rfl) (by kernel_rfl) (some 66) rfl (fun _ _ _ h => h) (Or.inl ⟨by rfl, fun W' hW => by have c2 := (hW.cell (p := ⟨gs, i, none⟩) hgs).trans csi; go_simp⟩) hHeld ?_
    try simp only [Act.put, List.setIfInBounds_toArray, List.set_cons_zero, List.set_cons_succ]
    refine take_val' (i := 4) (v := .string ((⟨#[97, 32]⟩ : ByteArray) ++ txt si)) rfl (by kernel_rfl) (by kernel_rfl) (by kernel_rfl) (some 67) rfl (fun _ _ _ h => h) (Or.inl ⟨by rfl, fun W' hW => by go_simp; omega⟩) hHeld ?_
    try simp only [Act.put, List.setIfInBounds_toArray, List.set_cons_zero, List.set_cons_succ]
    refine take_val' (i := 5) (v := .string ((⟨#[97, 32]⟩ : ByteArray) ++ txt si ++ ⟨#[32, 40, 98, 32]⟩)) rfl (by kernel_rfl) (by kernel_rfl) (by kernel_rfl) (some 68) rfl (fun _ _ _ h => h) (Or.inl ⟨by rfl, fun W' hW => by go_simp; omega⟩) hHeld ?_
    try simp only [Act.put, List.setIfInBounds_toArray, List.set_cons_zero, List.set_cons_succ]
    refine take_val' (i := 6) (v := .slice (some ⟨gs, 0, none⟩) 8 8) rfl (by kernel_rfl) (by kernel_rfl) (by kernel_rfl) (some 69) rfl (fun _ _ _ h => h) (Or.inl ⟨by rfl, fun W' hW => by go_simp⟩) hHeld ?_
    try simp only [Act.put, List.setIfInBounds_toArray, List.set_cons_zero, List.set_cons_succ]
    refine take_val' (i := 7) (v := .int .i64 (k : Int)) rfl (by kernel_rfl) (by kernel_rfl) (by kernel_rfl) (some 70) rfl (fun _ _ _ h => h) (Or.inl ⟨by rfl, fun W' hW => by go_simp⟩) hHeld ?_
    try simp only [Act.put, List.setIfInBounds_toArray, List.set_cons_zero, List.set_cons_succ]
    refine take_val' (i := 8) (v := .pointer (some ⟨gs, k, none⟩)) rfl (by kernel_rfl) (by kernel_rfl) (by kernel_rfl) (some 71) rfl (fun _ _ _ h => h) (Or.inl ⟨by rfl, fun W' hW => by go_simp⟩) hHeld ?_
    try simp only [Act.put, List.setIfInBounds_toArray, List.set_cons_zero, List.set_cons_succ]
    refine take_val' (i := 9) (v := .string (txt sk)) rfl (by kernel_rfl) (by kernel_rfl) (by kernel_rfl) (some 72) rfl (fun _ _ _ h => h) (Or.inl ⟨by rfl, fun W' hW => by have c2 := (hW.cell (p := ⟨gs, k, none⟩) hgs).trans csk; go_simp⟩) hHeld ?_
    try simp only [Act.put, List.setIfInBounds_toArray, List.set_cons_zero, List.set_cons_succ]
    refine take_val' (i := 10) (v := .string ((⟨#[97, 32]⟩ : ByteArray) ++ txt si ++ ⟨#[32, 40, 98, 32]⟩ ++ txt sk)) rfl (by kernel_rfl) (by kernel_rfl) (by kernel_rfl) (some 73) rfl (fun _ _ _ h => h) (Or.inl ⟨by rfl, fun W' hW => by go_simp; omega⟩) hHeld ?_
    try simp only [Act.put, List.setIfInBounds_toArray, List.set_cons_zero, List.set_cons_succ]
    refine take_val' (i := 11) (v := .string ((⟨#[97, 32]⟩ : ByteArray) ++ txt si ++ ⟨#[32, 40, 98, 32]⟩ ++ txt sk ++ ⟨#[32, 99, 41]⟩)) rfl (by kernel_rfl) (by kernel_rfl) (by kernel_rfl) (some 74) rfl (fun _ _ _ h => h) (Or.inl ⟨by rfl, fun W' hW => by go_simp; omega⟩) hHeld ?_
    try simp only [Act.put, List.setIfInBounds_toArray, List.set_cons_zero, List.set_cons_succ]
    refine wpAnyH_ready (rs := [12]) (by kernel_rfl) (by simp) ?_
    refine AllReadyH.cons rfl (fun K hK => ?_) AllReadyH.nil
    go_simp
    refine Calls.mono (HXB _ (Below.thenB HBA.out hHeld)).out ?_
    rintro e wB ⟨bq, Bq, vlq, vsq, rfl, hBq, hTq⟩
    obtain ⟨gB, capB, rfl, hgB, hcB⟩ := nodes_cells hTq (by have := HLB.out; omega)
    rw [HLB.out]
    have bB := Below.thenB hHeld bq
    clear hHeld hTq
    refine hK.out _ _ bB (fun hHeld => ?_)
    clear hK K
    try simp only [Act.put, List.setIfInBounds_toArray, List.set_cons_zero, List.set_cons_succ]
    refine take_val' (i := 13) (v := .tuple #[.slice (some ⟨gB, 0, none⟩) 5 capB, .nilIface]) rfl (by kernel_rfl) (by kernel_rfl) (by kernel_rfl) (some 62) rfl (fun _ _ _ h => h) (Or.inl ⟨by rfl, fun W' hW => by go_simp⟩) hHeld ?_
    try simp only [Act.put, List.setIfInBounds_toArray, List.set_cons_zero, List.set_cons_succ]
    refine take_val' (i := 14) (v := .slice (some ⟨gB, 0, none⟩) 5 capB) rfl (by kernel_rfl) (by kernel_rfl) (by kernel_rfl) (some 76) rfl (fun _ _ _ h => h) (Or.inl ⟨by rfl, fun W' hW => by go_simp⟩) hHeld ?_
    try simp only [Act.put, List.setIfInBounds_toArray, List.set_cons_zero, List.set_cons_succ]
    refine take_val' (i := 15) (v := .nilIface) rfl (by kernel_rfl) (by kernel_rfl) (by kernel_rfl) (some 77) rfl (fun _ _ _ h => h) (Or.inl ⟨by rfl, fun W' hW => by go_simp⟩) hHeld ?_
    try simp only [Act.put, List.setIfInBounds_toArray, List.set_cons_zero, List.set_cons_succ]
    refine take_val' (i := 16) (v := .slice (some ⟨gB, 0, none⟩) 5 capB) rfl (by kernel_rfl) (by kernel_rfl) (by kernel_rfl) (some 13) rfl (fun _ _ _ h => h) (Or.inl ⟨by rfl, fun W' hW => by go_simp⟩) hHeld ?_
    try simp only [Act.put, List.setIfInBounds_toArray, List.set_cons_zero, List.set_cons_succ]
    refine take_val' (i := 17) (v := .nilIface) rfl (by kernel_rfl) (by kernel_rfl) (by kernel_rfl) (some 14) rfl (fun _ _ _ h => h) (Or.inl ⟨by rfl, fun W' hW => by go_simp⟩) hHeld ?_
    try simp only [Act.put, List.setIfInBounds_toArray, List.set_cons_zero, List.set_cons_succ]
    refine wpAnyH_done (by kernel_rfl) ?_ _
    clear hHeld
    have HBB := hid' (Below.thenB HBA.out bB)
    have hcO := HRO2.out.far (bB.block _ HRO2.out.lt)
    have hcR := HRR2.out.far (bB.block _ HRR2.out.lt)
    have oi := hcO.cell hoi.out
    have ok := hcO.cell hok.out
    have ri := hcR.cell hri.out
    have rk := hcR.cell hrk2.out
    have cA : wB.cell? ⟨gA, 20, none⟩ = some (.int .i64 (topR i k)) := (bB.cell (p := ⟨gA, 20, none⟩) hgA).trans HCA.out
    obtain ⟨⟨x4, hx4, ex4⟩, x3, hx3, ex3⟩ := HTB.out
    have cB4 : wB.cell? ⟨gB, 20, none⟩ = some (.int .i64 (opsR.getD i 0)) := by
      have := (hcB 4 x4 hx4).1
      rwa [ex4] at this
    have cB3 : wB.cell? ⟨gB, 15, none⟩ = some (.int .i64 (opsR.getD k 0)) := by
      have := (hcB 3 x3 hx3).1
      rwa [ex3] at this
    have HTR := hid' (show topR i k = if ranksR.getD k 0 > ranksR.getD i 0 then opsR.getD i 0 else opsR.getD k 0 from rfl)
    generalize topR i k = tp at cA HTR
    generalize opsR.getD i 0 = o1 at oi cB4 HTR
    generalize opsR.getD k 0 = o2 at ok cB3 HTR
    generalize ranksR.getD i 0 = r1 at ri HTR
    generalize ranksR.getD k 0 = r2 at rk HTR
    clear HRS2 HRO2 HRR2 hcO hcR HTB HTA HCA hcB hx4 ex4 hx3 ex3 csi csk hgs bB HBA HXA HXB hsi hsk hoi hok hri hrk2 HCX HF
    have HZZ := HBB
    by_cases hgt : r1 < r2
    · have htp : tp = o1 := by rw [HTR.out, if_pos hgt]
      subst htp
      clear HTR
      go_wp2
      go_quiet (fail)
      go_wp2
      go_quiet (fail)
      go_wp2
      go_returns
      exact ⟨rfl, Below.drewN' (Below.drewN' HZZ.out _) _⟩
    have htp : tp = o2 := by rw [HTR.out, if_neg hgt]
    subst htp
    clear HTR
    go_wp2
    go_quiet (fail)
    go_wp2
    go_quiet (fail)
    go_wp2
    go_returns
    exact ⟨rfl, Below.drewN' (Below.drewN' HZZ.out _) _⟩
  | false =>
    go_wp2_with fail
    have RS : RowV (((w1.alloc (.cells #[.string ⟨#[111, 114]⟩, .string ⟨#[97, 110, 100]⟩, .string ⟨#[61, 61]⟩, .string ⟨#[43]⟩, .string ⟨#[45]⟩, .string ⟨#[42]⟩, .string ⟨#[47, 47]⟩, .string ⟨#[37]⟩] 9)).alloc (.cells #[.int .i64 19, .int .i64 18, .int .i64 26, .int .i64 21, .int .i64 22, .int .i64 23, .int .i64 24, .int .i64 25] 3)).alloc (.cells #[.int .i64 1, .int .i64 2, .int .i64 3, .int .i64 4, .int .i64 4, .int .i64 5, .int .i64 5, .int .i64 5] 3)) w1.heap.size 9 sgC := row_alloc (row_alloc (row_new w1 9 sgC) (.cells #[.int .i64 19, .int .i64 18, .int .i64 26, .int .i64 21, .int .i64 22, .int .i64 23, .int .i64 24, .int .i64 25] 3)) (.cells #[.int .i64 1, .int .i64 2, .int .i64 3, .int .i64 4, .int .i64 4, .int .i64 5, .int .i64 5, .int .i64 5] 3)
    have RO : RowV (((w1.alloc (.cells #[.string ⟨#[111, 114]⟩, .string ⟨#[97, 110, 100]⟩, .string ⟨#[61, 61]⟩, .string ⟨#[43]⟩, .string ⟨#[45]⟩, .string ⟨#[42]⟩, .string ⟨#[47, 47]⟩, .string ⟨#[37]⟩] 9)).alloc (.cells #[.int .i64 19, .int .i64 18, .int .i64 26, .int .i64 21, .int .i64 22, .int .i64 23, .int .i64 24, .int .i64 25] 3)).alloc (.cells #[.int .i64 1, .int .i64 2, .int .i64 3, .int .i64 4, .int .i64 4, .int .i64 5, .int .i64 5, .int .i64 5] 3)) (w1.heap.size + 1) 3 (nums opsR) := by
      have h1 := row_alloc (row_new (w1.alloc (.cells #[.string ⟨#[111, 114]⟩, .string ⟨#[97, 110, 100]⟩, .string ⟨#[61, 61]⟩, .string ⟨#[43]⟩, .string ⟨#[45]⟩, .string ⟨#[42]⟩, .string ⟨#[47, 47]⟩, .string ⟨#[37]⟩] 9)) 3 (nums opsR)) (.cells #[.int .i64 1, .int .i64 2, .int .i64 3, .int .i64 4, .int .i64 4, .int .i64 5, .int .i64 5, .int .i64 5] 3)
      rwa [show (w1.alloc (.cells #[.string ⟨#[111, 114]⟩, .string ⟨#[97, 110, 100]⟩, .string ⟨#[61, 61]⟩, .string ⟨#[43]⟩, .string ⟨#[45]⟩, .string ⟨#[42]⟩, .string ⟨#[47, 47]⟩, .string ⟨#[37]⟩] 9)).heap.size = w1.heap.size + 1 by simp] at h1
    have RR : RowV (((w1.alloc (.cells #[.string ⟨#[111, 114]⟩, .string ⟨#[97, 110, 100]⟩, .string ⟨#[61, 61]⟩, .string ⟨#[43]⟩, .string ⟨#[45]⟩, .string ⟨#[42]⟩, .string ⟨#[47, 47]⟩, .string ⟨#[37]⟩] 9)).alloc (.cells #[.int .i64 19, .int .i64 18, .int .i64 26, .int .i64 21, .int .i64 22, .int .i64 23, .int .i64 24, .int .i64 25] 3)).alloc (.cells #[.int .i64 1, .int .i64 2, .int .i64 3, .int .i64 4, .int .i64 4, .int .i64 5, .int .i64 5, .int .i64 5] 3)) (w1.heap.size + 1 + 1) 3 (nums ranksR) := by
      have h1 := row_new ((w1.alloc (.cells #[.string ⟨#[111, 114]⟩, .string ⟨#[97, 110, 100]⟩, .string ⟨#[61, 61]⟩, .string ⟨#[43]⟩, .string ⟨#[45]⟩, .string ⟨#[42]⟩, .string ⟨#[47, 47]⟩, .string ⟨#[37]⟩] 9)).alloc (.cells #[.int .i64 19, .int .i64 18, .int .i64 26, .int .i64 21, .int .i64 22, .int .i64 23, .int .i64 24, .int .i64 25] 3)) 3 (nums ranksR)
      rwa [show ((w1.alloc (.cells #[.string ⟨#[111, 114]⟩, .string ⟨#[97, 110, 100]⟩, .string ⟨#[61, 61]⟩, .string ⟨#[43]⟩, .string ⟨#[45]⟩, .string ⟨#[42]⟩, .string ⟨#[47, 47]⟩, .string ⟨#[37]⟩] 9)).alloc (.cells #[.int .i64 19, .int .i64 18, .int .i64 26, .int .i64 21, .int .i64 22, .int .i64 23, .int .i64 24, .int .i64 25] 3)).heap.size = w1.heap.size + 1 + 1 by simp] at h1
    have B3 : Below W.heap.size W (((w1.alloc (.cells #[.string ⟨#[111, 114]⟩, .string ⟨#[97, 110, 100]⟩, .string ⟨#[61, 61]⟩, .string ⟨#[43]⟩, .string ⟨#[45]⟩, .string ⟨#[42]⟩, .string ⟨#[47, 47]⟩, .string ⟨#[37]⟩] 9)).alloc (.cells #[.int .i64 19, .int .i64 18, .int .i64 26, .int .i64 21, .int .i64 22, .int .i64 23, .int .i64 24, .int .i64 25] 3)).alloc (.cells #[.int .i64 1, .int .i64 2, .int .i64 3, .int .i64 4, .int .i64 4, .int .i64 5, .int .i64 5, .int .i64 5] 3)) := ((HB1.out.alloc HB1.out.size _).alloc (by have := HB1.out.size; simp; omega) _).alloc (by have := HB1.out.size; simp; omega) _
    generalize (((w1.alloc (.cells #[.string ⟨#[111, 114]⟩, .string ⟨#[97, 110, 100]⟩, .string ⟨#[61, 61]⟩, .string ⟨#[43]⟩, .string ⟨#[45]⟩, .string ⟨#[42]⟩, .string ⟨#[47, 47]⟩, .string ⟨#[37]⟩] 9)).alloc (.cells #[.int .i64 19, .int .i64 18, .int .i64 26, .int .i64 21, .int .i64 22, .int .i64 23, .int .i64 24, .int .i64 25] 3)).alloc (.cells #[.int .i64 1, .int .i64 2, .int .i64 3, .int .i64 4, .int .i64 4, .int .i64 5, .int .i64 5, .int .i64 5] 3)) = w3 at RS RO RR B3 ⊢
    generalize w1.heap.size + 1 + 1 = gr at RR ⊢
    generalize w1.heap.size + 1 = go at RO ⊢
    generalize w1.heap.size = gs at RS ⊢
    have HB3 := hid' B3
    have HRS := hid' RS
    have HRO := hid' RO
    have HRR := hid' RR
    have hgs := RS.lt
    have csi := RS.cell hsi.out
    have csk := RS.cell hsk.out
    clear B3 RS RO RR
    refine wp_region_held_drew (S := fun W' => Below w3.heap.size w3 W') (by kernel_rfl) (Below.refl _ _).drew (fun hHeld => ?_)
    refine take_val' (i := 0) (v := .slice (some ⟨gs, 0, none⟩) 8 8) rfl (by kernel_rfl) (by kernel_rfl) (by kernel_rfl) (some 47) rfl (fun _ _ _ h => h) (Or.inl ⟨by rfl, fun W' hW => by go_simp⟩) hHeld ?_
    try simp only [Act.put, List.setIfInBounds_toArray, List.set_cons_zero, List.set_cons_succ]
    refine take_val' (i := 1) (v := .int .i64 (i : Int)) rfl (by kernel_rfl) (by kernel_rfl) (by kernel_rfl) (some 48) rfl (fun _ _ _ h => h) (Or.inl ⟨by rfl, fun W' hW => by go_simp⟩) hHeld ?_
    try simp only [Act.put, List.setIfInBounds_toArray, List.set_cons_zero, List.set_cons_succ]
    refine take_val' (i := 2) (v := .pointer (some ⟨gs, i, none⟩)) rfl (by kernel_rfl) (by kernel_rfl) (by kernel_rfl) (some 49) rfl (fun _ _ _ h => h) (Or.inl ⟨by rfl, fun W' hW => by go_simp⟩) hHeld ?_
    try simp only [Act.put, List.setIfInBounds_toArray, List.set_cons_zero, List.set_cons_succ]
    refine take_val' (i := 3) (v := .string (txt si)) rfl (by kernel_rfl) (by kernel_rfl) (by kernel_rfl) (some 50) rfl (fun _ _ _ h => h) (Or.inl ⟨by rfl, fun W' hW => by have c2 := (hW.cell (p := ⟨gs, i, none⟩) hgs).trans csi; go_simp⟩) hHeld ?_
    try simp only [Act.put, List.setIfInBounds_toArray, List.set_cons_zero, List.set_cons_succ]
    refine take_val' (i := 4) (v := .string ((⟨#[97, 32]⟩ : ByteArray) ++ txt si)) rfl (by kernel_rfl) (by kernel_rfl) (by kernel_rfl) (some 51) rfl (fun _ _ _ h => h) (Or.inl ⟨by rfl, fun W' hW => by go_simp; omega⟩) hHeld ?_
    try simp only [Act.put, List.setIfInBounds_toArray, List.set_cons_zero, List.set_cons_succ]
    refine take_val' (i := 5) (v := .string ((⟨#[97, 32]⟩ : ByteArray) ++ txt si ++ ⟨#[32, 98, 32]⟩)) rfl (by kernel_rfl) (by kernel_rfl) (by kernel_rfl) (some 52) rfl (fun _ _ _ h => h) (Or.inl ⟨by rfl, fun W' hW => by go_simp; omega⟩) hHeld ?_
    try simp only [Act.put, List.setIfInBounds_toArray, List.set_cons_zero, List.set_cons_succ]
    refine take_val' (i := 6) (v := .slice (some ⟨gs, 0, none⟩) 8 8) rfl (by kernel_rfl) (by kernel_rfl) (by kernel_rfl) (some 53) rfl (fun _ _ _ h => h) (Or.inl ⟨by rfl, fun W' hW => by go_simp⟩) hHeld ?_
    try simp only [Act.put, List.setIfInBounds_toArray, List.set_cons_zero, List.set_cons_succ]
    refine take_val' (i := 7) (v := .int .i64 (k : Int)) rfl (by kernel_rfl) (by kernel_rfl) (by kernel_rfl) (some 54) rfl (fun _ _ _ h => h) (Or.inl ⟨by rfl, fun W' hW => by go_simp⟩) hHeld ?_
    try simp only [Act.put, List.setIfInBounds_toArray, List.set_cons_zero, List.set_cons_succ]
    refine take_val' (i := 8) (v := .pointer (some ⟨gs, k, none⟩)) rfl (by kernel_rfl) (by kernel_rfl) (by kernel_rfl) (some 55) rfl (fun _ _ _ h => h) (Or.inl ⟨by rfl, fun W' hW => by go_simp⟩) hHeld ?_
    try simp only [Act.put, List.setIfInBounds_toArray, List.set_cons_zero, List.set_cons_succ]
    refine take_val' (i := 9) (v := .string (txt sk)) rfl (by kernel_rfl) (by kernel_rfl) (by kernel_rfl) (some 56) rfl (fun _ _ _ h => h) (Or.inl ⟨by rfl, fun W' hW => by have c2 := (hW.cell (p := ⟨gs, k, none⟩) hgs).trans csk; go_simp⟩) hHeld ?_
    try simp only [Act.put, List.setIfInBounds_toArray, List.set_cons_zero, List.set_cons_succ]
    refine take_val' (i := 10) (v := .string ((⟨#[97, 32]⟩ : ByteArray) ++ txt si ++ ⟨#[32, 98, 32]⟩ ++ txt sk)) rfl (by kernel_rfl) (by kernel_rfl) (by kernel_rfl) (some 57) rfl (fun _ _ _ h => h) (Or.inl ⟨by rfl, fun W' hW => by go_simp; omega⟩) hHeld ?_
    try simp only [Act.put, List.setIfInBounds_toArray, List.set_cons_zero, List.set_cons_succ]
    refine take_val' (i := 11) (v := .string ((⟨#[97, 32]⟩ : ByteArray) ++ txt si ++ ⟨#[32, 98, 32]⟩ ++ txt sk ++ ⟨#[32, 99]⟩)) rfl (by kernel_rfl) (by kernel_rfl) (by kernel_rfl) (some 58) rfl (fun _ _ _ h => h) (Or.inl ⟨by rfl, fun W' hW => by go_simp; omega⟩) hHeld ?_
    try simp only [Act.put, List.setIfInBounds_toArray, List.set_cons_zero, List.set_cons_succ]
    refine wpAnyH_ready (rs := [12]) (by kernel_rfl) (by simp) ?_
    refine AllReadyH.cons rfl (fun K hK => ?_) AllReadyH.nil
    go_simp
    refine Calls.mono (HXA _ (Below.thenB HB3.out hHeld)).out ?_
    rintro e wA ⟨bq, Bq, vlq, vsq, rfl, hBq, hTq⟩
    obtain ⟨gA, capA, rfl, hgA, hcA⟩ := nodes_cells hTq (by have := HLA.out; omega)
    rw [HLA.out]
    have bA := Below.thenB hHeld bq
    clear hHeld hTq
    refine hK.out _ _ bA (fun hHeld => ?_)
    clear hK K
    try simp only [Act.put, List.setIfInBounds_toArray, List.set_cons_zero, List.set_cons_succ]
    refine take_val' (i := 13) (v := .tuple #[.slice (some ⟨gA, 0, none⟩) 5 capA, .nilIface]) rfl (by kernel_rfl) (by kernel_rfl) (by kernel_rfl) (some 46) rfl (fun _ _ _ h => h) (Or.inl ⟨by rfl, fun W' hW => by go_simp⟩) hHeld ?_
    try simp only [Act.put, List.setIfInBounds_toArray, List.set_cons_zero, List.set_cons_succ]
    refine take_val' (i := 14) (v := .slice (some ⟨gA, 0, none⟩) 5 capA) rfl (by kernel_rfl) (by kernel_rfl) (by kernel_rfl) (some 60) rfl (fun _ _ _ h => h) (Or.inl ⟨by rfl, fun W' hW => by go_simp⟩) hHeld ?_
    try simp only [Act.put, List.setIfInBounds_toArray, List.set_cons_zero, List.set_cons_succ]
    refine take_val' (i := 15) (v := .nilIface) rfl (by kernel_rfl) (by kernel_rfl) (by kernel_rfl) (some 61) rfl (fun _ _ _ h => h) (Or.inl ⟨by rfl, fun W' hW => by go_simp⟩) hHeld ?_
    try simp only [Act.put, List.setIfInBounds_toArray, List.set_cons_zero, List.set_cons_succ]
    refine take_val' (i := 16) (v := .slice (some ⟨gA, 0, none⟩) 5 capA) rfl (by kernel_rfl) (by kernel_rfl) (by kernel_rfl) (some 11) rfl (fun _ _ _ h => h) (Or.inl ⟨by rfl, fun W' hW => by go_simp⟩) hHeld ?_
    try simp only [Act.put, List.setIfInBounds_toArray, List.set_cons_zero, List.set_cons_succ]
    refine take_val' (i := 17) (v := .nilIface) rfl (by kernel_rfl) (by kernel_rfl) (by kernel_rfl) (some 12) rfl (fun _ _ _ h => h) (Or.inl ⟨by rfl, fun W' hW => by go_simp⟩) hHeld ?_
    try simp only [Act.put, List.setIfInBounds_toArray, List.set_cons_zero, List.set_cons_succ]
    refine wpAnyH_done (by kernel_rfl) ?_ _
    clear hHeld
    have HBA := hid' (Below.thenB HB3.out bA)
    have HRS2 := hid' (HRS.out.far (bA.block _ HRS.out.lt))
    have HRO2 := hid' (HRO.out.far (bA.block _ HRO.out.lt))
    have HRR2 := hid' (HRR.out.far (bA.block _ HRR.out.lt))
    have HCA : Hid (wA.cell? ⟨gA, 4 * 5, none⟩ = some (.int .i64 (topR i k))) := hid' (by
      obtain ⟨x4, hx4, ex4⟩ := HTA.out
      rw [(hcA 4 x4 hx4).1, ex4])
    clear HRS HRO HRR hgs csi csk bA hcA HB3
    have hgs := HRS2.out.lt
    have csi := HRS2.out.cell hsi.out
    have csk := HRS2.out.cell hsk.out
    go_wp2_with fail
    refine wp_region_held_drew (S := fun W' => Below wA.heap.size wA W') (by kernel_rfl) (Below.refl _ _).drew (fun hHeld => ?_)
    refine take_val' (i := 0) (v := .slice (some ⟨gs, 0, none⟩) 8 8) rfl (by kernel_rfl) (by kernel_rfl) (by kernel_rfl) (some 63) rfl (fun _ _ _ h => h) (Or.inl ⟨by rfl, fun W' hW => by go_simp⟩) hHeld ?_
    try simp only [Act.put, List.setIfInBounds_toArray, List.set_cons_zero, List.set_cons_succ]
    refine take_val' (i := 1) (v := .int .i64 (i : Int)) rfl (by kernel_rfl) (by kernel_rfl) (by kernel_rfl) (some 64) rfl (fun _ _ _ h => h) (Or.inl ⟨by rfl, fun W' hW => by go_simp⟩) hHeld ?_
    try simp only [Act.put, List.setIfInBounds_toArray, List.set_cons_zero, List.set_cons_succ]
    refine take_val' (i := 2) (v := .pointer (some ⟨gs, i, none⟩)) rfl (by kernel_rfl) (by kernel_rfl) (by kernel_rfl) (some 65) rfl (fun _ _ _ h => h) (Or.inl ⟨by rfl, fun W' hW => by go_simp⟩) hHeld ?_
    try simp only [Act.put, List.setIfInBounds_toArray, List.set_cons_zero, List.set_cons_succ]
    refine take_val' (i := 3) (v := .string (txt si)) rfl (by kernel_rfl) (by kernel_rfl) (by kernel_rfl) (some 66) rfl (fun _ _ _ h => h) (Or.inl ⟨by rfl, fun W' hW => by have c2 := (hW.cell (p := ⟨gs, i, none⟩) hgs).trans csi; go_simp⟩) hHeld ?_
    try simp only [Act.put, List.setIfInBounds_toArray, List.set_cons_zero, List.set_cons_succ]
    refine take_val' (i := 4) (v := .string ((⟨#[97, 32]⟩ : ByteArray) ++ txt si)) rfl (by kernel_rfl) (by kernel_rfl) (by kernel_rfl) (some 67) rfl (fun _ _ _ h => h) (Or.inl ⟨by rfl, fun W' hW => by go_simp; omega⟩) hHeld ?_
    try simp only [Act.put, List.setIfInBounds_toArray, List.set_cons_zero, List.set_cons_succ]
    refine take_val' (i := 5) (v := .string ((⟨#[97, 32]⟩ : ByteArray) ++ txt si ++ ⟨#[32, 40, 98, 32]⟩)) rfl (by kernel_rfl) (by kernel_rfl) (by kernel_rfl) (some 68) rfl (fun _ _ _ h => h) (Or.inl ⟨by rfl, fun W' hW => by go_simp; omega⟩) hHeld ?_
    try simp only [Act.put, List.setIfInBounds_toArray, List.set_cons_zero, List.set_cons_succ]
    refine take_val' (i := 6) (v := .slice (some ⟨gs, 0, none⟩) 8 8) rfl (by kernel_rfl) (by kernel_rfl) (by kernel_rfl) (some 69) rfl (fun _ _ _ h => h) (Or.inl ⟨by rfl, fun W' hW => by go_simp⟩) hHeld ?_
    try simp only [Act.put, List.setIfInBounds_toArray, List.set_cons_zero, List.set_cons_succ]
    refine take_val' (i := 7) (v := .int .i64 (k : Int)) rfl (by kernel_rfl) (by kernel_rfl) (by kernel_rfl) (some 70) rfl (fun _ _ _ h => h) (Or.inl ⟨by rfl, fun W' hW => by go_simp⟩) hHeld ?_
    try simp only [Act.put, List.setIfInBounds_toArray, List.set_cons_zero, List.set_cons_succ]
    refine take_val' (i := 8) (v := .pointer (some ⟨gs, k, none⟩)) rfl (by kernel_rfl) (by kernel_rfl) (by kernel_rfl) (some 71) rfl (fun _ _ _ h => h) (Or.inl ⟨by rfl, fun W' hW => by go_simp⟩) hHeld ?_
    try simp only [Act.put, List.setIfInBounds_toArray, List.set_cons_zero, List.set_cons_succ]
    refine take_val' (i := 9) (v := .string (txt sk)) rfl (by kernel_rfl) (by kernel_rfl) (by kernel_rfl) (some 72) rfl (fun _ _ _ h => h) (Or.inl ⟨by rfl, fun W' hW => by have c2 := (hW.cell (p := ⟨gs, k, none⟩) hgs).trans csk; go_simp⟩) hHeld ?_
    try simp only [Act.put, List.setIfInBounds_toArray, List.set_cons_zero, List.set_cons_succ]
    refine take_val' (i := 10) (v := .string ((⟨#[97, 32]⟩ : ByteArray) ++ txt si ++ ⟨#[32, 40, 98, 32]⟩ ++ txt sk)) rfl (by kernel_rfl) (by kernel_rfl) (by kernel_rfl) (some 73) rfl (fun _ _ _ h => h) (Or.inl ⟨by rfl, fun W' hW => by go_simp; omega⟩) hHeld ?_
    try simp only [Act.put, List.setIfInBounds_toArray, List.set_cons_zero, List.set_cons_succ]
    refine take_val' (i := 11) (v := .string ((⟨#[97, 32]⟩ : ByteArray) ++ txt si ++ ⟨#[32, 40, 98, 32]⟩ ++ txt sk ++ ⟨#[32, 99, 41]⟩)) rfl (by kernel_rfl) (by kernel_rfl) (by kernel_rfl) (some 74) rfl (fun _ _ _ h => h) (Or.inl ⟨by rfl, fun W' hW => by go_simp; omega⟩) hHeld ?_
    try simp only [Act.put, List.setIfInBounds_toArray, List.set_cons_zero, List.set_cons_succ]
    refine wpAnyH_ready (rs := [12]) (by kernel_rfl) (by simp) ?_
    refine AllReadyH.cons rfl (fun K hK => ?_) AllReadyH.nil
    go_simp
    refine Calls.mono (HXB _ (Below.thenB HBA.out hHeld)).out ?_
    rintro e wB ⟨bq, Bq, vlq, vsq, rfl, hBq, hTq⟩
    obtain ⟨gB, capB, rfl, hgB, hcB⟩ := nodes_cells hTq (by have := HLB.out; omega)
    rw [HLB.out]
    have bB := Below.thenB hHeld bq
    clear hHeld hTq
    refine hK.out _ _ bB (fun hHeld => ?_)
    clear hK K
    try simp only [Act.put, List.setIfInBounds_toArray, List.set_cons_zero, List.set_cons_succ]
    refine take_val' (i := 13) (v := .tuple #[.slice (some ⟨gB, 0, none⟩) 5 capB, .nilIface]) rfl (by kernel_rfl) (by kernel_rfl) (by kernel_rfl) (some 62) rfl (fun _ _ _ h => h) (Or.inl ⟨by rfl, fun W' hW => by go_simp⟩) hHeld ?_
    try simp only [Act.put, List.setIfInBounds_toArray, List.set_cons_zero, List.set_cons_succ]
    refine take_val' (i := 14) (v := .slice (some ⟨gB, 0, none⟩) 5 capB) rfl (by kernel_rfl) (by kernel_rfl) (by kernel_rfl) (some 76) rfl (fun _ _ _ h => h) (Or.inl ⟨by rfl, fun W' hW => by go_simp⟩) hHeld ?_
    try simp only [Act.put, List.setIfInBounds_toArray, List.set_cons_zero, List.set_cons_succ]
    refine take_val' (i := 15) (v := .nilIface) rfl (by kernel_rfl) (by kernel_rfl) (by kernel_rfl) (some 77) rfl (fun _ _ _ h => h) (Or.inl ⟨by rfl, fun W' hW => by go_simp⟩) hHeld ?_
    try simp only [Act.put, List.setIfInBounds_toArray, List.set_cons_zero, List.set_cons_succ]
    refine take_val' (i := 16) (v := .slice (some ⟨gB, 0, none⟩) 5 capB) rfl (by kernel_rfl) (by kernel_rfl) (by kernel_rfl) (some 13) rfl (fun _ _ _ h => h) (Or.inl ⟨by rfl, fun W' hW => by go_simp⟩) hHeld ?_
    try simp only [Act.put, List.setIfInBounds_toArray, List.set_cons_zero, List.set_cons_succ]
    refine take_val' (i := 17) (v := .nilIface) rfl (by kernel_rfl) (by kernel_rfl) (by kernel_rfl) (some 14) rfl (fun _ _ _ h => h) (Or.inl ⟨by rfl, fun W' hW => by go_simp⟩) hHeld ?_
    try simp only [Act.put, List.setIfInBounds_toArray, List.set_cons_zero, List.set_cons_succ]
    refine wpAnyH_done (by kernel_rfl) ?_ _
    clear hHeld
    have HBB := hid' (Below.thenB HBA.out bB)
    have hcO := HRO2.out.far (bB.block _ HRO2.out.lt)
    have hcR := HRR2.out.far (bB.block _ HRR2.out.lt)
    have oi := hcO.cell hoi.out
    have ok := hcO.cell hok.out
    have ri := hcR.cell hri.out
    have rk := hcR.cell hrk2.out
    have cA : wB.cell? ⟨gA, 20, none⟩ = some (.int .i64 (topR i k)) := (bB.cell (p := ⟨gA, 20, none⟩) hgA).trans HCA.out
    obtain ⟨⟨x4, hx4, ex4⟩, x3, hx3, ex3⟩ := HTB.out
    have cB4 : wB.cell? ⟨gB, 20, none⟩ = some (.int .i64 (opsR.getD i 0)) := by
      have := (hcB 4 x4 hx4).1
      rwa [ex4] at this
    have cB3 : wB.cell? ⟨gB, 15, none⟩ = some (.int .i64 (opsR.getD k 0)) := by
      have := (hcB 3 x3 hx3).1
      rwa [ex3] at this
    have HTR := hid' (show topR i k = if ranksR.getD k 0 > ranksR.getD i 0 then opsR.getD i 0 else opsR.getD k 0 from rfl)
    generalize topR i k = tp at cA HTR
    generalize opsR.getD i 0 = o1 at oi cB4 HTR
    generalize opsR.getD k 0 = o2 at ok cB3 HTR
    generalize ranksR.getD i 0 = r1 at ri HTR
    generalize ranksR.getD k 0 = r2 at rk HTR
    clear HRS2 HRO2 HRR2 hcO hcR HTB HTA HCA hcB hx4 ex4 hx3 ex3 csi csk hgs bB HBA HXA HXB hsi hsk hoi hok hri hrk2 HCX HF
    have HZZ := HBB
    by_cases hgt : r1 < r2
    · have htp : tp = o1 := by rw [HTR.out, if_pos hgt]
      subst htp
      clear HTR
      go_wp2
      go_quiet (fail)
      go_wp2
      go_quiet (fail)
      go_wp2
      go_returns
      exact ⟨rfl, Below.drewN' (Below.drewN' HZZ.out _) _⟩
    have htp : tp = o2 := by rw [HTR.out, if_neg hgt]
    subst htp
    clear HTR
    go_wp2
    go_quiet (fail)
    go_wp2
    go_quiet (fail)
    go_wp2
    go_returns
    exact ⟨rfl, Below.drewN' (Below.drewN' HZZ.out _) _⟩
end Go.Proofs.YtbooimbcmdcbpaaGreatDoor
