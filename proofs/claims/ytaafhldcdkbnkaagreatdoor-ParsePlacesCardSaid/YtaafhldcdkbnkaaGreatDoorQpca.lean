/- Parts of the proof, together. The law's first answer. Conditions: the words and the errors of api lie in their variables. Numbers folded, texts put together, a fault with a place: what the laws of this layer have in common. Conditions: the words and the errors of api lie in their variables. What the functions make of the law's texts of statements where they may not stand. No conditions. ParsePlaces: statements where they may not stand are told at their word, wherever that is. Conditions: the words and the errors of api lie in their variables. -/
import Derived.BigQuiet
import Derived.Test.YtaafhldcdkbnkaaGreatDoorQpbz
import Derived.Test.YtaafhldcdkbnkaaGreatDoorQpad
import Derived.Test.YtaafhldcdkbnkaaGreatDoorQpbo
import Derived.Test.YtaafhldcdkbnkaaGreatDoorQpbm
import Derived.Test.YtaafhldcdkbnkaaGreatDoorQpbx
namespace Go.Proofs.YtaafhldcdkbnkaaGreatDoor
open Go.RowKit
open Lx Ax Px

/-- The words and the errors of api lie in their variables. -/
structure PCx (A : Nat → Addr) (W : World) : Prop where
  vars : Vars A W
  sent : Sent A W
theorem PCx.below {A : Nat → Addr} {W W' : World} (h : PCx A W) (hb : Below W.heap.size W W') : PCx A W' := ⟨h.vars.below hb, h.sent.below hb⟩
theorem PCx.ev {A : Nat → Addr} {W : World} (h : PCx A W) : EV A W.heap.size W := ⟨h.sent.g1, h.sent.g7, World.block_lt_of_cell? W _ h.sent.g1, World.block_lt_of_cell? W _ h.sent.g7⟩
def O6 : List Int := [6, 4, 4, 21, 36, 47]
def P6 : List Int := [0, 4, 8, 6, 2, 2]
theorem first_nodes : ∃ l, Px.treeF 60 .file [120, 32, 61, 32, 49, 32, 43, 32, 50] = some (.ok l) ∧ l.map (fun x => (x.op, x.pos)) = [(6, 0), (4, 4), (4, 8), (21, 6), (36, 2), (47, 2)] := by
  have h := rk_first
  split at h
  · rename_i l hl
    exact ⟨l, hl, by simpa using h⟩
  · cases h
/-- The nodes of a list that came out, by their cells. -/
theorem nodes_cells {W : World} {B : Nat} {vl : Value} {l : List Nd} {vs : List Value} (h : Tr W B vl l vs) (hp : 0 < l.length) : ∃ g cap, vl = .slice (some ⟨g, 0, none⟩) l.length cap ∧ g < W.heap.size ∧ ∀ (j : Nat) x, l[j]? = some x → W.cell? ⟨g, j * 5, none⟩ = some (.int .i64 x.op) ∧ W.cell? ⟨g, j * 5 + 2, none⟩ = some (.int .i64 x.pos) := by
  obtain ⟨g, cap, e, _, _, hg, _⟩ := own_some h.own hp
  subst e
  refine ⟨g, cap, rfl, hg, fun j x hx => ?_⟩
  obtain ⟨v, _, N, _⟩ := h.cells j x hx
  exact ⟨N.op, N.pos⟩
set_option maxRecDepth 20000 in
set_option maxHeartbeats 3200000 in
theorem pfirst_any (A : Nat → Addr) (W : World) (h : PCx A W) : Calls Tryz.prog 8 #[] W fun e w' => e = .returned (.bool true) ∧ Below W.heap.size W w' := by
  obtain ⟨l, hl, hm⟩ := first_nodes
  have hlen : l.length = 6 := by have := congrArg List.length hm; simpa using this
  have hat : ∀ j, j < 6 → ∃ x, l[j]? = some x ∧ x.op = O6.getD j 0 ∧ x.pos = P6.getD j 0 := by
    intro j hj
    have hx : l[j]? = some l[j] := List.getElem?_eq_getElem (by omega)
    refine ⟨l[j], hx, ?_⟩
    have h1 : (l.map (fun x => (x.op, x.pos)))[j]? = some (l[j].op, l[j].pos) := by rw [List.getElem?_map, hx]; rfl
    rw [hm] at h1
    have h2 : j = 0 ∨ j = 1 ∨ j = 2 ∨ j = 3 ∨ j = 4 ∨ j = 5 := by omega
    rcases h2 with rfl | rfl | rfl | rfl | rfl | rfl <;> (simp at h1; simp [O6, P6, h1.1.symm, h1.2.symm])
  have HT := hid' (parse_any A ⟨#[120, 32, 61, 32, 49, 32, 43, 32, 50]⟩ (by decide) W h.vars h.ev 60 (.ok l) hl)
  have hn2 := neq_none
  clear h hl hm
  go_enter Tryz.func8, Tryz.ntmps8
  go_wp2_with fail
  refine Calls.mono HT.out ?_
  rintro e w2 ⟨b2, B, vl, vs, rfl, hB, hT⟩
  obtain ⟨g, cap, rfl, hg, hc⟩ := nodes_cells hT (by omega)
  rw [hlen]
  have HC : Hid (∀ j, j < 6 → w2.cell? ⟨g, j * 5, none⟩ = some (.int .i64 (O6.getD j 0)) ∧ w2.cell? ⟨g, j * 5 + 2, none⟩ = some (.int .i64 (P6.getD j 0))) := hid' (fun j hj => by
    obtain ⟨x, hx, e1, e2⟩ := hat j hj
    have := hc j x hx
    rwa [e1, e2] at this)
  have HB := hid' b2
  clear hT hc hat b2 HT hlen
  go_wp2_with fail
  go_loopg [4] 6 (fun gk u4 wr => ∃ i : Nat, i + gk = 6 ∧ u4 = .int .i64 (i : Int) ∧ Hid (Below (w2.alloc (.cells #[.int .i64 6, .int .i64 4, .int .i64 4, .int .i64 21, .int .i64 36, .int .i64 47] 3)).heap.size (w2.alloc (.cells #[.int .i64 6, .int .i64 4, .int .i64 4, .int .i64 21, .int .i64 36, .int .i64 47] 3)) wr))
  case atStart => exact ⟨0, rfl, rfl, hid' (Below.refl _ _)⟩
  case round =>
    obtain ⟨i, hi, rfl, HBR⟩ := hrel
    have hrw := row_new w2 3 [.int .i64 6, .int .i64 4, .int .i64 4, .int .i64 21, .int .i64 36, .int .i64 47]
    have hgr : g < (w2.alloc (.cells #[.int .i64 6, .int .i64 4, .int .i64 4, .int .i64 21, .int .i64 36, .int .i64 47] 3)).heap.size := by simp; omega
    have hcell : ∀ o, wr.cell? ⟨g, o, none⟩ = w2.cell? ⟨g, o, none⟩ := fun o => World.cell?_of_block (w := w2) ((HBR.out.block g hgr).trans (Below.heap_alloc _ _ _ hg))
    have hrow := hrw.far (HBR.out.block _ hrw.lt)
    by_cases hlt : i < 6
    · have hli : (i : Int) < 6 := by omega
      obtain ⟨k1, k2⟩ := HC.out i hlt
      rw [← hcell] at k1
      have k3 : wr.cell? ⟨w2.heap.size, i, none⟩ = some (.int .i64 (O6.getD i 0)) := by
        have h2 : i = 0 ∨ i = 1 ∨ i = 2 ∨ i = 3 ∨ i = 4 ∨ i = 5 := by omega
        rcases h2 with rfl | rfl | rfl | rfl | rfl | rfl <;> exact hrow.cell rfl
      generalize O6.getD i 0 = o at k1 k3
      have hoo : (o != o) = false := by simp
      have hb1 : (0 : Int) ≤ (i : Int) ∧ (i : Int) < 6 := by omega
      have hwi : IntKind.i64.wrap ((i : Int) + 1) = ((i + 1 : Nat) : Int) := by rw [IntWalk.i64_in _ ⟨by omega, by omega⟩]; omega
      have HI := hid' hi
      clear hrw hgr hcell hrow k2 hi HC
      go_wp2
      go_region
      all_goals (
        go_wp2
        go_roundg (gk - 1)
        case measure => have := HI.out; omega
        case rel => exact ⟨i + 1, by have := HI.out; omega, by simp, hid' HBR.out.drew⟩)
    · obtain rfl : i = 6 := by omega
      have k4 := (HC.out 4 (by omega)).2
      have k5 := (HC.out 3 (by omega)).2
      rw [← hcell] at k4 k5
      have HBZ : Hid (Below W.heap.size W wr) := hid' (HB.out.trans (((Below.refl w2.heap.size w2).alloc (Nat.le_refl _) _ |>.trans (HBR.out.mono (by simp))).mono HB.out.size))
      clear hrw hgr hcell hrow HC HB HBR
      go_wp2
      go_returns
      exact ⟨rfl, HBZ.out⟩
end Go.Proofs.YtaafhldcdkbnkaaGreatDoor

namespace Go.Proofs.YtaafhldcdkbnkaaGreatDoor
open Go.RowKit
open Lx Ax Px

theorem foldR_le (z : Int) (b : Nat) (hb : 0 < b) : -(b : Int) < z.tmod b ∧ z.tmod b < b := by
  have h1 := Int.tmod_lt_of_pos z (b := (b : Int)) (by omega)
  have h2 := Int.tmod_lt_of_pos (-z) (b := (b : Int)) (by omega)
  rw [Int.neg_tmod] at h2
  omega
theorem foldR_is (z : Int) (b : Nat) (hb : 0 < b) : ∃ n : Nat, (z.tmod b + b).tmod b = (n : Int) ∧ n < b := by
  have h := foldR_le z b hb
  have h2 : (z.tmod b + b).tmod b = (z.tmod b + b) % b := Int.tmod_eq_emod_of_nonneg (by omega)
  have h3 := Int.emod_nonneg (z.tmod b + b) (b := (b : Int)) (by omega)
  have h4 := Int.emod_lt_of_pos (z.tmod b + b) (b := (b : Int)) (by omega)
  exact ⟨((z.tmod b + b) % b).toNat, by rw [h2]; omega, by omega⟩
theorem txt_cat (x y : List UInt8) : txt x ++ txt y = txt (x ++ y) := by
  apply ByteArray.ext
  apply Array.toList_inj.1
  rw [ByteArray.data_append, Array.toList_append]
  rfl
theorem placed_same (A : Nat → Addr) (W : World) (h : Sent A W) (g : Nat) (pos : Int) (hg : W.heap[g]? = some (.cells #[.int .i64 pos, E A 1] 84 (0, 0))) : Calls Tryz.prog 15 #[.iface 67 (.pointer (some ⟨g, 0, none⟩)), pl 102 pos] W (tells (.bool true) W) := Same_pl A 1 g pos W (by omega) h hg
theorem limit_same (A : Nat → Addr) (W : World) (h : Sent A W) (g : Nat) (pos : Int) (hg : W.heap[g]? = some (.cells #[.int .i64 pos, E A 7] 84 (0, 0))) : Calls Tryz.prog 15 #[.iface 67 (.pointer (some ⟨g, 0, none⟩)), pl 108 pos] W (tells (.bool true) W) := Same_pl A 7 g pos W (by omega) h hg
theorem txt_size (l : List UInt8) : (txt l).size = l.length := rfl
end Go.Proofs.YtaafhldcdkbnkaaGreatDoor

namespace Go.Proofs.YtaafhldcdkbnkaaGreatDoor
open Go.RowKit
namespace Px
open Lx Ax

def lineX : List UInt8 := [120, 32, 61, 32, 49, 10]
def linesX : Nat → List UInt8
  | 0 => []
  | n + 1 => linesX n ++ lineX
theorem linesX_length : ∀ n, (linesX n).length = 6 * n
  | 0 => rfl
  | n + 1 => by rw [linesX, List.length_append, linesX_length n]; simp [lineX]; omega
def badsX : List (List UInt8) := [[98, 114, 101, 97, 107, 10], [99, 111, 110, 116, 105, 110, 117, 101, 10], [114, 101, 116, 117, 114, 110, 32, 49, 10], [49, 32, 61, 32, 50, 10], [102, 40, 97, 32, 61, 32, 49, 44, 32, 50, 41, 10], [100, 101, 102, 32, 102, 40, 97, 44, 32, 97, 41, 58, 32, 112, 97, 115, 115, 10], [105, 102, 32, 120, 58, 10, 32, 32, 100, 101, 102, 32, 103, 40, 41, 58, 32, 112, 97, 115, 115, 10], [102, 111, 114, 32, 49, 32, 105, 110, 32, 120, 58, 32, 112, 97, 115, 115, 10]]
def atsX : List Int := [0, 0, 0, 2, 9, 9, 8, 4]
def plOK (k n : Nat) : Bool := match treeF 80 .file (linesX n ++ badsX.getD k []) with
  | some (.bad false p) => p == 6 * (n : Int) + atsX.getD k 0
  | _ => false
set_option maxRecDepth 100000 in
theorem pl_0_0 : (List.range 10).all (fun n => plOK 0 (n + 0)) = true := by decide +kernel
set_option maxRecDepth 100000 in
theorem pl_0_1 : (List.range 10).all (fun n => plOK 0 (n + 10)) = true := by decide +kernel
set_option maxRecDepth 100000 in
theorem pl_1_0 : (List.range 10).all (fun n => plOK 1 (n + 0)) = true := by decide +kernel
set_option maxRecDepth 100000 in
theorem pl_1_1 : (List.range 10).all (fun n => plOK 1 (n + 10)) = true := by decide +kernel
set_option maxRecDepth 100000 in
theorem pl_2_0 : (List.range 10).all (fun n => plOK 2 (n + 0)) = true := by decide +kernel
set_option maxRecDepth 100000 in
theorem pl_2_1 : (List.range 10).all (fun n => plOK 2 (n + 10)) = true := by decide +kernel
set_option maxRecDepth 100000 in
theorem pl_3_0 : (List.range 10).all (fun n => plOK 3 (n + 0)) = true := by decide +kernel
set_option maxRecDepth 100000 in
theorem pl_3_1 : (List.range 10).all (fun n => plOK 3 (n + 10)) = true := by decide +kernel
set_option maxRecDepth 100000 in
theorem pl_4_0 : (List.range 10).all (fun n => plOK 4 (n + 0)) = true := by decide +kernel
set_option maxRecDepth 100000 in
theorem pl_4_1 : (List.range 10).all (fun n => plOK 4 (n + 10)) = true := by decide +kernel
set_option maxRecDepth 100000 in
theorem pl_5_0 : (List.range 10).all (fun n => plOK 5 (n + 0)) = true := by decide +kernel
set_option maxRecDepth 100000 in
theorem pl_5_1 : (List.range 10).all (fun n => plOK 5 (n + 10)) = true := by decide +kernel
set_option maxRecDepth 100000 in
theorem pl_6_0 : (List.range 10).all (fun n => plOK 6 (n + 0)) = true := by decide +kernel
set_option maxRecDepth 100000 in
theorem pl_6_1 : (List.range 10).all (fun n => plOK 6 (n + 10)) = true := by decide +kernel
set_option maxRecDepth 100000 in
theorem pl_7_0 : (List.range 10).all (fun n => plOK 7 (n + 0)) = true := by decide +kernel
set_option maxRecDepth 100000 in
theorem pl_7_1 : (List.range 10).all (fun n => plOK 7 (n + 10)) = true := by decide +kernel
theorem pl_half {k h : Nat} (e : (List.range 10).all (fun n => plOK k (n + h)) = true) (n : Nat) (h1 : h ≤ n) (h2 : n < h + 10) : plOK k n = true := by
  have := List.all_eq_true.1 e (n - h) (List.mem_range.2 (by omega))
  rwa [Nat.sub_add_cancel h1] at this
theorem pl_all (k n : Nat) (hk : k < 8) (hn : n < 20) : plOK k n = true := by
  have h : k = 0 ∨ k = 1 ∨ k = 2 ∨ k = 3 ∨ k = 4 ∨ k = 5 ∨ k = 6 ∨ k = 7 := by omega
  by_cases hl : n < 10
  · rcases h with rfl | rfl | rfl | rfl | rfl | rfl | rfl | rfl
    · exact pl_half pl_0_0 n (by omega) (by omega)
    · exact pl_half pl_1_0 n (by omega) (by omega)
    · exact pl_half pl_2_0 n (by omega) (by omega)
    · exact pl_half pl_3_0 n (by omega) (by omega)
    · exact pl_half pl_4_0 n (by omega) (by omega)
    · exact pl_half pl_5_0 n (by omega) (by omega)
    · exact pl_half pl_6_0 n (by omega) (by omega)
    · exact pl_half pl_7_0 n (by omega) (by omega)
  · rcases h with rfl | rfl | rfl | rfl | rfl | rfl | rfl | rfl
    · exact pl_half pl_0_1 n (by omega) (by omega)
    · exact pl_half pl_1_1 n (by omega) (by omega)
    · exact pl_half pl_2_1 n (by omega) (by omega)
    · exact pl_half pl_3_1 n (by omega) (by omega)
    · exact pl_half pl_4_1 n (by omega) (by omega)
    · exact pl_half pl_5_1 n (by omega) (by omega)
    · exact pl_half pl_6_1 n (by omega) (by omega)
    · exact pl_half pl_7_1 n (by omega) (by omega)
theorem pl_at (k n : Nat) (hk : k < 8) (hn : n < 20) : treeF 80 .file (linesX n ++ badsX.getD k []) = some (.bad false (6 * (n : Int) + atsX.getD k 0)) := by
  have h2 := pl_all k n hk hn
  unfold plOK at h2
  split at h2
  · rename_i p hp
    rw [hp, eq_of_beq h2]
  · cases h2
end Px
end Go.Proofs.YtaafhldcdkbnkaaGreatDoor

namespace Go.Proofs.YtaafhldcdkbnkaaGreatDoor
open Go.RowKit
open Lx Ax Px

def badC : List Value := badsX.map fun l => .string (txt l)
theorem bad_at (i : Nat) (hi : i < 8) : badC[i]? = some (.string (txt (badsX.getD i []))) := by
  have h2 : i = 0 ∨ i = 1 ∨ i = 2 ∨ i = 3 ∨ i = 4 ∨ i = 5 ∨ i = 6 ∨ i = 7 := by omega
  rcases h2 with rfl | rfl | rfl | rfl | rfl | rfl | rfl | rfl <;> rfl
theorem ats_at (i : Nat) (hi : i < 8) : (nums atsX)[i]? = some (.int .i64 (atsX.getD i 0)) ∧ 0 ≤ atsX.getD i 0 ∧ atsX.getD i 0 ≤ 9 ∧ (badsX.getD i []).length ≤ 30 := by
  have h2 : i = 0 ∨ i = 1 ∨ i = 2 ∨ i = 3 ∨ i = 4 ∨ i = 5 ∨ i = 6 ∨ i = 7 := by omega
  rcases h2 with rfl | rfl | rfl | rfl | rfl | rfl | rfl | rfl <;> exact ⟨rfl, by decide, by decide, by decide⟩
theorem row_new1 (W : World) (t : TypeId) (vs : List Value) (o : Obj) : RowV ((W.alloc o).alloc (.cells vs.toArray t)) (W.heap.size + 1) t vs := by
  have h := row_new (W.alloc o) t vs
  rwa [show (W.alloc o).heap.size = W.heap.size + 1 by simp] at h
set_option maxRecDepth 20000 in
set_option maxHeartbeats 6400000 in
theorem parsePlaces_any (A : Nat → Addr) (x y : Int) (W : World) (h : PCx A W) : Calls Tryz.prog 7 #[.int .i64 x, .int .i64 y] W fun e w' => e = .returned (.bool true) ∧ Below W.heap.size W w' := by
  have hnot : ∀ (x : Bool) (w : World), (Op.unary .not (.bool x)).run Tryz.prog w = .ok (.bool (!x)) w := fun _ _ => rfl
  have HF := hid' (pfirst_any A W h)
  have HCX := hid' h
  obtain ⟨n, e1, hn⟩ := foldR_is y 20 (by omega)
  obtain ⟨k, e2, hk⟩ := foldR_is x 8 (by omega)
  have m1 := foldR_le y 20 (by omega)
  have m2 := foldR_le x 8 (by omega)
  rw [show ((20 : Nat) : Int) = 20 from rfl] at e1 m1
  rw [show ((8 : Nat) : Int) = 8 from rfl] at e2 m2
  obtain ⟨my, hmy⟩ : ∃ m, y.tmod 20 = m := ⟨_, rfl⟩
  obtain ⟨mx, hmx⟩ : ∃ m, x.tmod 8 = m := ⟨_, rfl⟩
  rw [hmy] at e1 m1
  rw [hmx] at e2 m2
  have hpl := pl_at k n hk hn
  obtain ⟨ha, ha0, ha9, hbl⟩ := ats_at k hk
  have hb := bad_at k hk
  obtain ⟨a, hae⟩ : ∃ a, atsX.getD k 0 = a := ⟨_, rfl⟩
  obtain ⟨bk, hbe⟩ : ∃ b, badsX.getD k [] = b := ⟨_, rfl⟩
  rw [hae] at hpl ha ha0 ha9
  rw [hbe] at hpl hb hbl
  obtain ⟨SV, hSV⟩ : ∃ f : Nat → ByteArray, f = fun j => txt (linesX j) := ⟨_, rfl⟩
  have HS0 : Hid (SV 0 = ⟨#[]⟩) := hid' (by rw [hSV]; rfl)
  have HSS : Hid (∀ j, SV j ++ ⟨#[120, 32, 61, 32, 49, 10]⟩ = SV (j + 1)) := hid' (fun j => by rw [hSV]; exact txt_cat (linesX j) lineX)
  have HSZ : Hid (∀ j, (SV j).size = 6 * j) := hid' (fun j => by rw [hSV]; exact linesX_length j)
  have hT : (SV n ++ txt bk).data.toList = linesX n ++ bk := by
    rw [hSV]
    show (txt (linesX n) ++ txt bk).data.toList = _
    rw [txt_cat]
    rfl
  have hTz : (SV n ++ txt bk).size ≤ 65536 := by
    have h1 : (SV n ++ txt bk).size = (SV n ++ txt bk).data.toList.length := by rw [Array.length_toList]; rfl
    rw [h1, hT, List.length_append, linesX_length]; omega
  have hzn := HSZ.out n
  have hpos : (6 * (n : Int) + a) = ((SV n).size : Int) + a := by rw [hzn]; simp
  rw [hpos, ← hT] at hpl
  have HX := fun W' (hb : Below W.heap.size W W') => hid' (parse_any A (SV n ++ txt bk) hTz W' (HCX.out.below hb).vars (HCX.out.below hb).ev 80 _ hpl)
  have hkk : (0 : Int) ≤ (k : Int) ∧ (k : Int) < 8 := by omega
  have hbz : (txt bk).size ≤ 30 := hbl
  have HB := hid' hb
  have HA := hid' ha
  clear h hpl hT hTz hpos hSV hbe hae hbl hb ha hk
  go_enter Tryz.func7, Tryz.ntmps7
  go_wp2_with fail
  refine Calls.mono HF.out ?_
  rintro e w1 ⟨rfl, b1⟩
  have HB1 := hid' b1
  clear b1 HF
  go_wp2
  clear e1 m1
  go_loopw [6, 7] (fun t c wr => ∃ j : Nat, j ≤ n ∧ c = .int .i64 j ∧ t = .string (SV j) ∧ wr = w1) (fun _ c _ => n - (intOf c).toNat)
  case atStart => exact ⟨0, Nat.zero_le _, rfl, by rw [HS0.out], rfl⟩
  case round =>
    obtain ⟨j, hj, rfl, rfl, rfl⟩ := hrel
    by_cases hlt : j < n
    · have hlt' : (j : Int) < (n : Int) := by omega
      have HSk := hid' (HSS.out j)
      have hxs : (SV j).size ≤ 200 := by rw [HSZ.out]; omega
      generalize SV j = xx at HSk hxs ⊢
      go_wp2
      go_roundw
      case rel => exact ⟨j + 1, by omega, by go_num, by rw [HSk.out], trivial⟩
      case measure => simp [intOf]; omega
    · obtain rfl : j = n := by omega
      have hxs : (SV j).size ≤ 200 := by rw [HSZ.out]; omega
      clear hj hlt HSS HS0 HSZ hzn
      have RS : RowV ((wr.alloc (.cells #[.string ⟨#[98, 114, 101, 97, 107, 10]⟩, .string ⟨#[99, 111, 110, 116, 105, 110, 117, 101, 10]⟩, .string ⟨#[114, 101, 116, 117, 114, 110, 32, 49, 10]⟩, .string ⟨#[49, 32, 61, 32, 50, 10]⟩, .string ⟨#[102, 40, 97, 32, 61, 32, 49, 44, 32, 50, 41, 10]⟩, .string ⟨#[100, 101, 102, 32, 102, 40, 97, 44, 32, 97, 41, 58, 32, 112, 97, 115, 115, 10]⟩, .string ⟨#[105, 102, 32, 120, 58, 10, 32, 32, 100, 101, 102, 32, 103, 40, 41, 58, 32, 112, 97, 115, 115, 10]⟩, .string ⟨#[102, 111, 114, 32, 49, 32, 105, 110, 32, 120, 58, 32, 112, 97, 115, 115, 10]⟩] 9)).alloc (.cells #[.int .i64 0, .int .i64 0, .int .i64 0, .int .i64 2, .int .i64 9, .int .i64 9, .int .i64 8, .int .i64 4] 3)) wr.heap.size 9 badC := row_alloc (row_new wr 9 badC) (.cells #[.int .i64 0, .int .i64 0, .int .i64 0, .int .i64 2, .int .i64 9, .int .i64 9, .int .i64 8, .int .i64 4] 3)
      have RO : RowV ((wr.alloc (.cells #[.string ⟨#[98, 114, 101, 97, 107, 10]⟩, .string ⟨#[99, 111, 110, 116, 105, 110, 117, 101, 10]⟩, .string ⟨#[114, 101, 116, 117, 114, 110, 32, 49, 10]⟩, .string ⟨#[49, 32, 61, 32, 50, 10]⟩, .string ⟨#[102, 40, 97, 32, 61, 32, 49, 44, 32, 50, 41, 10]⟩, .string ⟨#[100, 101, 102, 32, 102, 40, 97, 44, 32, 97, 41, 58, 32, 112, 97, 115, 115, 10]⟩, .string ⟨#[105, 102, 32, 120, 58, 10, 32, 32, 100, 101, 102, 32, 103, 40, 41, 58, 32, 112, 97, 115, 115, 10]⟩, .string ⟨#[102, 111, 114, 32, 49, 32, 105, 110, 32, 120, 58, 32, 112, 97, 115, 115, 10]⟩] 9)).alloc (.cells #[.int .i64 0, .int .i64 0, .int .i64 0, .int .i64 2, .int .i64 9, .int .i64 9, .int .i64 8, .int .i64 4] 3)) (wr.heap.size + 1) 3 (nums atsX) := row_new1 wr 3 (nums atsX) (.cells #[.string ⟨#[98, 114, 101, 97, 107, 10]⟩, .string ⟨#[99, 111, 110, 116, 105, 110, 117, 101, 10]⟩, .string ⟨#[114, 101, 116, 117, 114, 110, 32, 49, 10]⟩, .string ⟨#[49, 32, 61, 32, 50, 10]⟩, .string ⟨#[102, 40, 97, 32, 61, 32, 49, 44, 32, 50, 41, 10]⟩, .string ⟨#[100, 101, 102, 32, 102, 40, 97, 44, 32, 97, 41, 58, 32, 112, 97, 115, 115, 10]⟩, .string ⟨#[105, 102, 32, 120, 58, 10, 32, 32, 100, 101, 102, 32, 103, 40, 41, 58, 32, 112, 97, 115, 115, 10]⟩, .string ⟨#[102, 111, 114, 32, 49, 32, 105, 110, 32, 120, 58, 32, 112, 97, 115, 115, 10]⟩] 9)
      have B3 : Below W.heap.size W ((wr.alloc (.cells #[.string ⟨#[98, 114, 101, 97, 107, 10]⟩, .string ⟨#[99, 111, 110, 116, 105, 110, 117, 101, 10]⟩, .string ⟨#[114, 101, 116, 117, 114, 110, 32, 49, 10]⟩, .string ⟨#[49, 32, 61, 32, 50, 10]⟩, .string ⟨#[102, 40, 97, 32, 61, 32, 49, 44, 32, 50, 41, 10]⟩, .string ⟨#[100, 101, 102, 32, 102, 40, 97, 44, 32, 97, 41, 58, 32, 112, 97, 115, 115, 10]⟩, .string ⟨#[105, 102, 32, 120, 58, 10, 32, 32, 100, 101, 102, 32, 103, 40, 41, 58, 32, 112, 97, 115, 115, 10]⟩, .string ⟨#[102, 111, 114, 32, 49, 32, 105, 110, 32, 120, 58, 32, 112, 97, 115, 115, 10]⟩] 9)).alloc (.cells #[.int .i64 0, .int .i64 0, .int .i64 0, .int .i64 2, .int .i64 9, .int .i64 9, .int .i64 8, .int .i64 4] 3)) := (HB1.out.alloc HB1.out.size _).alloc (by have := HB1.out.size; simp; omega) _
      have cb := RS.cell HB.out
      have ca := RO.cell HA.out
      have HRO := hid' RO
      have HB3 := hid' B3
      clear RS RO B3 ca
      generalize SV j = xx at HX hxs ⊢
      go_wp2_with fail
      clear cb e2 m2
      refine Calls.mono (HX _ HB3.out).out ?_
      rintro e w4 ⟨b4, g, rfl, hg, hrow⟩
      have HB4 := hid' (Below.thenB HB3.out b4)
      have ca := (HRO.out.far (b4.block _ HRO.out.lt)).cell HA.out
      have HRW := hid' hrow
      have hl4 := (HRO.out.far (b4.block _ HRO.out.lt)).lt
      clear b4 hg hrow HX HB3 HRO HB HA
      go_wp2_with fail
      refine Calls.mono (Placed_any 102 _ (by decide) _) ?_
      rintro e w5 ⟨rfl, b5⟩
      have hrow5 := (b5.block g (Array.getElem?_eq_some_iff.1 HRW.out).1).trans HRW.out
      have HB5 := hid' (Below.thenB HB4.out b5)
      have HSM := hid' (placed_same A w5 (HCX.out.below HB5.out).sent g _ hrow5)
      clear hrow5 b5 HRW HB4 ca
      go_wp2_with fail
      refine Calls.mono HSM.out ?_
      rintro e w6 ⟨rfl, b6⟩
      have b7 := Below.thenB HB5.out b6
      go_wp2
      go_returns
      exact ⟨rfl, b7⟩
end Go.Proofs.YtaafhldcdkbnkaaGreatDoor
