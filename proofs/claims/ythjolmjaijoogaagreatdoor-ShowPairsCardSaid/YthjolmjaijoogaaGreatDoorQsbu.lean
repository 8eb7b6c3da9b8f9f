/- Parts of the proof, together. What show's expression writes of a tree of names and binary signs. Conditions: the nodes lie below block B; the writer is not full, and does not become so. -/
import Derived.Test.YthjolmjaijoogaaGreatDoorQsbt
import Derived.Test.YthjolmjaijoogaaGreatDoorQsaz
namespace Go.Proofs.YthjolmjaijoogaaGreatDoor
open Go.RowKit
open Lx Ax Sw

namespace Sw
/-- The place of a node's kid. -/
def kidAt (x : Nd) (p : Nat) : Nat := (x.kids.getD p 0).toNat
def opAt (l : List Nd) (i : Nat) : Int := match l[i]? with
  | none => 0
  | some x => x.op
def wrapF (b : Bool) (t : List UInt8) : List UInt8 := if b then [40] ++ t ++ [41] else t
/-- The text of node i, without brackets around it. -/
def txF (l : List Nd) : Nat → Nat → List UInt8
  | 0, _ => []
  | n + 1, i => match l[i]? with
    | none => []
    | some x => if x.op = 6 then x.s.data.toList else
      wrapF (needsF x.op 0 (opAt l (kidAt x 0))) (txF l n (kidAt x 0)) ++ signF x.op ++ wrapF (needsF x.op 1 (opAt l (kidAt x 1))) (txF l n (kidAt x 1))
/-- How many expressions that are. -/
def cntF (l : List Nd) : Nat → Nat → Nat
  | 0, _ => 0
  | n + 1, i => match l[i]? with
    | none => 0
    | some x => if x.op = 6 then 1 else 1 + cntF l n (kidAt x 0) + cntF l n (kidAt x 1)
/-- A tree of names and binary signs, so deep at most. -/
def goodF (l : List Nd) : Nat → Nat → Bool
  | 0, _ => false
  | n + 1, i => match l[i]? with
    | none => false
    | some x => (x.op == 6) || (decide (Bin x.op) && decide (x.kids.length = 2) && decide (x.kids.getD 0 0 = (kidAt x 0 : Int)) && decide (x.kids.getD 1 0 = (kidAt x 1 : Int)) && goodF l n (kidAt x 0) && goodF l n (kidAt x 1))
end Sw
theorem txt_toList (s : ByteArray) : txt s.data.toList = s := by cases s; rfl
theorem good_op {l : List Nd} : ∀ {n i : Nat}, goodF l n i = true → ∃ x, l[i]? = some x ∧ opAt l i = x.op ∧ (x.op = 6 ∨ Bin x.op)
  | 0, i, h => by simp [goodF] at h
  | n + 1, i, h => by
    unfold goodF at h
    unfold opAt
    cases hx : l[i]? with
    | none => rw [hx] at h; simp at h
    | some x =>
      rw [hx] at h
      simp only [Bool.or_eq_true, Bool.and_eq_true, decide_eq_true_eq, beq_iff_eq] at h
      exact ⟨x, rfl, rfl, h.imp id fun h => h.1.1.1.1.1⟩
section
variable {B wb cap : Nat} {ao : Option Addr} {l : List Nd}
theorem WV.drewN {nv : Value} {W : World} {bs : List UInt8} {ind beg : Int} (h : WV B wb nv W bs ind beg) (q : Nat) : WV B wb nv (W.drewN q) bs ind beg := ⟨h.ex, h.low⟩
theorem NodesAt.drewN {n : Nat} {W : World} (h : NodesAt n W ao l) (q : Nat) : NodesAt n (W.drewN q) ao l := h.keep (Below.drewN' (Below.refl n W) q) (Nat.le_refl _)
theorem WV.setBeg {nv : Value} {W : World} {bs : List UInt8} {ind beg : Int} (h : WV B wb nv W bs ind beg) (q : Int) : WV B wb nv (W.setCell ⟨wb, 4, none⟩ (.int .i64 q)) bs ind q := by
  obtain ⟨p, v, hr, hp, ho⟩ := h.ex
  exact ⟨⟨p, v, hr.set 4 _, hp, ho.set hr 4 _⟩, h.low⟩
/-- What an expression's call does. -/
def ExpP (B wb cap : Nat) (ao : Option Addr) (l : List Nd) (n i : Nat) : Prop := ∀ W bs (beg : Nat), WV B wb (.slice ao l.length cap) W bs 0 beg → NodesAt B W ao l → B ≤ W.heap.size → bs.length + (txF l n i).length ≤ 50000 → beg + cntF l n i ≤ 50000 →
  Calls Tryz.prog 26 #[.pointer (some ⟨wb, 0, none⟩), .int .i64 (i : Int)] W fun e w' => e = .returned (.tuple #[]) ∧ WV B wb (.slice ao l.length cap) w' (bs ++ txF l n i) 0 ((beg + cntF l n i : Nat) : Int) ∧ Below B W w'
set_option maxRecDepth 10000 in
set_option maxHeartbeats 1600000 in
theorem kid_any (n i b0 p z : Nat) (x : Nd) (hao : ao = some ⟨b0, 0, none⟩) (hx : l[i]? = some x) (hb : Bin x.op) (hp : p < 2) (hz : x.kids[p]? = some (z : Int)) (hg : goodF l n z = true) (H : ExpP B wb cap ao l n z)
    (W : World) (bs : List UInt8) (beg : Nat) (hw : WV B wb (.slice ao l.length cap) W bs 0 beg) (hN : NodesAt B W ao l) (hB : B ≤ W.heap.size) (hl : bs.length + (wrapF (needsF x.op p (opAt l z)) (txF l n z)).length ≤ 50000) (hc : beg + cntF l n z ≤ 50000) :
    Calls Tryz.prog 46 #[.pointer (some ⟨wb, 0, none⟩), .pointer (some ⟨b0, i * 5, none⟩), .int .i64 (p : Int)] W fun e w' => e = .returned (.tuple #[]) ∧ WV B wb (.slice ao l.length cap) w' (bs ++ wrapF (needsF x.op p (opAt l z)) (txF l n z)) 0 ((beg + cntF l n z : Nat) : Int) ∧ Below B W w' := by
  have hil := (List.getElem?_eq_some_iff.1 hx).1
  obtain ⟨y, hy, hop, hyo⟩ := good_op hg
  have hzl := (List.getElem?_eq_some_iff.1 hy).1
  have HND := hid' (needs_any x.op hb p hp y.op hyo)
  rw [hop] at hl ⊢
  obtain ⟨b1, v1, e1, hb1, N1⟩ := hN.node i hil
  obtain ⟨b2, v2, e2, hb2, N2⟩ := hN.node z hzl
  rw [hao] at e1 e2
  injection e1 with e1
  injection e1 with e1 _ _
  injection e2 with e2
  injection e2 with e2 _ _
  subst e1 e2
  rw [show l[i] = x from (List.getElem?_eq_some_iff.1 hx).2] at N1
  rw [show l[z] = y from (List.getElem?_eq_some_iff.1 hy).2] at N2
  have hpl := (List.getElem?_eq_some_iff.1 hz).1
  obtain ⟨bk, ok, ck, hv1, _, hck⟩ := kid_at N1.list hpl
  rw [show x.kids[p] = (z : Int) from (List.getElem?_eq_some_iff.1 hz).2] at hck
  subst hv1
  have d0 := N1.op
  have d4 := N1.kids
  have y0 := N2.op
  obtain ⟨pp, vv, hr, _, _⟩ := hw.ex
  have c0 := hr.cell (j := 0) rfl
  have HWV := hid' hw
  have HNO := hid' hN
  have hpi : (p : Int) < (x.kids.length : Int) := by omega
  have hzi : (z : Int) < (l.length : Int) := by omega
  have HLB := hid' hB
  have HH := hid' H
  subst hao
  clear hw hN hr N1 N2 H hg
  generalize hnd : needsF x.op p y.op = nd at HND hl ⊢
  cases nd with
  | false =>
    unfold wrapF at hl ⊢
    rw [if_neg (by simp)] at hl ⊢
    have HE := hid' (fun W' hw' hN' hB' => HH.out W' bs beg hw' hN' hB' hl hc)
    go_enter Tryz.func46, Tryz.ntmps46
    go_wp2_with fail
    go_quiet (with_reducible exact Calls.quiet_of_same (HND.out _))
    clear c0 d0 d4 y0 hck HND HH
    go_wp2_with fail
    refine Calls.mono (HE.out _ (HWV.out.drewN nq) (HNO.out.drewN nq) HLB.out) ?_
    rintro e w2 ⟨rfl, h2, b2⟩
    have H2 := hid' h2
    have B2 : Hid (Below B W w2) := hid' ((Below.drewN' (Below.refl B W) nq).trans b2)
    clear h2 b2 HE
    go_wp2
    go_returns
    exact ⟨rfl, H2.out, B2.out⟩
  | true =>
    unfold wrapF at hl ⊢
    rw [if_pos rfl] at hl ⊢
    have hl2 : bs.length + 1 + (txF l n z).length + 1 ≤ 50000 := by
      rw [List.length_append, List.length_append] at hl
      simp only [List.length_singleton] at hl
      omega
    have HE := hid' (fun W' hw' hN' hB' => HH.out W' (bs ++ [40]) beg hw' hN' hB' (by rw [List.length_append, List.length_singleton]; omega) hc)
    go_enter Tryz.func46, Tryz.ntmps46
    go_wp2_with fail
    go_quiet (with_reducible exact Calls.quiet_of_same (HND.out _))
    clear c0 d0 d4 y0 hck HND HH
    go_wp2_with fail
    refine Calls.mono (say_any (HWV.out.drewN nq) [40] (by simp; omega) HLB.out) ?_
    rintro e w2 ⟨rfl, h2, b2⟩
    have H2 := hid' h2
    have B2 : Hid (Below B W w2) := hid' ((Below.drewN' (Below.refl B W) nq).trans b2)
    clear h2 b2
    go_wp2_with fail
    refine Calls.mono (HE.out _ H2.out (HNO.out.keep B2.out (Nat.le_refl _)) (Nat.le_trans HLB.out B2.out.size)) ?_
    rintro e w3 ⟨rfl, h3, b3⟩
    have H3 := hid' h3
    have B3 := hid' (B2.out.trans b3)
    clear h3 b3 HE H2
    go_wp2_with fail
    refine Calls.mono (say_any H3.out [41] (by rw [List.length_append, List.length_append]; simp; omega) (Nat.le_trans HLB.out B3.out.size)) ?_
    rintro e w4 ⟨rfl, h4, b4⟩
    have H4 := hid' h4
    have B4 := hid' (B3.out.trans b4)
    clear h4 b4 H3
    go_wp2
    go_returns
    exact ⟨rfl, by have := H4.out; simpa [List.append_assoc] using this, B4.out⟩
set_option maxRecDepth 10000 in
theorem prim_any (i b0 : Nat) (x : Nd) (hao : ao = some ⟨b0, 0, none⟩) (hx : l[i]? = some x) (h6 : x.op = 6) (W : World) (bs : List UInt8) (beg : Int) (hw : WV B wb (.slice ao l.length cap) W bs 0 beg) (hN : NodesAt B W ao l) (hB : B ≤ W.heap.size) (hl : bs.length + x.s.data.toList.length ≤ 50000) :
    Calls Tryz.prog 45 #[.pointer (some ⟨wb, 0, none⟩), .pointer (some ⟨b0, i * 5, none⟩)] W fun e w' => e = .returned (.tuple #[]) ∧ WV B wb (.slice ao l.length cap) w' (bs ++ x.s.data.toList) 0 beg ∧ Below B W w' := by
  have hil := (List.getElem?_eq_some_iff.1 hx).1
  obtain ⟨b1, v1, e1, hb1, N1⟩ := hN.node i hil
  rw [hao] at e1
  injection e1 with e1
  injection e1 with e1 _ _
  subst e1
  rw [show l[i] = x from (List.getElem?_eq_some_iff.1 hx).2] at N1
  have d0 := N1.op
  have d3 := N1.text
  rw [h6] at d0
  have HS := hid' (say_any hw x.s.data.toList (by omega) hB)
  rw [txt_toList] at HS
  clear hw hN N1
  go_enter Tryz.func45, Tryz.ntmps45
  go_wp2_with fail
  refine Calls.mono HS.out ?_
  rintro e w2 ⟨rfl, h2, b2⟩
  have H2 := hid' h2
  have B2 := hid' b2
  clear h2 b2 HS
  go_wp2
  go_returns
  exact ⟨rfl, H2.out, B2.out⟩
set_option maxRecDepth 10000 in
set_option maxHeartbeats 1600000 in
theorem between_any (n i b0 z0 z1 : Nat) (x : Nd) (hao : ao = some ⟨b0, 0, none⟩) (hx : l[i]? = some x) (hb : Bin x.op) (hz0 : x.kids[0]? = some (z0 : Int)) (hz1 : x.kids[1]? = some (z1 : Int)) (hg0 : goodF l n z0 = true) (hg1 : goodF l n z1 = true) (H0 : ExpP B wb cap ao l n z0) (H1 : ExpP B wb cap ao l n z1)
    (W : World) (bs : List UInt8) (beg : Nat) (hw : WV B wb (.slice ao l.length cap) W bs 0 beg) (hN : NodesAt B W ao l) (hB : B ≤ W.heap.size) (sg : List UInt8) (hl : bs.length + (wrapF (needsF x.op 0 (opAt l z0)) (txF l n z0) ++ sg ++ wrapF (needsF x.op 1 (opAt l z1)) (txF l n z1)).length ≤ 50000) (hc : beg + cntF l n z0 + cntF l n z1 ≤ 50000) :
    Calls Tryz.prog 48 #[.pointer (some ⟨wb, 0, none⟩), .pointer (some ⟨b0, i * 5, none⟩), .string (txt sg)] W fun e w' => e = .returned (.tuple #[]) ∧ WV B wb (.slice ao l.length cap) w' (bs ++ (wrapF (needsF x.op 0 (opAt l z0)) (txF l n z0) ++ sg ++ wrapF (needsF x.op 1 (opAt l z1)) (txF l n z1))) 0 ((beg + cntF l n z0 + cntF l n z1 : Nat) : Int) ∧ Below B W w' := by
  rw [List.length_append, List.length_append] at hl
  have HK0 := hid' (kid_any n i b0 0 z0 x hao hx hb (by omega) hz0 hg0 H0 W bs beg hw hN hB (by omega) (by omega))
  have HK1 := hid' (fun W' bs' beg' hw' hN' hB' hl' hc' => kid_any n i b0 1 z1 x hao hx hb (by omega) hz1 hg1 H1 W' bs' beg' hw' hN' hB' hl' hc')
  have HNO := hid' hN
  have HLB := hid' hB
  generalize wrapF (needsF x.op 0 (opAt l z0)) (txF l n z0) = t0 at hl HK0 ⊢
  generalize wrapF (needsF x.op 1 (opAt l z1)) (txF l n z1) = t1 at hl HK1 ⊢
  clear hw hN H0 H1
  go_enter Tryz.func48, Tryz.ntmps48
  go_wp2_with fail
  refine Calls.mono HK0.out ?_
  rintro e w2 ⟨rfl, h2, b2⟩
  have H2 := hid' h2
  have B2 := hid' b2
  clear h2 b2 HK0
  go_wp2_with fail
  refine Calls.mono (say_any H2.out sg (by rw [List.length_append]; omega) (Nat.le_trans HLB.out B2.out.size)) ?_
  rintro e w3 ⟨rfl, h3, b3⟩
  have H3 := hid' h3
  have B3 := hid' (B2.out.trans b3)
  clear h3 b3 H2
  go_wp2_with fail
  refine Calls.mono (HK1.out _ _ _ H3.out (HNO.out.keep B3.out (Nat.le_refl _)) (Nat.le_trans HLB.out B3.out.size) (by rw [List.length_append, List.length_append]; omega) hc) ?_
  rintro e w4 ⟨rfl, h4, b4⟩
  have H4 := hid' h4
  have B4 := hid' (B3.out.trans b4)
  clear h4 b4 H3
  go_wp2
  go_returns
  exact ⟨rfl, by have := H4.out; simpa [List.append_assoc] using this, B4.out⟩
set_option maxRecDepth 10000 in
set_option maxHeartbeats 3200000 in
theorem exp_any (b0 : Nat) (hao : ao = some ⟨b0, 0, none⟩) (hll : l.length ≤ 100000) : ∀ n i, goodF l n i = true → ExpP B wb cap ao l n i
  | 0, _, h => by simp [goodF] at h
  | n + 1, i, h => by
    intro W bs beg hw hN hB hl hc
    unfold goodF at h
    unfold txF at hl ⊢
    unfold cntF at hc ⊢
    cases hx : l[i]? with
    | none => rw [hx] at h; simp at h
    | some x =>
      rw [hx] at h hl hc
      try dsimp only at h hl hc ⊢
      have hil := (List.getElem?_eq_some_iff.1 hx).1
      obtain ⟨b1, v1, e1, hb1, N1⟩ := hN.node i hil
      rw [hao] at e1
      injection e1 with e1
      injection e1 with e1 _ _
      subst e1
      rw [show l[i] = x from (List.getElem?_eq_some_iff.1 hx).2] at N1
      obtain ⟨pp, vv, hr, _, _⟩ := hw.ex
      have c0 := hr.cell (j := 0) rfl
      have c4 := hr.cell (j := 4) rfl
      have c5 := hr.cell (j := 5) rfl
      have o4 := hr.open_ 4
      have hlt := hr.lt
      have d0 := N1.op
      have hne : ¬ b0 = wb := by have := hw.low; omega
      have hw2 := hw.setBeg ((beg : Int) + 1)
      have hb2 : Below B W (W.setCell ⟨wb, 4, none⟩ (.int .i64 ((beg : Int) + 1))) := (Below.refl B W).setCell (p := ⟨wb, 4, none⟩) hw.low _
      have hN2 := hN.keep hb2 (Nat.le_refl _)
      have d0' : (W.setCell ⟨wb, 4, none⟩ (.int .i64 ((beg : Int) + 1))).cell? ⟨b0, i * 5, none⟩ = some (.int .i64 x.op) := (hb2.cell (p := ⟨b0, i * 5, none⟩) hb1).trans d0
      have hq : ((beg : Int) == 65536) = false := by
        have : beg ≤ 50000 := by split at hc <;> omega
        simp; omega
      have hwr : IntKind.i64.wrap ((beg : Int) + 1) = (beg : Int) + 1 := by
        have : beg ≤ 50000 := by split at hc <;> omega
        rw [IntWalk.i64_in _ ⟨by omega, by omega⟩]
      have hii : (i : Int) < (l.length : Int) := by omega
      by_cases h6 : x.op = 6
      · rw [if_pos h6] at hl hc ⊢
        have HP := hid' (prim_any (wb := wb) (cap := cap) i b0 x hao hx h6 _ bs _ hw2 hN2 (by simpa using hB) hl)
        have HRK := hid' (rank_any 6 (.inl rfl))
        have HB2 := hid' hb2
        rw [h6] at d0 d0'
        subst hao
        clear hw hN hN2 hw2 hr N1 h hb2
        go_enter Tryz.func26, Tryz.ntmps26
        go_wp2_with fail
        refine Calls.mono (HRK.out _) ?_
        rintro e w1 ⟨rfl, rfl⟩
        rw [show rankF 6 = 9 from rfl]
        go_wp2_with fail
        refine Calls.mono HP.out ?_
        rintro e w2 ⟨rfl, h2, b2⟩
        have H2 := hid' h2
        have B2 := hid' (HB2.out.trans b2)
        clear h2 b2 HP
        go_wp2
        go_returns
        exact ⟨rfl, by have := H2.out; simpa using this, B2.out⟩
      · rw [if_neg h6] at hl hc ⊢
        simp only [Bool.or_eq_true, Bool.and_eq_true, decide_eq_true_eq, beq_iff_eq, h6, false_or] at h
        obtain ⟨⟨⟨⟨⟨hbin, hk2⟩, hk0⟩, hk1⟩, hg0⟩, hg1⟩ := h
        have hz0 : x.kids[0]? = some ((kidAt x 0 : Nat) : Int) := by
          rw [← hk0, List.getD_eq_getElem?_getD, List.getElem?_eq_getElem (by omega)]; rfl
        have hz1 : x.kids[1]? = some ((kidAt x 1 : Nat) : Int) := by
          rw [← hk1, List.getD_eq_getElem?_getD, List.getElem?_eq_getElem (by omega)]; rfl
        have hw3 : WV B wb (.slice ao l.length cap) (W.setCell ⟨wb, 4, none⟩ (.int .i64 ((beg : Int) + 1))) bs 0 ((beg + 1 : Nat) : Int) := by simpa using hw2
        have HBT := hid' (between_any (wb := wb) (cap := cap) n i b0 (kidAt x 0) (kidAt x 1) x hao hx hbin hz0 hz1 hg0 hg1 (exp_any b0 hao hll n _ hg0) (exp_any b0 hao hll n _ hg1) _ bs (beg + 1) hw3 hN2 (by simpa using hB) (signF x.op) hl (by omega))
        have HRK := hid' (rank_any x.op (.inr hbin))
        have HSG := hid' (ssign_any x.op hbin)
        have HB2 := hid' hb2
        have hrk : rankF x.op ≠ 9 ∧ rankF x.op ≠ 1 ∧ rankF x.op ≠ 4 ∧ rankF x.op ≠ 8 := by
          rcases hbin.each with e | e | e | e | e | e | e | e | e | e | e | e | e | e | e <;> rw [e] <;> decide
        obtain ⟨rk, hrke⟩ : ∃ r, rankF x.op = r := ⟨_, rfl⟩
        rw [hrke] at hrk HRK
        have q9 : (rk == 9) = false := by simpa using hrk.1
        have q1 : (rk == 1) = false := by simpa using hrk.2.1
        have q4 : (rk == 4) = false := by simpa using hrk.2.2.1
        have q8 : (rk == 8) = false := by simpa using hrk.2.2.2
        generalize signF x.op = sg at HBT HSG
        generalize wrapF (needsF x.op 0 (opAt l (kidAt x 0))) (txF l n (kidAt x 0)) = t0 at HBT hl ⊢
        generalize wrapF (needsF x.op 1 (opAt l (kidAt x 1))) (txF l n (kidAt x 1)) = t1 at HBT hl ⊢
        subst hao
        clear hw hN hN2 hw2 hw3 hr N1 hb2 hrk hz0 hz1 hk0 hk1 hg0 hg1 hl
        go_enter Tryz.func26, Tryz.ntmps26
        go_wp2_with fail
        refine Calls.mono (HRK.out _) ?_
        rintro e w1 ⟨rfl, rfl⟩
        go_wp2_with fail
        refine Calls.mono (HSG.out _) ?_
        rintro e w2 ⟨rfl, rfl⟩
        go_wp2_with fail
        refine Calls.mono HBT.out ?_
        rintro e w3 ⟨rfl, h3, b3⟩
        have H3 := hid' h3
        have B3 := hid' (HB2.out.trans b3)
        clear h3 b3 HBT
        go_wp2
        go_returns
        exact ⟨rfl, by have := H3.out; simpa [Int.add_assoc] using this, B3.out⟩
end
end Go.Proofs.YthjolmjaijoogaaGreatDoor
