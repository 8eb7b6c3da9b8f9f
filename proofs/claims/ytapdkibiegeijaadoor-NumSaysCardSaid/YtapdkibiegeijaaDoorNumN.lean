/- A Num in memory; num.made, num.divided, Neg. Conditions: as each states. -/
import Derived.Test.YtapdkibiegeijaaDoorNumLW
import Derived.Deep.RegionHeld3
namespace Go.Proofs.YtapdkibiegeijaaDoor
open Go.RowKit
namespace Nm

def sgnv (neg : Bool) (n : Nat) : Int := if neg then -(n : Int) else n
/-- A Num: its sign and its parts, at most k of them; together z. -/
def NumAt (W : World) (v : Value) (z : Int) (k : Nat) : Prop := ∃ (neg : Bool) (ao : Option Addr) (cap : Nat) (l : List Nat), v = .agg #[.bool neg, .slice ao l.length cap] ∧ l.length ≤ cap ∧ SrcN W ao l ∧ Dig l ∧ Trm l ∧ l.length ≤ k ∧
  (neg = true → 0 < l.length) ∧ z = sgnv neg (val l)
theorem NumAt.below {W W' : World} {v : Value} {z : Int} {k : Nat} (h : NumAt W v z k) (hb : Below W.heap.size W W') : NumAt W' v z k := by
  obtain ⟨neg, ao, cap, l, e, hc, hs, hr⟩ := h
  exact ⟨neg, ao, cap, l, e, hc, hs.below hb, hr⟩
theorem NumAt.mono {W : World} {v : Value} {z : Int} {k k' : Nat} (h : NumAt W v z k) (hk : k ≤ k') : NumAt W v z k' := by
  obtain ⟨neg, ao, cap, l, e, hc, hs, h1, h2, h3, hr⟩ := h
  exact ⟨neg, ao, cap, l, e, hc, hs, h1, h2, Nat.le_trans h3 hk, hr⟩
theorem val_pos {l : List Nat} (h : Trm l) (hl : 0 < l.length) : 0 < val l := Nat.lt_of_lt_of_le (pw_pos _) (trm_ge h hl)
theorem trm_nil : Trm [] := fun h => absurd h (by simp)
theorem dig_nil : Dig [] := fun x hx => by cases hx
theorem numAt_zero (W : World) (k : Nat) : NumAt W (.agg #[.bool false, .slice none 0 0]) 0 k := ⟨false, none, 0, [], rfl, Nat.le_refl _, srcN_nil _ _, dig_nil, trm_nil, Nat.zero_le _, fun h => (by cases h), rfl⟩

/-- A Num comes back. -/
def IsNum (w w' : World) (e : Ending) (z : Int) (k : Nat) : Prop := ∃ v, e = .returned v ∧ NumAt w' v z k ∧ Below w.heap.size w w'
set_option maxHeartbeats 1600000 in
theorem made_any (neg : Bool) (ao : Option Addr) (n cap : Nat) (l : List Nat) (w : World) (hn : l.length = n) (hl : n < 1073741824) (hc : n ≤ cap) (hs : SrcN w ao l) (hd : Dig l) :
    Calls Tryd.prog 34 #[.bool neg, .slice ao n cap] w fun e w' => IsNum w w' e (sgnv neg (val l)) n := by
  have htr := fun W (h : SrcN W ao l) => trimmed_any ao cap l W (by omega) (by omega) h
  rw [hn] at htr
  have hcv := cutN_val l n
  rw [show l.take n = l from List.take_of_length_le (by omega)] at hcv
  have hct := cutN_trm l n (by omega)
  have hcl := cutN_len l n (by omega)
  have hle := cutN_le l n
  obtain ⟨c, hcc⟩ : ∃ c, cutN l n = c := ⟨_, rfl⟩
  rw [hcc] at hcv hct hcl hle htr
  have HV := hidden hcv
  have HT := hidden hct
  have HL := hidden hcl
  have HTR := hidden htr
  have HS := hidden hs
  have HD := hidden hd
  have hba := fun (cs : Array Value) (t : TypeId) => (Below.refl w.heap.size w).alloc (Nat.le_refl _) (.cells cs t)
  have HB := hidden hba
  clear htr hcv hct hcl hcc hs hd hba hn
  by_cases h0 : c = 0
  · subst h0
    go_enter Tryd.func34, Tryd.ntmps34
    go_wp2_with fail
    refine (HTR.out _ (HS.out.below (HB.out _ _))).mono ?_
    rintro e w' ⟨rfl, rfl⟩
    go_wp2
    refine bodyPost_ret (v := .agg #[.bool false, .slice none 0 0]) (by simp [results, Tryd.results34, go_sem]) rfl ⟨_, rfl, ?_, HB.out _ _⟩
    have hz : sgnv neg (val l) = 0 := by
      have e := HV.out
      rw [List.take_zero] at e
      rw [← e]
      cases neg <;> rfl
    rw [hz]
    exact numAt_zero _ _
  · have HC := hidden h0
    have hcb : ((c : Int) == 0) = false := by rw [beq_eq_false_iff_ne]; omega
    clear h0
    go_enter Tryd.func34, Tryd.ntmps34
    go_wp2_with fail
    refine (HTR.out _ (HS.out.below (HB.out _ _))).mono ?_
    rintro e w' ⟨rfl, rfl⟩
    go_wp2
    refine bodyPost_ret (v := .agg #[.bool neg, .slice ao c cap]) (by simp [results, Tryd.results34, go_sem]) rfl ⟨_, rfl, ?_, HB.out _ _⟩
    refine ⟨neg, ao, cap, l.take c, by rw [HL.out], by rw [HL.out]; omega, (HS.out.below (HB.out _ _)).take c, dig_take HD.out c, HT.out, by rw [HL.out]; exact hle, fun _ => by rw [HL.out]; have := HC.out; omega, by rw [HV.out]⟩

/-- A Num's own block. -/
def Blk (W : World) (b : Nat) (c0 c1 : Value) : Prop := W.heap[b]? = some (.cells #[c0, c1] 25 (0, 0))
theorem Blk.facts {W : World} {b : Nat} {c0 c1 : Value} (h : Blk W b c0 c1) : W.cell? ⟨b, 0, none⟩ = some c0 ∧ W.cell? ⟨b, 1, none⟩ = some c1 ∧ W.frozen? ⟨b, 0, none⟩ = false ∧ W.frozen? ⟨b, 1, none⟩ = false :=
  ⟨cell_of_row W b 0 _ _ _ h, cell_of_row W b 1 _ _ _ h, frozen_of_row W b 0 _ _ h, frozen_of_row W b 1 _ _ h⟩
theorem Blk.below {W W' : World} {b B : Nat} {c0 c1 : Value} (h : Blk W b c0 c1) (hb : Below B W W') (hB : b < B) : Blk W' b c0 c1 := (hb.block b hB).trans h
theorem Blk.lt {W : World} {b : Nat} {c0 c1 : Value} (h : Blk W b c0 c1) : b < W.heap.size := (Array.getElem?_eq_some_iff.1 h).1
theorem blk_new (W : World) (c0 c1 : Value) : Blk (W.alloc (.cells #[c0, c1] 25)) W.heap.size c0 c1 := heap_alloc_new _ _
theorem Blk.set {W : World} {b : Nat} {c0 c1 : Value} (h : Blk W b c0 c1) (d0 d1 : Value) : Blk ((W.setCell ⟨b, 0, none⟩ d0).setCell ⟨b, 1, none⟩ d1) b d0 d1 :=
  (heap_setCell_same _ b 1 _ _ _ ((heap_setCell_same W b 0 _ _ _ h).trans rfl)).trans rfl
theorem AtN.far {W : World} {bk off B : Nat} {l : List Nat} {b0 : Bool} {p : Option Addr} {q r : Nat} (h : AtN W bk off l) (hl : 0 < l.length) (hB : Blk W B (.bool b0) (.slice p q r)) : bk ≠ B := fun e => by
  have hc := h.get 0 hl
  rw [e, cell_of_row W B (off + 0) _ _ _ hB] at hc
  match off, hc with
  | 0, hc => simp at hc
  | 1, hc => simp at hc
  | off + 2, hc => simp at hc
theorem SrcN.turn {W W' : World} {ao : Option Addr} {l : List Nat} {B : Nat} {b0 : Bool} {p : Option Addr} {q r : Nat} (h : SrcN W ao l) (hB : Blk W B (.bool b0) (.slice p q r)) (ht : Turn B W W') : SrcN W' ao l := fun hl => by
  obtain ⟨bk, off, e, h1, h2⟩ := h hl
  exact ⟨bk, off, e, Nat.lt_of_lt_of_le h1 ht.size, h2.turn ht h1 (h2.far hl hB)⟩
theorem NumAt.turn {W W' : World} {v : Value} {z : Int} {k B : Nat} {b0 : Bool} {p : Option Addr} {q r : Nat} (h : NumAt W v z k) (hB : Blk W B (.bool b0) (.slice p q r)) (ht : Turn B W W') : NumAt W' v z k := by
  obtain ⟨neg, ao, cap, l, e, hc, hs, hr⟩ := h
  exact ⟨neg, ao, cap, l, e, hc, hs.turn hB ht, hr⟩
/-- A Num is stored into a block of the call's own and comes back. -/
theorem numAt_stored {w W : World} {B : Nat} {d0 d1 : Value} {z : Int} {k : Nat} {b0 : Bool} {p : Option Addr} {q r : Nat} (hb : Below w.heap.size w W) (hR : w.heap.size ≤ B) (hB : Blk W B (.bool b0) (.slice p q r)) (h : NumAt W (.agg #[d0, d1]) z k) :
    NumAt ((W.setCell ⟨B, 0, none⟩ d0).setCell ⟨B, 1, none⟩ d1) (.agg #[d0, d1]) z k ∧ Below w.heap.size w ((W.setCell ⟨B, 0, none⟩ d0).setCell ⟨B, 1, none⟩ d1) :=
  ⟨h.turn hB (((Turn.refl B W).setCell 0 d0).setCell 1 d1), (hb.setCell hR _).setCell hR _⟩
theorem sgnv_not {neg : Bool} {n : Nat} : sgnv (!neg) n = -sgnv neg n := by
  cases neg <;> simp [sgnv]
set_option maxHeartbeats 1600000 in
theorem neg_any (v : Value) (x : Int) (k : Nat) (w : World) (h : NumAt w v x k) (hk : k < 1073741824) :
    Calls Tryd.prog 25 #[v] w fun e w' => IsNum w w' e (-x) k := by
  obtain ⟨neg, ao, cap, l, rfl, hc, hs, hd, ht, hl, hp, rfl⟩ := h
  obtain ⟨n, hn⟩ : ∃ n, l.length = n := ⟨_, rfl⟩
  have hm := fun W (h : SrcN W ao l) => made_any (!neg) ao n cap l W hn (by omega) (by omega) h hd
  rw [hn] at hc hl ⊢
  have HM := hidden hm
  have HS := hidden hs
  have hba := fun (cs ds : Array Value) (t : TypeId) => ((Below.refl w.heap.size w).alloc (Nat.le_refl _) (.cells cs t)).alloc (by simp) (.cells ds t)
  have HB := hidden hba
  clear hn hm hs hd ht hp hba
  go_enter Tryd.func25, Tryd.ntmps25
  go_wp2_with fail
  refine (HM.out _ (HS.out.below (HB.out _ _ _))).mono ?_
  rintro e w1 ⟨v, rfl, ⟨n1, a1, c1, l1, rfl, q1, q2, q3, q4, q5, q6, q7⟩, h2⟩
  have hres := (blk_new (w.alloc (.cells #[.bool neg, .slice ao n cap] 25)) (.bool false) (.slice none 0 0)).below h2 (by simp)
  rw [World.size_alloc] at hres
  obtain ⟨f0, f1, f2, f3⟩ := hres.facts
  have hst := (Blk.set hres (.bool n1) (.slice a1 l1.length c1)).facts
  obtain ⟨g1, g2⟩ := numAt_stored (z := -sgnv neg (val l)) (k := k) ((HB.out _ _ _).trans (h2.mono (by simp; omega))) (by omega) hres ⟨n1, a1, c1, l1, rfl, q1, q2, q3, q4, by omega, q6, by rw [← q7, sgnv_not]⟩
  have HG1 := hidden g1
  have HG2 := hidden g2
  have HST := hidden hst
  clear hst g1 g2 hres h2 q7
  go_wp2
  refine bodyPost_ret (v := .agg #[.bool n1, .slice a1 l1.length c1]) (by simp [results, Tryd.results25, go_sem, HST.out.1, HST.out.2.1]) rfl ⟨_, rfl, HG1.out, HG2.out⟩
end Nm
end Go.Proofs.YtapdkibiegeijaaDoor
