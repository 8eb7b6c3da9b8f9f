/- The document's number in memory; its parts without those on top that are 0: smithyref9.trim. Conditions: as each states. -/
import Derived.Test.YtapdkibiegeijaaDoorRvO
import Derived.Test.YtapdkibiegeijaaDoorRvT
import Derived.Deep.RegionHeld3
namespace Go.Proofs.YtapdkibiegeijaaDoor
open Go.RowKit
namespace Rv

def sgnv (neg : Bool) (n : Nat) : Int := if neg then -(n : Int) else n
/-- A Num: its sign and its parts, at most k of them; together z. -/
def NumAt (W : World) (v : Value) (z : Int) (k : Nat) : Prop := ∃ (neg : Bool) (ao : Option Addr) (cap : Nat) (l : List Nat), v = .agg #[.bool neg, .slice ao l.length cap] ∧ l.length ≤ cap ∧ SrcN W ao l ∧ Dig l ∧ Trm l ∧ l.length ≤ k ∧
  (neg = true → 0 < l.length) ∧ z = sgnv neg (val l)
theorem NumAt.below {W W' : World} {v : Value} {z : Int} {k : Nat} (h : NumAt W v z k) (hb : Below W.heap.size W W') : NumAt W' v z k := by
  obtain ⟨neg, ao, cap, l, e, hc, hs, hr⟩ := h
  exact ⟨neg, ao, cap, l, e, hc, hs.below hb, hr⟩
theorem NumAt.mono {W : World} {v : Value} {z : Int} {k k' : Nat} (h : NumAt W v z k) (hk : k ≤ k') : NumAt W v z k' := by
  obtain ⟨neg, ao, cap, l, e, hc, hs, h1, h2, h3, hr⟩ := h
  exact ⟨neg, ao, cap, l, e, hc, hs, h1, h2, Nat.le_trans h3 hk, hr⟩
theorem val_pos {l : List Nat} (h : Trm l) (hl : 0 < l.length) : 0 < val l := Nat.lt_of_lt_of_le (pw_pos _) (trm_ge h hl)
theorem trm_nil : Trm [] := fun h => absurd h (by simp)
theorem dig_nil : Dig [] := fun x hx => by cases hx
theorem numAt_zero (W : World) (k : Nat) : NumAt W (.agg #[.bool false, .slice none 0 0]) 0 k := ⟨false, none, 0, [], rfl, Nat.le_refl _, srcN_nil _ _, dig_nil, trm_nil, Nat.zero_le _, fun h => (by cases h), rfl⟩

/-- A Num comes back. -/
def IsNum (w w' : World) (e : Ending) (z : Int) (k : Nat) : Prop := ∃ v, e = .returned v ∧ NumAt w' v z k ∧ Below w.heap.size w w'
/-- A Num's own block. -/
def Blk (W : World) (b : Nat) (c0 c1 : Value) : Prop := W.heap[b]? = some (.cells #[c0, c1] 28 (0, 0))
theorem Blk.facts {W : World} {b : Nat} {c0 c1 : Value} (h : Blk W b c0 c1) : W.cell? ⟨b, 0, none⟩ = some c0 ∧ W.cell? ⟨b, 1, none⟩ = some c1 ∧ W.frozen? ⟨b, 0, none⟩ = false ∧ W.frozen? ⟨b, 1, none⟩ = false :=
  ⟨cell_of_row W b 0 _ _ _ h, cell_of_row W b 1 _ _ _ h, frozen_of_row W b 0 _ _ h, frozen_of_row W b 1 _ _ h⟩
theorem Blk.below {W W' : World} {b B : Nat} {c0 c1 : Value} (h : Blk W b c0 c1) (hb : Below B W W') (hB : b < B) : Blk W' b c0 c1 := (hb.block b hB).trans h
theorem Blk.lt {W : World} {b : Nat} {c0 c1 : Value} (h : Blk W b c0 c1) : b < W.heap.size := (Array.getElem?_eq_some_iff.1 h).1
theorem blk_new (W : World) (c0 c1 : Value) : Blk (W.alloc (.cells #[c0, c1] 28)) W.heap.size c0 c1 := heap_alloc_new _ _
theorem Blk.set {W : World} {b : Nat} {c0 c1 : Value} (h : Blk W b c0 c1) (d0 d1 : Value) : Blk ((W.setCell ⟨b, 0, none⟩ d0).setCell ⟨b, 1, none⟩ d1) b d0 d1 :=
  (heap_setCell_same _ b 1 _ _ _ ((heap_setCell_same W b 0 _ _ _ h).trans rfl)).trans rfl
theorem AtN.far {W : World} {bk off B : Nat} {l : List Nat} {b0 : Bool} {p : Option Addr} {q r : Nat} (h : AtN W bk off l) (hl : 0 < l.length) (hB : Blk W B (.bool b0) (.slice p q r)) : bk ≠ B := fun e => by
  have hc := h.get 0 hl
  rw [e, cell_of_row W B (off + 0) _ _ _ hB] at hc
  match off, hc with
  | 0, hc => simp at hc
  | 1, hc => simp at hc
  | off + 2, hc => simp at hc
theorem SrcN.turn {W W' : World} {ao : Option Addr} {l : List Nat} {B : Nat} {b0 : Bool} {p : Option Addr} {q r : Nat} (h : SrcN W ao l) (hB : Blk W B (.bool b0) (.slice p q r)) (ht : Turn B W W') : SrcN W' ao l := fun hl => by
  obtain ⟨bk, off, e, h1, h2⟩ := h hl
  exact ⟨bk, off, e, Nat.lt_of_lt_of_le h1 ht.size, h2.turn ht h1 (h2.far hl hB)⟩
theorem NumAt.turn {W W' : World} {v : Value} {z : Int} {k B : Nat} {b0 : Bool} {p : Option Addr} {q r : Nat} (h : NumAt W v z k) (hB : Blk W B (.bool b0) (.slice p q r)) (ht : Turn B W W') : NumAt W' v z k := by
  obtain ⟨neg, ao, cap, l, e, hc, hs, hr⟩ := h
  exact ⟨neg, ao, cap, l, e, hc, hs.turn hB ht, hr⟩
/-- A Num is stored into a block of the call's own and comes back. -/
theorem numAt_stored {w W : World} {B : Nat} {d0 d1 : Value} {z : Int} {k : Nat} {b0 : Bool} {p : Option Addr} {q r : Nat} (hb : Below w.heap.size w W) (hR : w.heap.size ≤ B) (hB : Blk W B (.bool b0) (.slice p q r)) (h : NumAt W (.agg #[d0, d1]) z k) :
    NumAt ((W.setCell ⟨B, 0, none⟩ d0).setCell ⟨B, 1, none⟩ d1) (.agg #[d0, d1]) z k ∧ Below w.heap.size w ((W.setCell ⟨B, 0, none⟩ d0).setCell ⟨B, 1, none⟩ d1) :=
  ⟨h.turn hB (((Turn.refl B W).setCell 0 d0).setCell 1 d1), (hb.setCell hR _).setCell hR _⟩
theorem sgnv_not {neg : Bool} {n : Nat} : sgnv (!neg) n = -sgnv neg n := by
  cases neg <;> simp [sgnv]
def lenOf : Value → Nat
  | .slice _ n _ => n
  | _ => 0
/-- How many parts stay when those at the end that are 0 are cut. -/
def cutN (l : List Nat) : Nat → Nat
  | 0 => 0
  | n + 1 => if l.getD n 0 = 0 then cutN l n else n + 1
theorem cutN_le (l : List Nat) (n : Nat) : cutN l n ≤ n := by
  induction n with
  | zero => exact Nat.le_refl _
  | succ n ih => rw [cutN]; split <;> omega
theorem cutN_val (l : List Nat) (n : Nat) : val (l.take (cutN l n)) = val (l.take n) := by
  induction n with
  | zero => rfl
  | succ n ih =>
    rw [cutN]
    split
    · rename_i h; rw [ih, val_cut l n h]
    · rfl
theorem cutN_trm (l : List Nat) (n : Nat) (hn : n ≤ l.length) : Trm (l.take (cutN l n)) := by
  induction n with
  | zero => intro h; simp [cutN] at h
  | succ n ih =>
    rw [cutN]
    split
    · exact ih (by omega)
    · rename_i h
      intro _
      rw [List.length_take, Nat.min_eq_left hn, Nat.add_sub_cancel, List.getD_eq_getElem?_getD, List.getElem?_take_of_lt (by omega), ← List.getD_eq_getElem?_getD]
      exact h
theorem cutN_len (l : List Nat) (n : Nat) (hn : n ≤ l.length) : (l.take (cutN l n)).length = cutN l n := by
  have := cutN_le l n
  rw [List.length_take, Nat.min_eq_left (by omega)]

/-- The sign of a comparison. -/
def sg (a b : Nat) : Int := if a < b then -1 else if b < a then 1 else 0
theorem sg_lt {a b : Nat} (h : a < b) : sg a b = -1 := by unfold sg; rw [if_pos h]
theorem sg_gt {a b : Nat} (h : b < a) : sg a b = 1 := by unfold sg; rw [if_neg (by omega), if_pos h]
theorem sg_eq {a b : Nat} (h : a = b) : sg a b = 0 := by unfold sg; rw [if_neg (by omega), if_neg (by omega)]
theorem below_drewN {B : Nat} {W w : World} (h : Below B W w) (q : Nat) : Below B W (w.drewN q) := ⟨h.os, h.tape, h.output, h.size, h.block⟩
/-- A list of limbs comes back. -/
def Lst (w w' : World) (e : Ending) (z k : Nat) : Prop := ∃ (ao : Option Addr) (cap : Nat) (l : List Nat), e = .returned (.slice ao l.length cap) ∧ l.length ≤ cap ∧ SrcN w' ao l ∧ Dig l ∧ l.length ≤ k ∧ val l = z ∧ Below w.heap.size w w'
theorem trim_num {W : World} {ao : Option Addr} {n cap c : Nat} {l : List Nat} (neg nb : Bool) (hs : SrcN W ao l) (hn : l.length = n) (hd : Dig l) (hc : n ≤ cap) (he : cutN l n = c) (hnb : nb = (neg && decide (0 < c))) :
    NumAt W (.agg #[.bool nb, .slice ao c cap]) (sgnv neg (val l)) n := by
  have h1 := cutN_le l n
  have h2 := cutN_len l n (by omega)
  have h3 := cutN_trm l n (by omega)
  have h4 := cutN_val l n
  rw [show l.take n = l from List.take_of_length_le (by omega)] at h4
  rw [he] at h1 h2 h3 h4
  refine ⟨nb, ao, cap, l.take c, by rw [h2], by omega, hs.take c, dig_take hd c, h3, by omega, fun h => ?_, ?_⟩
  · rw [h2]
    rw [h, eq_comm, Bool.and_eq_true, decide_eq_true_eq] at hnb
    exact hnb.2
  · rw [h4]
    by_cases h0 : 0 < c
    · rw [hnb, decide_eq_true h0, Bool.and_true]
    · obtain rfl : c = 0 := by omega
      rw [← h4, hnb]
      cases neg <;> rfl
/-- What trim answers: the same cells, as many of them as stay. -/
def Trimmed (w w' : World) (e : Ending) (neg : Bool) (ao : Option Addr) (n cap : Nat) (l : List Nat) : Prop := ∃ (nb : Bool) (c : Nat), e = .returned (.agg #[.bool nb, .slice ao c cap]) ∧ cutN l n = c ∧ nb = (neg && decide (0 < c)) ∧ Below w.heap.size w w'
set_option maxHeartbeats 3200000 in
theorem trim_full (neg : Bool) (ao : Option Addr) (n cap : Nat) (l : List Nat) (w : World) (hn : l.length = n) (hl : n < 100000000) (hc : n ≤ cap) (hs : SrcN w ao l) (hd : Dig l) :
    Calls Tryd.prog 36 #[.bool neg, .slice ao n cap] w fun e w' => Trimmed w w' e neg ao n cap l := by
  have hcv := fun k (hk : Hid (cutN l n = cutN l k)) => cutN_val l n
  have HN := hidden hn
  have HD := hidden hd
  have hba := (Below.refl w.heap.size w).alloc (Nat.le_refl _) (.cells #[.bool false, .slice none 0 0] 28)
  have HB := hidden hba
  have HS0 := hidden hs
  have HS := hidden (hs.below hba)
  have hbl := blk_new w (.bool false) (.slice none 0 0)
  have HK := hidden hbl
  clear hcv hn hd hba hs hbl
  go_enter Tryd.func36, Tryd.ntmps36
  go_wp2
  go_loop [5] (fun v => ∃ k : Nat, k ≤ n ∧ v = .int .i64 (k : Int) ∧ Hid (cutN l n = cutN l k)) (fun v => (intOf v).toNat)
  case atStart => exact ⟨n, Nat.le_refl _, rfl, hidden rfl⟩
  case round =>
    obtain ⟨k, hk, rfl, hr⟩ := hrel
    by_cases h0 : 0 < k
    · obtain ⟨bk, off, rfl, hcell⟩ := HS.out.get (k - 1) (by rw [HN.out]; omega)
      obtain ⟨x, hx⟩ : ∃ x, l.getD (k - 1) 0 = x := ⟨_, rfl⟩
      rw [hx] at hcell
      have hcut : cutN l k = if x = 0 then cutN l (k - 1) else k := by
        cases k with
        | zero => omega
        | succ j => rw [cutN, ← hx]; rfl
      have HC := hidden hcut
      clear hcut hx
      by_cases hx0 : x = 0
      · subst hx0
        go_wp2
        go_round
        case rel => exact ⟨k - 1, by omega, by go_num, hidden (by rw [hr.out, HC.out]; rfl)⟩
        case measure => simp [intOf]; omega
      · have HX := hidden hx0
        have hx1 : ((x : Int) == 0) = false := by rw [beq_eq_false_iff_ne]; omega
        have hcn : Hid (cutN l n = k) := hidden (by rw [hr.out, HC.out, if_neg HX.out])
        clear hx0
        cases neg
        · go_wp2
          refine bodyPost_ret (v := .agg #[.bool false, .slice (some ⟨bk, off, none⟩) k cap]) (by simp [results, Tryd.results36, go_sem]) rfl ⟨false, _, rfl, hcn.out, by rfl, (Below.refl _ _).alloc (Nat.le_refl _) _⟩
        · go_wp2
          refine bodyPost_ret (v := .agg #[.bool true, .slice (some ⟨bk, off, none⟩) k cap]) (by simp [results, Tryd.results36, go_sem]) rfl ⟨true, _, rfl, hcn.out, by rw [decide_eq_true h0]; rfl, (Below.refl _ _).alloc (Nat.le_refl _) _⟩
    · obtain rfl : k = 0 := by omega
      have hcn : Hid (cutN l n = 0) := hidden hr.out
      cases neg
      · go_wp2
        refine bodyPost_ret (v := .agg #[.bool false, .slice ao 0 cap]) (by simp [results, Tryd.results36, go_sem]) rfl ⟨false, _, rfl, hcn.out, by rfl, (Below.refl _ _).alloc (Nat.le_refl _) _⟩
      · go_wp2
        refine bodyPost_ret (v := .agg #[.bool false, .slice ao 0 cap]) (by simp [results, Tryd.results36, go_sem]) rfl ⟨false, _, rfl, hcn.out, by rfl, (Below.refl _ _).alloc (Nat.le_refl _) _⟩
theorem trim_any (neg : Bool) (ao : Option Addr) (n cap : Nat) (l : List Nat) (w : World) (hn : l.length = n) (hl : n < 100000000) (hc : n ≤ cap) (hs : SrcN w ao l) (hd : Dig l) :
    Calls Tryd.prog 36 #[.bool neg, .slice ao n cap] w fun e w' => IsNum w w' e (sgnv neg (val l)) n :=
  (trim_full neg ao n cap l w hn hl hc hs hd).mono fun _ _ ⟨nb, _, he, hcut, hnb, hb⟩ => ⟨_, he, trim_num neg nb (hs.below hb) hn hd hc hcut hnb, hb⟩
end Rv
end Go.Proofs.YtapdkibiegeijaaDoor
