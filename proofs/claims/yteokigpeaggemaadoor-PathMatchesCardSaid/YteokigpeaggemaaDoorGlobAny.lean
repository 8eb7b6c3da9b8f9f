/- What path.matchAny answers at texts' parts: whether one of the patterns fits. Conditions: the parts lie there as path.split leaves them, of texts of at most 200 bytes. -/
import Derived.Test.YteokigpeaggemaaDoorGlobParts
namespace Go.Proofs.YteokigpeaggemaaDoor
open Go.RowKit

/-- A function of the caller's answers so at each of the slice's things, and turns nothing below n₀. -/
def Preds (P : Program) (f : Nat) (pa : Addr) (n₀ : Nat) (xs : List ByteArray) (q : ByteArray → Bool) (w : World) : Prop :=
  ∀ W, Below n₀ w W → ∀ j (h : j < xs.length) b, W.heap[b]? = some (pieces xs[j]) → Calls P f #[partsV b xs[j], .pointer (some pa)] W (saysB n₀ W (q xs[j]))
def idxPost (n₀ : Nat) (w : World) (x : Bool) (e : Ending) (w' : World) : Prop := ∃ i : Int, e = .returned (.int .i64 i) ∧ decide (0 ≤ i) = x ∧ Below n₀ w w'
theorem any_true {xs : List ByteArray} {q : ByteArray → Bool} {k : Nat} (h : k < xs.length) (hq : q xs[k] = true) : xs.any q = true := List.any_eq_true.2 ⟨_, List.getElem_mem h, hq⟩
theorem any_false {xs : List ByteArray} {q : ByteArray → Bool} (h : ∀ j (hj : j < xs.length), j < xs.length → q xs[j] = false) : xs.any q = false := by
  rw [List.any_eq_false]
  intro x hx
  obtain ⟨j, hj, rfl⟩ := List.getElem_of_mem hx
  rw [h j hj hj]; simp

set_option maxHeartbeats 400000 in
theorem IndexFunc_any (f : Nat) (ef : ∀ args w, (callFunc f args).run Tryd.prog w = .ok (.enter f args) w) (pa : Addr) (xs : List ByteArray) (q : ByteArray → Bool) (ao : Option Addr) (c : Nat) (w : World) (hn : xs.length < 2147483648)
    (hL : PatsAt w ao xs) (hP : Preds Tryd.prog f pa w.heap.size xs q w) :
    Calls Tryd.prog 99 #[.slice ao xs.length c, .func (.func f) #[] #[.pointer (some pa)]] w (idxPost w.heap.size w (xs.any q)) := by
  have HL := Lib.hid hL
  have HP := Lib.hid hP
  clear hL hP
  go_enter Tryd.func99, Tryd.ntmps99
  go_wp2
  go_loopw [8] (fun i wr => ∃ k : Nat, k ≤ xs.length ∧ i = .int .i64 k ∧ Hid (∀ j (hj : j < xs.length), j < k → q xs[j] = false) ∧ Below w.heap.size w wr) (fun i _ => xs.length - (intOf i).toNat)
  case atStart => exact ⟨0, Nat.zero_le _, rfl, Lib.hid fun _ _ h => absurd h (by omega), Below.refl _ _⟩
  case round =>
    obtain ⟨k, hk, rfl, hno, hb⟩ := hrel
    by_cases hlt : k < xs.length
    · rcases HL.out.below hb with h0 | ⟨g, rfl, h2, h3⟩
      · rw [h0] at hlt; exact absurd hlt (by simp)
      · obtain ⟨b, h4, h5⟩ := h3 k hlt
        have HC := Lib.hid (HP.out wr hb k hlt b h5)
        clear h3 h5
        cases hq : q xs[k]
        · have Hq := Lib.hid hq
          go_wp2_with (go_at_fn f; refine HC.out.mono ?_; rintro e w1 ⟨rfl, hb1⟩; have hb2 := hb.trans hb1)
          go_roundw
          case rel => exact ⟨k + 1, by omega, by go_num, Lib.hid (fun j hj hjk => by
            by_cases e : j = k
            · subst e; exact Hq.out
            · exact hno.out j hj (by omega)), by assumption⟩
          case measure => simp [intOf]; omega
        · have Hq := Lib.hid hq
          go_wp2_with (go_at_fn f; refine HC.out.mono ?_; rintro e w1 ⟨rfl, hb1⟩; have hb2 := hb.trans hb1)
          go_ret
          exact ⟨k, rfl, by rw [any_true hlt Hq.out]; simp, by assumption⟩
    · obtain rfl : k = xs.length := by omega
      go_wp2
      go_ret
      exact ⟨-1, rfl, by rw [any_false hno.out]; rfl, hb⟩

set_option maxHeartbeats 400000 in
theorem ContainsFunc_any (f : Nat) (ef : ∀ args w, (callFunc f args).run Tryd.prog w = .ok (.enter f args) w) (pa : Addr) (xs : List ByteArray) (q : ByteArray → Bool) (ao : Option Addr) (c : Nat) (w : World) (hn : xs.length < 2147483648)
    (hL : PatsAt w ao xs) (hP : Preds Tryd.prog f pa w.heap.size xs q w) :
    Calls Tryd.prog 76 #[.slice ao xs.length c, .func (.func f) #[] #[.pointer (some pa)]] w (saysB w.heap.size w (xs.any q)) := by
  go_enter Tryd.func76, Tryd.ntmps76
  go_wp2_with fail
  refine (IndexFunc_any f ef pa xs q ao c w hn hL hP).mono ?_
  rintro e w1 ⟨i, rfl, hi, hb⟩
  have Hi := Lib.hid hi
  clear hi
  go_wp2
  go_ret
  exact ⟨ret_bool Hi.out, hb⟩

/-- Does a path's text fit one of the patterns? -/
def anyB (xs : List ByteArray) (p : ByteArray) : Bool := xs.any fun x => partsB (Pth.parts x.data.toList) (Pth.parts p.data.toList)
theorem cells_of_block {W : World} {b : Nat} {x : ByteArray} (h : W.heap[b]? = some (pieces x)) (j : Nat) (hj : j < (Pth.parts x.data.toList).length) : W.cell? ⟨b, j, none⟩ = some (.string ⟨((Pth.parts x.data.toList)[j]).toArray⟩) := by
  unfold World.cell?
  rw [h]
  simp [pieces, hj]
theorem lt_of_block {W : World} {b : Nat} {o : Obj} (h : W.heap[b]? = some o) : b < W.heap.size := (Array.getElem?_eq_some_iff.1 h).1

set_option maxHeartbeats 400000 in
theorem matchAny1_any (x p : ByteArray) (b hb : Nat) (pa : Addr) (n₀ : Nat) (W : World) (hx : x.size ≤ 200) (hp : p.size ≤ 200) (h1 : W.heap[b]? = some (pieces x)) (h2 : W.heap[hb]? = some (pieces p)) (hc : W.cell? pa = some (partsV hb p)) (h0 : n₀ ≤ W.heap.size) :
    Calls Tryd.prog 77 #[partsV b x, .pointer (some pa)] W (saysB n₀ W (partsB (Pth.parts x.data.toList) (Pth.parts p.data.toList))) := by
  have hx' := hx
  have hp' := hp
  rw [Lib.size_eq] at hx' hp'
  have c1 := Pth.parts_count x.data.toList
  have c2 := Pth.parts_count p.data.toList
  have HM := Lib.hid (matchParts_any (Pth.parts x.data.toList) (Pth.parts p.data.toList) b hb W (by omega) (by omega) (fun q hq => by have := Pth.parts_le _ q hq; omega) (fun q hq => by have := Pth.parts_le _ q hq; omega)
    ⟨cells_of_block h1, cells_of_block h2, lt_of_block h1, lt_of_block h2⟩)
  clear h1 h2
  unfold partsV at hc ⊢
  go_enter Tryd.func77, Tryd.ntmps77
  go_wp2_with fail
  refine HM.out.mono ?_
  rintro e w1 ⟨rfl, hb1⟩
  go_wp2
  go_ret
  exact ⟨rfl, hb1.mono h0⟩

set_option maxHeartbeats 400000 in
theorem matchAny_any (xs : List ByteArray) (p : ByteArray) (ao : Option Addr) (c hb : Nat) (w : World) (hn : xs.length < 2147483648) (hxs : ∀ j (h : j < xs.length), xs[j].size ≤ 200) (hp : p.size ≤ 200) (hL : PatsAt w ao xs) (h2 : w.heap[hb]? = some (pieces p)) :
    Calls Tryd.prog 53 #[.slice ao xs.length c, partsV hb p] w (saysB w.heap.size w (anyB xs p)) := by
  have B1 := (Below.refl w.heap.size w).alloc (Nat.le_refl _) (.cells #[partsV hb p] 22)
  have HC := Lib.hid (ContainsFunc_any 77 (enters_of Tryd.func77 (by kernel_rfl) rfl) ⟨w.heap.size, 0, none⟩ xs (fun x => partsB (Pth.parts x.data.toList) (Pth.parts p.data.toList)) ao c (w.alloc (.cells #[partsV hb p] 22)) hn (hL.below B1)
    (fun W hW j hj b hbk => by
      have h3 : W.heap[hb]? = some (pieces p) := by
        rw [hW.block hb (by have := lt_of_block h2; simp; omega), B1.block hb (lt_of_block h2)]; exact h2
      have hz := hW.size
      exact matchAny1_any xs[j] p b hb _ _ W (hxs j hj) hp hbk h3 ((hW.cell (p := ⟨w.heap.size, 0, none⟩) (by simp)).trans (Boxed.new w 22 (partsV hb p)).cell) (by simpa using hz)))
  have HB := Lib.hid B1
  clear B1 hL h2
  unfold partsV at HC HB ⊢
  go_enter Tryd.func53, Tryd.ntmps53
  go_wp2_with fail
  refine HC.out.mono ?_
  rintro e w1 ⟨rfl, hb1⟩
  go_wp2
  go_ret
  exact ⟨rfl, HB.out.trans (hb1.mono (by simp))⟩

end Go.Proofs.YteokigpeaggemaaDoor
