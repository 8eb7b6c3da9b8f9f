/- Parts of the proof, together. What unlike.fresh answers: whether a name is new; it is laid down. Conditions: few and short names. -/
import Derived.Test.YtnfnlcahlgnahaaGreatDoorBaat
import Derived.Test.YtnfnlcahlgnahaaGreatDoorBaaz
namespace Go.Proofs.YtnfnlcahlgnahaaGreatDoor
open Go.RowKit

def unitF (names : List (List UInt8)) : ByteArray → Option Value := fun k => if k.data.toList ∈ names then some (.agg #[]) else none
/-- A map of names. -/
def MapU (W : World) (b : Nat) (names : List (List UInt8)) : Prop := MapAt W b names.length (.agg #[]) (unitF names)
theorem rdS_unit : rdS (.agg #[]) = some (.agg [], []) := rfl
theorem unitF_put (names : List (List UInt8)) (l : List UInt8) : putF (unitF names) (txt l) (.agg #[]) = unitF (l :: names) := by
  funext k
  unfold putF unitF
  by_cases e : k = txt l
  · rw [if_pos e, if_pos (by rw [e, data_txt]; exact List.mem_cons_self ..)]
  · rw [if_neg e]
    have e2 : ¬ k.data.toList = l := fun h => e (by rw [← txt_data k, h])
    by_cases h : k.data.toList ∈ names
    · rw [if_pos h, if_pos (List.mem_cons_of_mem _ h)]
    · rw [if_neg h, if_neg (fun h2 => (List.mem_cons.1 h2).elim e2 h)]
set_option maxRecDepth 10000 in
set_option maxHeartbeats 1600000 in
theorem fresh_any {W : World} {b : Nat} {names : List (List UInt8)} (h : MapU W b names) (hn : names.length < 1000000) (l : List UInt8) (hk : (txt l).size ≤ 1000000) :
    Calls Tryz.prog 107 #[.map (some b), .string (txt l)] W fun e w' => e = .returned (.bool (decide (¬ l ∈ names))) ∧ MapU w' b (l :: names) ∧ W.heap.size ≤ w'.heap.size ∧ (∀ k, k < W.heap.size → k ≠ b → w'.heap[k]? = W.heap[k]?) ∧ (∀ B, B ≤ b → Below B W w') := by
  have hnot : ∀ (x : Bool) (w : World), (Op.unary .not (.bool x)).run Tryz.prog w = .ok (.bool (!x)) w := fun _ _ => rfl
  have hz : ∀ w : World, (zeroValue 137).run Tryz.prog w = .ok (.agg #[]) w := fun _ => by kernel_rfl
  have hlk := h.look_ok (t := 128) Tryz.underlying128 (hz W) (txt l) (by unfold maxLen; omega)
  have hgd : ((unitF names) (txt l)).getD (.agg #[]) = .agg #[] := by unfold unitF; split <;> rfl
  have hsm : ((unitF names) (txt l)).isSome = decide (l ∈ names) := by unfold unitF; rw [data_txt]; by_cases e : l ∈ names <;> simp [e]
  rw [hgd, hsm] at hlk
  have hb := h.lt
  have h2 : MapU (W.alloc (.cells #[] 137)) b names := MapAt.of_eq h (Below.heap_alloc _ _ _ hb)
  obtain ⟨w', hst, hm', ht'⟩ := MapAt.store h2 (t := 128) Tryz.underlying128 (by unfold maxLen; omega) (txt l) (by unfold maxLen; omega) (.agg #[]) rdS_unit
  rw [unitF_put] at hm'
  have hsz := turned_size ht'
  have HM : Hid (MapU w' b (l :: names)) := hid' hm'
  have HF := hid' (fun k (hk : k < W.heap.size) (hne : k ≠ b) => (turned_other ht' hne).trans (Below.heap_alloc W (.cells #[] 137) k hk))
  have HB := hid' (fun B (hB : B ≤ b) => turned_below ht' ((Below.refl B W).alloc (by omega) (.cells #[] 137)) hB)
  have HZ : Hid (W.heap.size ≤ w'.heap.size) := hid' (by rw [hsz]; simp)
  clear h h2 hm' ht' hgd hsm hsz
  cases hd : decide (l ∈ names) with
  | true =>
    have he : decide (¬ l ∈ names) = false := by simp at hd ⊢; exact hd
    rw [hd] at hlk
    rw [he]
    clear hd he
    go_enter Tryz.func107, Tryz.ntmps107
    go_wp2
    go_returns
    exact ⟨rfl, HM.out, HZ.out, HF.out, HB.out⟩
  | false =>
    have he : decide (¬ l ∈ names) = true := by simp at hd ⊢; exact hd
    rw [hd] at hlk
    rw [he]
    clear hd he
    go_enter Tryz.func107, Tryz.ntmps107
    go_wp2
    go_returns
    exact ⟨rfl, HM.out, HZ.out, HF.out, HB.out⟩
end Go.Proofs.YtnfnlcahlgnahaaGreatDoor
