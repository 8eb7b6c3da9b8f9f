/- The state of the law of what is kept: the disk, the names, what each file was since it was synced. Conditions: as each states. -/
import Derived.Test.YtahaienalidiiaaDoorDiskKeepDo
import Derived.Test.YtahaienalidiiaaDoorDiskRiseG
import Derived.Test.YtahaienalidiiaaDoorDiskDump
import Derived.Test.YtahaienalidiiaaDoorAmong
import Derived.Test.YtahaienalidiiaaDoorDiskArgs
import Derived.Test.YtahaienalidiiaaDoorDiskFirst
import Derived.Maps.AppendAt
namespace Go.Proofs.YtahaienalidiiaaDoor
open Go.RowKit Go.Maps Go.Sort

def nk : Nat → ByteArray | 0 => ⟨#[97]⟩ | 1 => ⟨#[98]⟩ | _ => ⟨#[99]⟩
theorem nk_ok (k : Nat) (hk : k < 3) : (nk k).size ≤ 1000 ∧ Pth.splitOK Pth.partOK (nk k).data.toList = true := by
  match k, hk with
  | 0, _ => exact ⟨by decide, by decide⟩
  | 1, _ => exact ⟨by decide, by decide⟩
  | 2, _ => exact ⟨by decide, by decide⟩
theorem nk_ne {i j : Nat} (hi : i < 3) (hj : j < 3) (h : i ≠ j) : nk i ≠ nk j := by
  match i, hi, j, hj with
  | 0, _, 0, _ => exact absurd rfl h
  | 0, _, 1, _ => decide
  | 0, _, 2, _ => decide
  | 1, _, 0, _ => decide
  | 1, _, 1, _ => exact absurd rfl h
  | 1, _, 2, _ => decide
  | 2, _, 0, _ => decide
  | 2, _, 1, _ => decide
  | 2, _, 2, _ => exact absurd rfl h
def updV {α : Type} (f : Nat → α) (k : Nat) (x : α) : Nat → α := fun j => if j = k then x else f j
theorem updV_same {α : Type} (f : Nat → α) (k : Nat) (x : α) : updV f k x k = x := if_pos rfl
theorem updV_other {α : Type} (f : Nat → α) {k j : Nat} (x : α) (h : j ≠ k) : updV f k x j = f j := if_neg h
theorem three_set (v : Nat → Value) (k : Nat) (hk : k < 3) (x : Value) : (#[v 0, v 1, v 2] : Array Value).setIfInBounds k x = #[updV v k x 0, updV v k x 1, updV v k x 2] := by
  match k, hk with
  | 0, _ => rfl
  | 1, _ => rfl
  | 2, _ => rfl
theorem three_at (v : Nat → Value) (k : Nat) (hk : k < 3) : (#[v 0, v 1, v 2] : Array Value)[k]? = some (v k) := by
  match k, hk with
  | 0, _ => rfl
  | 1, _ => rfl
  | 2, _ => rfl
/-- The law's lists: the names; a row of three lists of texts, each of the call's own. -/
structure Sin (W : World) (q : Nat) (v : Nat → Value) (S : Nat → List ByteArray) : Prop where
  names : W.heap[q]? = some (.cells #[.string (nk 0), .string (nk 1), .string (nk 2)] 9 (0, 0))
  outer : W.heap[q + 1 + 1 + 1 + 1]? = some (.cells #[v 0, v 1, v 2] 29 (0, 0))
  rows : ∀ k, k < 3 → W.ownsRow (q + 1) 9 1 (v k) (S k).length ((S k).map Value.string)
  some_ : ∀ k, k < 3 → 0 < (S k).length
  apart : ∀ i j, i < 3 → j < 3 → i ≠ j → (v i).ownBlock ≠ (v j).ownBlock
section
variable {W W' : World} {q : Nat} {v : Nat → Value} {S : Nat → List ByteArray}
theorem Sin.keep (h : Sin W q v S) (hk : ∀ k, q ≤ k → k < W.heap.size → W'.heap[k]? = W.heap[k]?) : Sin W' q v S :=
  ⟨(hk q (Nat.le_refl _) (Array.getElem?_eq_some_iff.1 h.names).1).trans h.names, (hk _ (by omega) (Array.getElem?_eq_some_iff.1 h.outer).1).trans h.outer,
   fun k hk3 => ⟨(h.rows k hk3).1, (h.rows k hk3).2.imp id fun ⟨g, cap, cur, e1, e2, e3, e4⟩ => ⟨g, cap, cur, e1, e2, (hk g (by omega) (Array.getElem?_eq_some_iff.1 e3).1).trans e3, e4⟩⟩, h.some_, h.apart⟩
theorem Sin.tri {sb fb cb : Nat} (h : Sin W q v S) (hT : Tri sb fb cb W W') (h1 : sb < q) (h2 : fb < q) (h3 : cb < q) : Sin W' q v S :=
  h.keep fun k hk hl => hT.block k hl (by omega) (by omega) (by omega)
theorem Sin.below (h : Sin W q v S) (hb : Below W.heap.size W W') : Sin W' q v S := h.keep fun k _ hl => hb.block k hl
theorem Sin.name (h : Sin W q v S) (k : Nat) (hk : k < 3) : W.cell? ⟨q, k, none⟩ = some (.string (nk k)) := by
  rw [cell_of_row W q k _ _ _ h.names]
  match k, hk with
  | 0, _ => rfl
  | 1, _ => rfl
  | 2, _ => rfl
theorem Sin.form (h : Sin W q v S) (k : Nat) (hk : k < 3) : ∃ g cap n, v k = .slice (some ⟨g, 0, none⟩) (n + 1) cap ∧ (S k).length = n + 1 ∧ q + 1 ≤ g ∧ g < W.heap.size ∧
    W.cell? ⟨q + 1 + 1 + 1 + 1, k, none⟩ = some (.slice (some ⟨g, 0, none⟩) (n + 1) cap) ∧ W.frozen? ⟨q + 1 + 1 + 1 + 1, k, none⟩ = false ∧ ∀ j x, (S k)[j]? = some x → W.cell? ⟨g, j, none⟩ = some (.string x) := by
  have hs := h.some_ k hk
  rcases (h.rows k hk).2 with ⟨_, h0⟩ | ⟨g, cap, cur, e, hB, hg, hc, _, hsz, ht⟩
  · omega
  · obtain ⟨n, hn⟩ : ∃ n, (S k).length = n + 1 := ⟨(S k).length - 1, by omega⟩
    rw [hn] at e
    refine ⟨g, cap, n, e, hn, hB, (Array.getElem?_eq_some_iff.1 hg).1, ?_, frozen_of_row W _ k _ _ h.outer, fun j x hx => ?_⟩
    · rw [cell_of_row W _ k _ _ _ h.outer, three_at v k hk, e]
    · rw [cell_of_row W g j _ _ _ hg]
      have h1 : ((S k).map Value.string)[j]? = some (.string x) := by rw [List.getElem?_map, hx]; rfl
      rw [← ht, List.getElem?_take] at h1
      split at h1
      · simpa using h1
      · cases h1
theorem row_far {base : Nat} {e : TypeId} {size n : Nat} {u : Value} {xs : List Value} (h : W.ownsRow base e size u n xs) (hk : ∀ k, u.ownBlock = some k → W'.heap[k]? = W.heap[k]?) : W'.ownsRow base e size u n xs :=
  ⟨h.1, h.2.imp id fun ⟨g, cap, cur, e1, e2, e3, e4⟩ => ⟨g, cap, cur, e1, e2, (hk g (by rw [e1]; rfl)).trans e3, e4⟩⟩
theorem own_lt {base : Nat} {e : TypeId} {size n : Nat} {u : Value} {xs : List Value} (h : W.ownsRow base e size u n xs) (k : Nat) (hk : u.ownBlock = some k) : base ≤ k ∧ ∃ cs, W.heap[k]? = some (.cells cs e (0, 0)) := by
  rcases h.2 with ⟨rfl, _⟩ | ⟨g, cap, cur, rfl, hB, hg, _⟩
  · simp [Value.ownBlock] at hk
  · simp only [Value.ownBlock, Option.some.injEq] at hk
    subst hk
    exact ⟨hB, cur, hg⟩
/-- One text more. -/
theorem Sin.push (h : Sin W q v S) (k : Nat) (hk : k < 3) (s : ByteArray) {u : Value} (hown : W'.ownsRow (q + 1) 9 1 u ((S k).length + 1) ((S k).map Value.string ++ [.string s]))
    (hb : ∀ j, j < W.heap.size → (v k).ownBlock ≠ some j → W'.heap[j]? = W.heap[j]?) (hat : u.ownBlock = (v k).ownBlock ∨ ∃ g, u.ownBlock = some g ∧ W.heap.size ≤ g) :
    W'.cell? ⟨q + 1 + 1 + 1 + 1, k, none⟩ = some (v k) ∧ W'.frozen? ⟨q + 1 + 1 + 1 + 1, k, none⟩ = false ∧ Sin (W'.setCell ⟨q + 1 + 1 + 1 + 1, k, none⟩ u) q (updV v k u) (updV S k (S k ++ [s])) := by
  have hne : ∀ i, i < 3 → (v i).ownBlock ≠ some (q + 1 + 1 + 1 + 1) := fun i hi e => by
    obtain ⟨_, cs, hc⟩ := own_lt (h.rows i hi) _ e
    rw [h.outer] at hc
    injection hc with hc
    injection hc with _ h2
    exact absurd h2 (by decide)
  have hu : u.ownBlock ≠ some (q + 1 + 1 + 1 + 1) := by
    rcases hat with e | ⟨g, e, hg⟩
    · rw [e]; exact hne k hk
    · rw [e]
      have := (Array.getElem?_eq_some_iff.1 h.outer).1
      intro e2
      injection e2 with e2
      omega
  have ho' : W'.heap[q + 1 + 1 + 1 + 1]? = some (.cells #[v 0, v 1, v 2] 29 (0, 0)) := (hb _ (Array.getElem?_eq_some_iff.1 h.outer).1 (hne k hk)).trans h.outer
  have hn' : W'.heap[q]? = some (.cells #[.string (nk 0), .string (nk 1), .string (nk 2)] 9 (0, 0)) := (hb q (Array.getElem?_eq_some_iff.1 h.names).1 (fun e => by have := (own_lt (h.rows k hk) _ e).1; omega)).trans h.names
  refine ⟨?_, frozen_of_row W' _ k _ _ ho', ⟨(heap_setCell_other _ _ _ _ (by simp only; omega)).trans hn', ?_, fun i hi => ?_, fun i hi => ?_, fun i j hi hj hij => ?_⟩⟩
  · rw [cell_of_row W' _ k _ _ _ ho', three_at v k hk]
  · rw [← three_set v k hk u]
    exact heap_setCell_same _ _ k _ _ _ ho'
  · by_cases e : i = k
    · subst e
      rw [updV_same, updV_same, List.length_append, List.map_append]
      exact row_far hown fun g hg => heap_setCell_other _ _ _ _ (by simp only; intro e; subst e; exact hu hg)
    · rw [updV_other v u e, updV_other S _ e]
      refine row_far (h.rows i hi) fun g hg => ?_
      rw [heap_setCell_other _ _ _ _ (by simp only; intro e; subst e; exact hne i hi hg)]
      obtain ⟨_, cs, hc⟩ := own_lt (h.rows i hi) g hg
      exact hb g (Array.getElem?_eq_some_iff.1 hc).1 (by rw [← hg]; exact h.apart k i hk hi (Ne.symm e))
  · by_cases e : i = k
    · subst e; rw [updV_same, List.length_append]; simp
    · rw [updV_other S _ e]; exact h.some_ i hi
  · have hfar : ∀ i, i < 3 → i ≠ k → (v i).ownBlock ≠ u.ownBlock := fun i hi e hh => by
      rcases hat with e2 | ⟨g, e2, hg⟩
      · rw [e2] at hh; exact h.apart i k hi hk e hh
      · rw [e2] at hh
        obtain ⟨_, cs, hc⟩ := own_lt (h.rows i hi) g hh
        have := (Array.getElem?_eq_some_iff.1 hc).1
        omega
    by_cases e : i = k
    · subst e
      rw [updV_same, updV_other v u (Ne.symm hij)]
      exact Ne.symm (hfar j hj (Ne.symm hij))
    · by_cases e2 : j = k
      · subst e2
        rw [updV_same, updV_other v u e]
        exact hfar i hi e
      · rw [updV_other v u e, updV_other v u e2]
        exact h.apart i j hi hj hij
/-- One text alone. -/
theorem Sin.reset (h : Sin W q v S) (k : Nat) (hk : k < 3) (s : ByteArray) :
    (W.alloc (.cells #[.string s] 9)).cell? ⟨q + 1 + 1 + 1 + 1, k, none⟩ = some (v k) ∧ (W.alloc (.cells #[.string s] 9)).frozen? ⟨q + 1 + 1 + 1 + 1, k, none⟩ = false ∧
    Sin ((W.alloc (.cells #[.string s] 9)).setCell ⟨q + 1 + 1 + 1 + 1, k, none⟩ (.slice (some ⟨W.heap.size, 0, none⟩) 1 1)) q (updV v k (.slice (some ⟨W.heap.size, 0, none⟩) 1 1)) (updV S k [s]) := by
  have h1 := h.below ((Below.refl W.heap.size W).alloc (Nat.le_refl _) (.cells #[.string s] 9))
  have hq := (Array.getElem?_eq_some_iff.1 h.outer).1
  have hne : ∀ i, i < 3 → (v i).ownBlock ≠ some (q + 1 + 1 + 1 + 1) := fun i hi e => by
    obtain ⟨_, cs, hc⟩ := own_lt (h.rows i hi) _ e
    rw [h.outer] at hc
    injection hc with hc
    injection hc with _ h2
    exact absurd h2 (by decide)
  have hfar : ∀ i, i < 3 → (v i).ownBlock ≠ some W.heap.size := fun i hi e => by
    obtain ⟨_, cs, hc⟩ := own_lt (h.rows i hi) _ e
    have := (Array.getElem?_eq_some_iff.1 hc).1
    omega
  refine ⟨?_, frozen_of_row _ _ k _ _ h1.outer, ⟨(heap_setCell_other _ _ _ _ (by simp only; omega)).trans h1.names, ?_, fun i hi => ?_, fun i hi => ?_, fun i j hi hj hij => ?_⟩⟩
  · rw [cell_of_row _ _ k _ _ _ h1.outer, three_at v k hk]
  · rw [← three_set v k hk _]
    exact heap_setCell_same _ _ k _ _ _ h1.outer
  · by_cases e : i = k
    · subst e
      rw [updV_same, updV_same]
      refine ⟨by simp, .inr ⟨W.heap.size, 1, #[.string s], rfl, by omega, (heap_setCell_other _ _ _ _ (by simp only; omega)).trans (heap_alloc_new W _), by simp, by unfold maxLen; omega, by simp, by simp⟩⟩
    · rw [updV_other v _ e, updV_other S _ e]
      exact row_far (h1.rows i hi) fun g hg => heap_setCell_other _ _ _ _ (by simp only; intro e; subst e; exact hne i hi hg)
  · by_cases e : i = k
    · subst e; rw [updV_same]; simp
    · rw [updV_other S _ e]; exact h.some_ i hi
  · by_cases e : i = k
    · subst e
      rw [updV_same, updV_other v _ (Ne.symm hij)]
      exact Ne.symm (hfar j hj)
    · by_cases e2 : j = k
      · subst e2
        rw [updV_same, updV_other v _ e]
        exact hfar i hi
      · rw [updV_other v _ e, updV_other v _ e2]
        exact h.apart i j hi hj hij
end
theorem info_strK : (Tryd.prog.info? 9).map (fun i => (i.zero, i.size, i.bytes)) = some (some (.string ⟨#[]⟩), 1, 16) := by kernel_rfl
/-- An append of one text onto one of the lists. -/
theorem run_push {W : World} {q : Nat} {v : Nat → Value} {S : Nat → List ByteArray} (h : Sin W q v S) (k : Nat) (hk : k < 3) (s : ByteArray) (hl : (S k).length < 1000000) (ty : TypeId) :
    ∃ u w', (Builtin.append_ #[29, 29] ty #[v k, .slice (some ⟨W.heap.size, 0, none⟩) 1 1]).run Tryd.prog (W.alloc (.cells #[.string s] 9)) = .ok u w' ∧
      w'.cell? ⟨q + 1 + 1 + 1 + 1, k, none⟩ = some (v k) ∧ w'.frozen? ⟨q + 1 + 1 + 1 + 1, k, none⟩ = false ∧ Sin (w'.setCell ⟨q + 1 + 1 + 1 + 1, k, none⟩ u) q (updV v k u) (updV S k (S k ++ [s])) ∧ Below (q + 1) W (w'.setCell ⟨q + 1 + 1 + 1 + 1, k, none⟩ u) := by
  obtain ⟨i0, hi, hz, hz1, hz2⟩ := info_parts info_strK
  have hq := (Array.getElem?_eq_some_iff.1 h.outer).1
  obtain ⟨u, w', hr, h1, h2, _, h4⟩ := run_append_own_at (P := Tryd.prog) (W.alloc (.cells #[.string s] 9)) (q + 1) 29 ty 9 i0 (.string ⟨#[]⟩) 1 16 Tryd.underlying29 hi hz hz1 hz2 rfl (by decide) (v k) (S k).length ((S k).map Value.string)
    ((h.rows k hk).alloc _) ⟨W.heap.size, 0, none⟩ 1 1 [.string s] rfl (cell_one_new W _ _) (fun u hu => by simp at hu; subst hu; rfl) (by unfold maxLen; omega) (by omega) (by simp; omega)
  have hb : ∀ j, j < W.heap.size → (v k).ownBlock ≠ some j → w'.heap[j]? = W.heap[j]? := fun j hj hne => (h2.block j (by simp; omega) (Ne.symm hne)).trans (Below.heap_alloc W _ j hj)
  obtain ⟨p1, p2, p3⟩ := h.push k hk s h1 hb (h4.imp id fun e => ⟨_, e, by simp⟩)
  refine ⟨u, w', hr, p1, p2, p3, ?_⟩
  refine Below.setCell ?_ (by simp only; omega) _
  exact ((Below.refl (q + 1) W).alloc (by omega) _).grown h2 (by simp; omega) fun j hj => ((h.rows k hk).lt j hj).1
end Go.Proofs.YtahaienalidiiaaDoor
