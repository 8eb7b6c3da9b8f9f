/- Parts of the proof, together. What slices.Sort, slices.Compact, smithyref.SameTexts and smithyref.SortedTexts make of lists of texts. Conditions: fewer than 2^30 texts. -/
import Derived.Lib.OwnBridge
import Derived.Lib.AppendIntMem
import Derived.OwnWalk
import Derived.Deep.MidRow
import Derived.Sort.Walk0
import Derived.Deep.QuietTactic
import Derived.BigQuiet
import Derived.Deep.RegionLaw
import Derived.IntWalk
import Derived.Lib.Hide
import Derived.WalkSmall
import Derived.RangeFuncBox
import Derived.Test.YtpjjofdphlgeiaaGreatDoorVvac
import Derived.Test.YtpjjofdphlgeiaaGreatDoorVvaa
namespace Go.Proofs.YtpjjofdphlgeiaaGreatDoor
open Go.RowKit Go.Sort
namespace Tx
/-- A function value answers this bool and turns nothing below n₀. -/
def saysB (n₀ : Nat) (W : World) (x : Bool) (e : Ending) (w' : World) : Prop := e = .returned (.bool x) ∧ Below n₀ W w'
/-- A slice of texts, nil or empty or not. -/
def SliceOf (W : World) (ao : Option Addr) (c : Nat) (xs : List ByteArray) : Prop :=
  xs = [] ∨ ∃ bk o, ao = some ⟨bk, o, none⟩ ∧ xs.length ≤ c ∧ bk < W.heap.size ∧ ∀ (j : Nat) z, xs[j]? = some z → W.cell? ⟨bk, o + j, none⟩ = some (.string z)
theorem SliceOf.below {W W' : World} {ao : Option Addr} {c : Nat} {xs : List ByteArray} (h : SliceOf W ao c xs) (hb : Below W.heap.size W W') : SliceOf W' ao c xs := by
  rcases h with h | ⟨bk, o, h1, h2, h3, h4⟩
  · exact .inl h
  · exact .inr ⟨bk, o, h1, h2, Nat.lt_of_lt_of_le h3 hb.size, fun j z hz => (hb.cell (p := ⟨bk, o + j, none⟩) h3).trans (h4 j z hz)⟩
/-- A slice of texts of the call's own, from block B on. -/
def Fresh (W : World) (B : Nat) (ao : Option Addr) (c : Nat) (ls : List (List UInt8)) : Prop :=
  ls = [] ∨ ∃ g, ao = some ⟨g, 0, none⟩ ∧ B ≤ g ∧ g < W.heap.size ∧ ls.length ≤ c ∧ Holds encStr W g 0 ls.toArray
theorem Fresh.below {W W' : World} {B : Nat} {ao : Option Addr} {c : Nat} {ls : List (List UInt8)} (h : Fresh W B ao c ls) (hb : Below W.heap.size W W') : Fresh W' B ao c ls := by
  rcases h with h | ⟨g, h1, h2, h3, h4, h5⟩
  · exact .inl h
  · exact .inr ⟨g, h1, h2, Nat.lt_of_lt_of_le h3 hb.size, h4, fun j hj => ⟨(hb.cell (p := ⟨g, 0 + j, none⟩) h3).trans (h5 j hj).1, (hb.frozen (p := ⟨g, 0 + j, none⟩) h3).trans (h5 j hj).2⟩⟩
theorem Fresh.cell {W : World} {B : Nat} {ao : Option Addr} {c : Nat} {ls : List (List UInt8)} (h : Fresh W B ao c ls) (hne : 0 < ls.length) : ∃ g, ao = some ⟨g, 0, none⟩ ∧ B ≤ g ∧ g < W.heap.size ∧ ls.length ≤ c ∧ ∀ j (hj : j < ls.length), W.cell? ⟨g, j, none⟩ = some (.string ⟨ls[j].toArray⟩) := by
  rcases h with h | ⟨g, h1, h2, h3, h4, h5⟩
  · subst h; simp at hne
  · refine ⟨g, h1, h2, h3, h4, fun j hj => ?_⟩
    have := (h5 j (by simpa using hj)).1
    rw [Nat.zero_add] at this
    rw [this]
    simp [encStr, getElem!_pos, hj]
def sorted8 (ls : List (List UInt8)) : List (List UInt8) := ls.mergeSort fun x y => decide (x ≤ y)
theorem Sort_slice (B : Nat) (ao : Option Addr) (n c : Nat) (ls : List (List UInt8)) (w : World) (hl0 : ls.length = n) (hn : n < 2147483648) (hB : B ≤ w.heap.size) (hF : Fresh w B ao c ls) :
    Calls Tryz.prog 88 #[.slice ao n c] w fun e w' => e = .returned (.tuple #[]) ∧ Fresh w' B ao c (sorted8 ls) ∧ Below B w w' ∧ w.heap.size ≤ w'.heap.size := by
  subst hl0
  rcases hF with rfl | ⟨g, rfl, h2, h3, h4, h5⟩
  · refine (Tryz.slices_Sort_string_none ao c w).mono ?_
    rintro e w' ⟨rfl, rfl⟩
    exact ⟨rfl, .inl (by simp [sorted8]), Below.refl _ _, Nat.le_refl _⟩
  · refine (Tryz.slices_Sort_string g 0 c ls w h5 h3 (by omega)).mono ?_
    rintro e w' ⟨rfl, n, os, rfl⟩
    have hl : (sorted8 ls).length = ls.length := by simp [sorted8, List.length_mergeSort]
    have b1 : Below B w (putRow encStr (Sort.ahead w n) g 0 (sorted8 ls).toArray) := Lib.below_putRow (Below.refl _ _) h2
    have hz : (putRow encStr (Sort.ahead w n) g 0 (sorted8 ls).toArray).heap.size = w.heap.size := by rw [size_putRow]; rfl
    have b2 := Lib.below_grow B (putRow encStr (Sort.ahead w n) g 0 (sorted8 ls).toArray) (by rw [hz]; exact hB) 0 os
    unfold sorted8 at hz b1 b2 hl ⊢
    refine ⟨rfl, .inr ⟨g, rfl, h2, ?_, by rw [hl]; exact h4, ?_⟩, b1.trans b2, ?_⟩
    · rw [size_grow, hz]; omega
    · exact holds_grow _ _ _ _ _ _ (by rw [hz]; exact h3) (holds_putRow encStr (Sort.ahead w n) g 0 ls.toArray _ (holds_ahead _ _ _ _ _ _ h5) (by simp [hl]))
    · rw [size_grow, hz]; omega
theorem compact_le (ls : List (List UInt8)) : (Lib.compact ls).length ≤ ls.length := Lib.compact_length_le ls
theorem Compact_slice (B : Nat) (ao : Option Addr) (n c : Nat) (ls cs : List (List UInt8)) (w : World) (hcs : Lib.compact ls = cs) (hl0 : ls.length = n) (hn : n < 2147483648) (hF : Fresh w B ao c ls) :
    Calls Tryz.prog 89 #[.slice ao n c] w fun e w' => e = .returned (.slice ao cs.length c) ∧ Fresh w' B ao c cs ∧ Below B w w' ∧ w.heap.size ≤ w'.heap.size := by
  subst hcs
  subst hl0
  rcases hF with rfl | ⟨g, rfl, h2, h3, h4, h5⟩
  · refine (Tryz.slices_Compact_string_empty ao c w).mono ?_
    rintro e w' ⟨rfl, rfl⟩
    exact ⟨rfl, .inl rfl, Below.refl _ _, Nat.le_refl _⟩
  · refine (Tryz.slices_Compact_string g 0 c ls w h5 (by omega) h4).mono ?_
    rintro e w' ⟨rfl, q, rfl⟩
    have hl : (Lib.compact ls ++ List.replicate (ls.length - (Lib.compact ls).length) []).length = ls.length := by
      have := compact_le ls
      simp; omega
    have hz : (putRow encStr (Sort.ahead w q) g 0 (Lib.compact ls ++ List.replicate (ls.length - (Lib.compact ls).length) []).toArray).heap.size = w.heap.size := by rw [size_putRow]; rfl
    have hh := holds_putRow encStr (Sort.ahead w q) g 0 ls.toArray (Lib.compact ls ++ List.replicate (ls.length - (Lib.compact ls).length) []).toArray (holds_ahead _ _ _ _ _ _ h5) (by simpa using hl)
    refine ⟨rfl, .inr ⟨g, rfl, h2, by rw [hz]; exact h3, Nat.le_trans (compact_le ls) h4, fun j hj => ?_⟩, Lib.below_putRow (Below.refl _ _) h2, by rw [hz]; exact Nat.le_refl _⟩
    have hj' : j < (Lib.compact ls).length := by simpa using hj
    obtain ⟨a1, a2⟩ := hh j (by have := compact_le ls; simp; omega)
    refine ⟨a1.trans ?_, a2⟩
    have hj2 : j < (Lib.compact ls ++ List.replicate (ls.length - (Lib.compact ls).length) ([] : List UInt8)).length := by simp; omega
    congr 2
    rw [getElem!_pos _ _ (by simpa using hj2), getElem!_pos _ _ (by simpa using hj)]
    simp [List.getElem_append_left hj']
theorem owns_below {B : Nat} {e : TypeId} {k : Nat} {v : Value} {n : Nat} {xs : List Value} {w w' : World} (h : w.ownsRow B e k v n xs) (hb : Below w.heap.size w w') : w'.ownsRow B e k v n xs := by
  refine ⟨h.1, h.2.imp id ?_⟩
  rintro ⟨g, cap, cur, h1, h2, h3, h4⟩
  exact ⟨g, cap, cur, h1, h2, (hb.block g (Array.getElem?_eq_some_iff.1 h3).1).trans h3, h4⟩
theorem mem_compact {ls : List (List UInt8)} {q : List UInt8} (h : q ∈ Lib.compact ls) : q ∈ ls := by
  unfold Lib.compact Lib.compactUpTo at h
  obtain ⟨j, hj, rfl⟩ := List.mem_map.1 h
  have hj' : j < ls.length := by simpa using (List.mem_filter.1 hj).1
  rw [getElem!_pos _ _ (by simpa using hj')]
  simp
theorem info_text : (Tryz.prog.info? 9).map (fun i => (i.zero, i.size, i.bytes)) = some (some (.string ⟨#[]⟩), 1, 16) := by kernel_rfl
theorem sliceOf_owns {W : World} {B : Nat} {v : Value} {ys : List ByteArray} (h : W.ownsRow B 9 1 v ys.length (ys.map Value.string)) : ∃ ao cap, v = .slice ao ys.length cap ∧ SliceOf W ao cap ys := by
  rcases h.2 with ⟨rfl, h0⟩ | ⟨g, cap, cur, rfl, hg, hh, hn, _⟩
  · obtain rfl : ys = [] := List.eq_nil_of_length_eq_zero h0
    exact ⟨none, 0, rfl, .inl rfl⟩
  · refine ⟨_, cap, rfl, .inr ⟨g, 0, rfl, hn, (h.lt g rfl).2, fun j z hz => ?_⟩⟩
    have hj : j < ys.length := (List.getElem?_eq_some_iff.1 hz).1
    rw [Nat.zero_add, h.cellAt j (by omega)]
    rw [List.getElem?_map, hz]
    rfl
theorem in_compact {ls : List (List UInt8)} {q : List UInt8} (h : q ∈ ls) : q ∈ Lib.compact ls := by
  obtain ⟨j, hj, rfl⟩ := List.getElem_of_mem h
  unfold Lib.compact Lib.compactUpTo
  rw [List.mem_map]
  induction j with
  | zero =>
    refine ⟨0, List.mem_filter.2 ⟨by simpa using hj, by simp [Lib.keeps]⟩, ?_⟩
    rw [getElem!_pos _ _ (by simpa using hj)]; simp
  | succ j ih =>
    by_cases e : ls[j + 1] = ls[j]
    · rw [e]
      exact ih (by omega) (List.getElem_mem _)
    · refine ⟨j + 1, List.mem_filter.2 ⟨by simpa using hj, Lib.keeps_pos ?_⟩, ?_⟩
      · rw [getElem!_pos _ _ (by simpa using hj), getElem!_pos _ _ (by simp; omega)]
        simpa using e
      · rw [getElem!_pos _ _ (by simpa using hj)]; simp
/-- A list of texts of the call's own, from block B on. -/
def Owned (W : World) (B : Nat) (v : Value) (xs : List ByteArray) : Prop := W.ownsRow B 9 1 v xs.length (xs.map Value.string)
theorem Owned.below {W W' : World} {B : Nat} {v : Value} {xs : List ByteArray} (h : Owned W B v xs) (hb : Below W.heap.size W W') : Owned W' B v xs := owns_below h hb
theorem Owned.slice {W : World} {B : Nat} {v : Value} {xs : List ByteArray} (h : Owned W B v xs) : ∃ ao cap, v = .slice ao xs.length cap ∧ SliceOf W ao cap xs := sliceOf_owns h
theorem nil_onto {w : World} {base : Nat} {v : Value} {xs : List ByteArray} (hown : Owned w base v xs) (ty : TypeId) (c : Nat) : (Builtin.append_ #[36, 36] ty #[v, .slice none 0 c]).run Tryz.prog w = .ok v w := by
  obtain ⟨i0, hi, _⟩ := info_parts info_text
  have ht := Tryz.underlying36
  rcases hown.2 with ⟨rfl, h0⟩ | ⟨g, cap, cur, rfl, hB, hg, hnc, hm⟩
  · simp [Builtin.append_, run_underlying ht, Builtin.lenOf, Builtin.firstCells, sizeOf, typeInfo, hi]
  · simp [Builtin.append_, run_underlying ht, Builtin.lenOf, Builtin.firstCells, sizeOf, typeInfo, hi, storeCells, hnc]
theorem wp_append_texts {o : Oper} {a : Act} {K : Act → World → Prop} {Q : Exit → Act → World → Prop} (w : World) (s x : Operand)
    (ho : o.op = .call { callee := .builtin .append, args := #[s, x], argTypes := #[36, 36] }) (base : Nat) (v : Value) (xs ys : List ByteArray) (hs : a.eval s = v) (hown : Owned w base v xs) (ao : Option Addr) (n c : Nat) (hx : a.eval x = .slice ao n c) (hn : ys.length = n)
    (hL : SliceOf w ao c ys) (hlen : xs.length + ys.length < 2147483648) (hbase : base ≤ w.heap.size)
    (h : ∀ v' w', Owned w' base v' (xs ++ ys) → Below base w w' → w.heap.size ≤ w'.heap.size → K (a.put o.dst v') w') : o.wp Tryz.prog a w K Q := by
  subst hn
  obtain ⟨i0, hi, hz0, hz1, hz2⟩ := info_parts info_text
  have main : ∀ (ad : Addr), ao = some ad → (∀ j u, (ys.map Value.string)[j]? = some u → w.cell? (ad.add j) = some u) → o.wp Tryz.prog a w K Q := by
    intro ad e hc
    subst e
    refine wp_append_own w s x 36 ho base 9 i0 (.string ⟨#[]⟩) 1 16 Tryz.underlying36 hi hz0 hz1 hz2 rfl (by decide) v xs.length (xs.map Value.string) hs hown ad ys.length c (ys.map Value.string) hx (by simp) hc (fun u hu => by
      obtain ⟨y, _, rfl⟩ := List.mem_map.1 hu; rfl) (by unfold maxLen; omega) (by omega) hbase ?_
    intro v' w' h1 h2 _
    refine h v' w' ?_ ?_ h2.size
    · unfold Owned; rw [List.length_append, List.map_append]; exact h1
    · refine ⟨h2.os, h2.tape, h2.output, h2.size, fun k hk => h2.block k (by omega) (fun e => ?_)⟩
      have := (hown.lt k e.symm).1
      omega
  rcases hL with rfl | ⟨bk, off, rfl, h2, h3, h4⟩
  · cases ao with
    | none =>
      have hr := nil_onto hown o.type c
      unfold Oper.wp execOp
      simp only [ho, resolve, invoke, builtin, Sem.run_bind, Sem.run_pure, Result.andThen_ok, List.map_toArray, List.map_cons, List.map_nil, hs, hx]
      rw [show ([] : List ByteArray).length = 0 from rfl, hr]
      exact h v w (by simpa using hown) (Below.refl _ _) (Nat.le_refl _)
    | some ad => exact main ad rfl (fun j u hu => by simp at hu)
  · refine main ⟨bk, off, none⟩ rfl fun j u hu => ?_
    rw [List.getElem?_map] at hu
    obtain ⟨y, hy, rfl⟩ := Option.map_eq_some_iff.1 hu
    rw [Addr.add_mid]
    exact h4 j y hy
theorem append_texts {ops : Array Oper} {rest : List Oper} {o : Oper} {a : Act} {Q : Exit → Act → World → Prop} (w : World) (hgd : o.guard = none) (s x : Operand)
    (ho : o.op = .call { callee := .builtin .append, args := #[s, x], argTypes := #[36, 36] }) (base : Nat) (v : Value) (xs ys : List ByteArray) (hs : a.eval s = v) (hown : Owned w base v xs) (ao : Option Addr) (c : Nat) (hx : a.eval x = .slice ao ys.length c)
    (hL : SliceOf w ao c ys) (hlen : xs.length + ys.length < 2147483648) (hbase : base ≤ w.heap.size)
    (h : ∀ v' w', Owned w' base v' (xs ++ ys) → Below base w w' → w.heap.size ≤ w'.heap.size → wpList Tryz.prog ops Q rest (a.put o.dst v') w') : wpList Tryz.prog ops Q (o :: rest) a w :=
  wpList_plain hgd fun _ hK => wp_append_texts w s x ho base v xs ys hs hown ao ys.length c hx rfl hL hlen hbase fun v' w' h1 h2 h3 => hK _ _ (h v' w' h1 h2 h3)
theorem append_texts_n {ops : Array Oper} {rest : List Oper} {o : Oper} {a : Act} {Q : Exit → Act → World → Prop} (w : World) (hgd : o.guard = none) (s x : Operand)
    (ho : o.op = .call { callee := .builtin .append, args := #[s, x], argTypes := #[36, 36] }) (base : Nat) (v : Value) (xs ys : List ByteArray) (hs : a.eval s = v) (hown : Owned w base v xs) (ao : Option Addr) (n c : Nat) (hx : a.eval x = .slice ao n c) (hn : ys.length = n)
    (hL : SliceOf w ao c ys) (hlen : xs.length + ys.length < 2147483648) (hbase : base ≤ w.heap.size)
    (h : ∀ v' w', Owned w' base v' (xs ++ ys) → Below base w w' → w.heap.size ≤ w'.heap.size → wpList Tryz.prog ops Q rest (a.put o.dst v') w') : wpList Tryz.prog ops Q (o :: rest) a w :=
  wpList_plain hgd fun _ hK => wp_append_texts w s x ho base v xs ys hs hown ao n c hx hn hL hlen hbase fun v' w' h1 h2 h3 => hK _ _ (h v' w' h1 h2 h3)
theorem step_append_texts {ops : Array Oper} {o : Oper} {a : Act} {K : Act → World → Prop} {Q : Exit → Act → World → Prop} {E : Prop} (w : World) (hgd : o.guard = none) (s x : Operand)
    (ho : o.op = .call { callee := .builtin .append, args := #[s, x], argTypes := #[36, 36] }) (base : Nat) (v : Value) (xs ys : List ByteArray) (hs : a.eval s = v) (hown : Owned w base v xs) (ao : Option Addr) (n c : Nat) (hx : a.eval x = .slice ao n c) (hn : ys.length = n)
    (hL : SliceOf w ao c ys) (hlen : xs.length + ys.length < 2147483648) (hbase : base ≤ w.heap.size)
    (h : ∀ v' w', Owned w' base v' (xs ++ ys) → Below base w w' → w.heap.size ≤ w'.heap.size → K (a.put o.dst v') w') :
    if Region.wanted o (yielded ops a.tmps) = true then Oper.wp Tryz.prog o a w K Q else E := by
  rw [if_pos (by simp [Region.wanted, hgd])]
  exact wp_append_texts w s x ho base v xs ys hs hown ao n c hx hn hL hlen hbase h
theorem SliceOf.take {W : World} {ao : Option Addr} {c : Nat} {xs : List ByteArray} (h : SliceOf W ao c xs) (k : Nat) : SliceOf W ao c (xs.take k) := by
  rcases h with rfl | ⟨bk, o, h1, h2, h3, h4⟩
  · exact .inl (by simp)
  · refine .inr ⟨bk, o, h1, by rw [List.length_take]; omega, h3, fun j z hz => h4 j z ?_⟩
    rw [List.getElem?_take] at hz
    split at hz
    · exact hz
    · cases hz
theorem SliceOf.drop {W : World} {ao : Option Addr} {c : Nat} {xs : List ByteArray} (h : SliceOf W ao c xs) (k : Nat) (hk : k ≤ xs.length) : SliceOf W (if c = k then ao else ao.map (·.add k)) (c - k) (xs.drop k) := by
  rcases h with rfl | ⟨bk, o, rfl, h2, h3, h4⟩
  · exact .inl (by simp)
  · by_cases e : k = xs.length
    · subst e; exact .inl (by simp)
    · rw [if_neg (by omega)]
      refine .inr ⟨bk, o + k, by simp [Addr.add_mid], by rw [List.length_drop]; omega, h3, fun j z hz => ?_⟩
      rw [List.getElem?_drop] at hz
      rw [Nat.add_assoc]
      exact h4 _ z hz
theorem one_slice (w : World) (x : ByteArray) : SliceOf (w.alloc (.cells #[.string x] 9)) (some ⟨w.heap.size, 0, none⟩) 1 [x] := by
  refine .inr ⟨w.heap.size, 0, rfl, Nat.le_refl _, by simp, fun j z hz => ?_⟩
  cases j with
  | zero =>
    obtain rfl : x = z := by simpa using hz
    exact (Boxed.new w 9 (.string x)).cell
  | succ j => simp at hz
theorem text_inj {a b : ByteArray} (h : a.data.toList = b.data.toList) : a = b := ByteArray.ext (Array.toList_inj.1 h)
theorem texts_ne {a b : ByteArray} (h : ¬ a = b) : (a.toList == b.toList) = false := by
  rw [beq_eq_false_iff_ne, ByteArray.toList_eq, ByteArray.toList_eq]
  exact fun e => h (text_inj e)
theorem compact_up {ls : List (List UInt8)} (h : ls.Pairwise (fun a b => a ≤ b)) : (Lib.compact ls).Pairwise (fun a b => a < b) := by
  unfold Lib.compact Lib.compactUpTo
  rw [List.pairwise_map]
  have hr : (List.range ls.length).Pairwise (fun i j => i < j) := List.pairwise_lt_range
  refine List.Pairwise.imp_of_mem ?_ (hr.filter _)
  intro i j hi hj hij
  have hi' : i < ls.length := by simpa using (List.mem_filter.1 hi).1
  have hj' : j < ls.length := by simpa using (List.mem_filter.1 hj).1
  have hk := (List.mem_filter.1 hj).2
  unfold Lib.keeps at hk
  have hne : ls.toArray[j]! ≠ ls.toArray[j - 1]! := by
    rcases of_decide_eq_true hk with h0 | h0
    · omega
    · exact h0
  rw [getElem!_pos _ _ (by simpa using hj'), getElem!_pos _ _ (by simp; omega)] at hne
  rw [getElem!_pos _ _ (by simpa using hi'), getElem!_pos _ _ (by simpa using hj')]
  simp only [List.getElem_toArray] at hne ⊢
  have h1 : ls[j - 1] ≤ ls[j] := List.pairwise_iff_getElem.1 h (j - 1) j (by omega) hj' (by omega)
  have h2 : ls[i] ≤ ls[j - 1] := by
    rcases Nat.lt_or_ge i (j - 1) with h3 | h3
    · exact List.pairwise_iff_getElem.1 h i (j - 1) hi' (by omega) h3
    · obtain rfl : i = j - 1 := by omega
      exact List.le_refl _
  have h3 : ls[i] ≤ ls[j] := List.le_trans h2 h1
  rcases List.le_iff_lt_or_eq.1 h3 with h4 | h4
  · exact h4
  · exact absurd (List.le_antisymm h1 (h4 ▸ h2)) (fun e => hne e.symm)
/-- Rising, each once. -/
def Rising (R : List ByteArray) : Prop := R.Pairwise (fun a b => a.data.toList < b.data.toList)
theorem Rising.at {R : List ByteArray} (h : Rising R) {i j : Nat} (hij : i < j) (hj : j < R.length) : R[i].data.toList < R[j].data.toList := List.pairwise_iff_getElem.1 h i j (by omega) hj hij
theorem Rising.ins {R : List ByteArray} {x : ByteArray} {k : Nat} (h : Rising R) (hk : k ≤ R.length) (h1 : ∀ j (hj : j < R.length), j < k → R[j].data.toList < x.data.toList) (h2 : ∀ hk : k < R.length, x.data.toList < R[k].data.toList) :
    Rising (R.take k ++ [x] ++ R.drop k) := by
  have h0 : Rising (R.take k ++ R.drop k) := by rwa [List.take_append_drop]
  obtain ⟨p1, p2, p3⟩ := List.pairwise_append.1 h0
  refine List.pairwise_append.2 ⟨List.pairwise_append.2 ⟨p1, List.pairwise_singleton _ _, fun a ha b hb => ?_⟩, p2, fun a ha b hb => ?_⟩
  · obtain rfl : b = x := by simpa using hb
    obtain ⟨j, hj, rfl⟩ := List.getElem_of_mem ha
    rw [List.getElem_take]
    exact h1 j (by simp at hj; omega) (by simp at hj; omega)
  · rcases List.mem_append.1 ha with ha | ha
    · exact p3 a ha b hb
    · obtain rfl : a = x := by simpa using ha
      obtain ⟨j, hj, rfl⟩ := List.getElem_of_mem hb
      rw [List.getElem_drop]
      have hj' : k + j < R.length := by simp at hj; omega
      by_cases e : j = 0
      · subst e; exact h2 (by omega)
      · exact List.lt_trans (h2 (by omega)) (h.at (by omega) hj')
theorem Rising.eq {R S : List ByteArray} (hR : Rising R) (hS : Rising S) (h : ∀ x, x ∈ R ↔ x ∈ S) : R = S := by
  have nd : ∀ {L : List ByteArray}, Rising L → L.Nodup := fun hL => hL.imp fun h e => by rw [e] at h; exact List.lt_irrefl _ h
  have hp : R.Perm S := (List.perm_ext_iff_of_nodup (nd hR) (nd hS)).2 h
  refine List.Perm.eq_of_pairwise (le := fun a b : ByteArray => a.data.toList < b.data.toList) (fun a b _ _ h1 h2 => ?_) hR hS hp
  exact absurd (List.lt_trans h1 h2) (List.lt_irrefl _)
theorem mem_ins {R : List ByteArray} {x : ByteArray} (k : Nat) (y : ByteArray) : y ∈ R.take k ++ [x] ++ R.drop k ↔ y ∈ R ∨ y = x := by
  have : y ∈ R ↔ y ∈ R.take k ∨ y ∈ R.drop k := by rw [← List.mem_append, List.take_append_drop]
  rw [List.mem_append, List.mem_append, this]
  simp only [List.mem_singleton]
  constructor
  · rintro ((h | h) | h)
    · exact .inl (.inl h)
    · exact .inr h
    · exact .inl (.inr h)
  · rintro ((h | h) | h)
    · exact .inl (.inl h)
    · exact .inr h
    · exact .inl (.inr h)
theorem mem_next {xs : List ByteArray} {i : Nat} (h : i < xs.length) (y : ByteArray) : y ∈ xs.take (i + 1) ↔ y ∈ xs.take i ∨ y = xs[i] := by
  rw [List.take_succ_eq_append_getElem h, List.mem_append, List.mem_singleton]
theorem sliceCap {W : World} {B : Nat} {ao : Option Addr} {n c : Nat} {xs : List ByteArray} (h : Owned W B (.slice ao n c) xs) : xs.length ≤ c := by
  rcases h.2 with ⟨e, h0⟩ | ⟨g, cap, cur, e, _, _, hn, _⟩
  · omega
  · simp only [Value.slice.injEq] at e
    omega
theorem Owned.base {W : World} {B B' : Nat} {v : Value} {xs : List ByteArray} (h : Owned W B v xs) (hb : B' ≤ B) : Owned W B' v xs :=
  ⟨h.1, h.2.imp id fun ⟨g, cap, cur, h1, h2, h3⟩ => ⟨g, cap, cur, h1, Nat.le_trans hb h2, h3⟩⟩
theorem less_no {a b : ByteArray} (h : ¬ a.data.toList < b.data.toList) : Op.bytesLess a.toList b.toList = false := by
  rw [ByteArray.toList_eq, ByteArray.toList_eq, bytesLess_eq]; exact decide_eq_false h
theorem less_yes {a b : ByteArray} (h : a.data.toList < b.data.toList) : Op.bytesLess a.toList b.toList = true := by
  rw [ByteArray.toList_eq, ByteArray.toList_eq, bytesLess_eq]; exact decide_eq_true h
theorem less_next {a b : ByteArray} (h : ¬ a.data.toList < b.data.toList) (hne : ¬ a = b) : b.data.toList < a.data.toList := by
  rcases List.le_iff_lt_or_eq.1 (List.not_lt.1 h) with h1 | h1
  · exact h1
  · exact absurd (text_inj h1).symm hne
end Tx
end Go.Proofs.YtpjjofdphlgeiaaGreatDoor
