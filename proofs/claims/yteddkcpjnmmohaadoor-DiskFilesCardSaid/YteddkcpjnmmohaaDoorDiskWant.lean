/- What the law's end needs: the names that are there, an append of a text. No conditions. -/
import Derived.Test.YteddkcpjnmmohaaDoorDiskSame
import Derived.Test.YteddkcpjnmmohaaDoorDiskDump
namespace Go.Proofs.YteddkcpjnmmohaaDoor
open Go.RowKit Go.Maps Go.Sort

theorem append_txt {P : Program} {ops : Array Oper} {rest : List Oper} {o : Oper} {a : Act} {Q : Exit → Act → World → Prop} {W1 : World} (w : World) (hgd : o.guard = none) (s x : Operand) (t : TypeId)
    (ho : o.op = .call { callee := .builtin .append, args := #[s, x], argTypes := #[t, t] }) (base : Nat) (e : TypeId) (i : TypeInfo) (z : Value) (bytes : Nat) (ht : P.underlying t = some (.slice e)) (hi : P.info? e = some i) (hz : i.zero = some z)
    (hsize : i.size = 1) (hby : i.bytes = bytes) (hzs : z.cells.size = 1) (v : Value) (n : Nat) (xs : List Value) (hs : a.eval s = v) (hown : w.ownsRow base e 1 v n xs) (u : Value) (hW : W1 = w.alloc (.cells #[u] e))
    (hx : a.eval x = .slice (some ⟨w.heap.size, 0, none⟩) 1 1) (h1 : u.oneCell' = true) (hbytes : (n + 1) * bytes ≤ 140737488355328) (h63 : n + 1 ≤ maxLen) (hbase : base ≤ w.heap.size)
    (h : ∀ v' w', w'.ownsRow base e 1 v' (n + 1) (xs ++ [u]) → Below base w w' → wpList P ops Q rest (a.put o.dst v') w') :
    wpList P ops Q (o :: rest) a W1 := by
  subst hW
  have hr : (w.alloc (.cells #[u] e)).heap[w.heap.size]? = some (.cells #[u] e (0, 0)) := heap_alloc_new _ _
  refine wpList_append_own (w.alloc (.cells #[u] e)) hgd s x t ho base e i z 1 bytes ht hi hz hsize hby hzs (by decide) v n xs hs (hown.alloc _) ⟨w.heap.size, 0, none⟩ 1 1 [u] hx rfl ?_ (fun y hy => by simp at hy; subst hy; exact h1) h63 hbytes (by simp; omega) ?_
  · intro j y hy
    rw [Go.WideShapes.add_plain]
    match j, hy with
    | 0, hy => obtain rfl : u = y := by simpa using hy
               exact cell_of_row _ _ 0 _ _ _ hr
    | j + 1, hy => simp at hy
  intro v' w' hown' hg _
  exact h v' w' hown' (((Below.refl base w).alloc hbase _).grown hg (by simp; omega) fun k hk => (hown.lt k hk).1)
theorem info_str : (Tryd.prog.info? 9).map (fun i => (i.zero, i.size, i.bytes)) = some (some (.string ⟨#[]⟩), 1, 16) := by kernel_rfl
/-- The names that are there, of the first j. -/
def wantN (hv : Nat → Bool) : Nat → List ByteArray | 0 => [] | j + 1 => wantN hv j ++ (if hv j then [nm j] else [])
theorem wantN_le (hv : Nat → Bool) (j : Nat) : (wantN hv j).length ≤ j := by
  induction j with
  | zero => exact Nat.zero_le _
  | succ j ih => rw [wantN, List.length_append]; split <;> simp <;> omega
def KN (hv : Nat → Bool) : List (List UInt8) := (if hv 0 then [[97]] else []) ++ (if hv 1 then [[98, 47, 99]] else []) ++ (if hv 2 then [[100]] else [])
theorem KN_sort (hv : Nat → Bool) : (KN hv).mergeSort leB = KN hv := by
  refine List.mergeSort_of_pairwise ?_
  unfold KN
  cases hv 0 <;> cases hv 1 <;> cases hv 2 <;> decide
theorem KN_want (hv : Nat → Bool) : ((KN hv).mergeSort leB).map encStr = (wantN hv 3).map Value.string := by
  rw [KN_sort]
  unfold KN wantN wantN wantN wantN
  cases hv 0 <;> cases hv 1 <;> cases hv 2 <;> rfl
theorem KN_len (hv : Nat → Bool) : (KN hv).length = (wantN hv 3).length := by
  unfold KN wantN wantN wantN wantN
  cases hv 0 <;> cases hv 1 <;> cases hv 2 <;> rfl
theorem KN_nodup (hv : Nat → Bool) : (KN hv).Nodup := by
  unfold KN
  cases hv 0 <;> cases hv 1 <;> cases hv 2 <;> decide
theorem KN_short (hv : Nat → Bool) : (∀ x ∈ KN hv, x.length ≤ 1000) ∧ (KN hv).length ≤ 1000 := by
  unfold KN
  cases hv 0 <;> cases hv 1 <;> cases hv 2 <;> simp
theorem ba_eq (x y : List UInt8) : (⟨x.toArray⟩ : ByteArray) = ⟨y.toArray⟩ ↔ x = y := ⟨fun h => by have := congrArg (fun b : ByteArray => b.data.toList) h; simpa using this, fun h => by rw [h]⟩
theorem KN_mem (hv : Nat → Bool) (tx : Nat → ByteArray) (x : List UInt8) : x ∈ KN hv ↔ (filesF hv tx ⟨x.toArray⟩).isSome = true := by
  have e0 : ((⟨x.toArray⟩ : ByteArray) = nm 0) ↔ x = [97] := ba_eq x [97]
  have e1 : ((⟨x.toArray⟩ : ByteArray) = nm 1) ↔ x = [98, 47, 99] := ba_eq x [98, 47, 99]
  have e2 : ((⟨x.toArray⟩ : ByteArray) = nm 2) ↔ x = [100] := ba_eq x [100]
  unfold filesF optF KN
  simp only [e0, e1, e2]
  by_cases h0 : x = [97]
  · subst h0; cases hv 0 <;> cases hv 1 <;> cases hv 2 <;> simp
  · by_cases h1 : x = [98, 47, 99]
    · subst h1; cases hv 0 <;> cases hv 1 <;> cases hv 2 <;> simp
    · by_cases h2 : x = [100]
      · subst h2; cases hv 0 <;> cases hv 1 <;> cases hv 2 <;> simp
      · cases hv 0 <;> cases hv 1 <;> cases hv 2 <;> simp [h0, h1, h2]
theorem filesF_cont (hv : Nat → Bool) (tx : Nat → ByteArray) (key : ByteArray) : ∃ s b, (filesF hv tx key).getD cont0 = cont s b := by
  unfold filesF optF
  split
  · split
    · exact ⟨_, _, rfl⟩
    · exact ⟨_, _, rfl⟩
  · split
    · split
      · exact ⟨_, _, rfl⟩
      · exact ⟨_, _, rfl⟩
    · split
      · split
        · exact ⟨_, _, rfl⟩
        · exact ⟨_, _, rfl⟩
      · exact ⟨_, _, rfl⟩
theorem filesF_no (hv : Nat → Bool) (tx : Nat → ByteArray) (key : ByteArray) (h0 : key ≠ nm 0) (h1 : key ≠ nm 1) (h2 : key ≠ nm 2) : (filesF hv tx key).getD cont0 = cont ⟨#[]⟩ false := by
  unfold filesF
  rw [if_neg h0, if_neg h1, if_neg h2]
  rfl
end Go.Proofs.YteddkcpjnmmohaaDoor
