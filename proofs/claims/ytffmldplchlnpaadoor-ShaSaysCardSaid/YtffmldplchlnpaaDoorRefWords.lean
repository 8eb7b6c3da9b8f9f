/- Words in a row of the call's own; the reference's table. No conditions. -/
import Derived.Test.YtffmldplchlnpaaDoorManysLaw
namespace Go.Proofs.YtffmldplchlnpaaDoor
open Go.RowKit

theorem info_word : (Tryd.prog.info? 53).map (fun i => (i.zero, i.size, i.bytes)) = some (some (.int .u32 0), 1, 4) := by kernel_rfl
theorem word_parts : ∃ i, Tryd.prog.info? 53 = some i ∧ i.zero = some (.int .u32 0) ∧ i.size = 1 ∧ i.bytes = 4 := by
  have h := info_word
  cases e : Tryd.prog.info? 53 with
  | none => rw [e] at h; cases h
  | some i =>
    rw [e] at h
    simp only [Option.map_some, Option.some.injEq, Prod.mk.injEq] at h
    exact ⟨i, rfl, h.1, h.2.1, h.2.2⟩
theorem make_words (kl kc : IntKind) (l c : Nat) (hlc : l ≤ c) (hc : c < 2147483648) (L C : Int) (hL : L = l) (hC : C = c) (w : World) :
    (Instr.makeSlice 51 (.int kl L) (.int kc C)).run Tryd.prog w = .ok (.slice (some ⟨w.heap.size, 0, none⟩) l c) (w.alloc (.cells (wcells (List.replicate c 0#32)) 53)) := by
  obtain ⟨i, hi, hz, hz1, hz2⟩ := word_parts
  subst hL hC
  have h := run_make (P := Tryd.prog) w 51 53 i (.int .u32 0) Tryd.underlying51 hi hz kl kc l c (by omega) (by omega) (by rw [hz2]; omega) (by omega)
  rw [h]
  simp only [Int.toNat_natCast, hz1, Nat.mul_one]
  have e : madeCells (Value.int IntKind.u32 0).cells c = wcells (List.replicate c 0#32) := by
    apply Array.ext
    · simp [madeCells, wcells]
    · intro i h1 h2
      simp [madeCells, wcells, Value.cells, wv, Nat.mod_one]
  rw [e]
/-- A list of words of the call's own, from block B on. -/
def OwnW (W : World) (B : Nat) (v : Value) (ws : List W32) : Prop := W.ownsRow B 53 1 v ws.length (ws.map fun x => Value.int .u32 (wv x))
theorem ownW_made (w : World) (B c : Nat) (hc : c < 2147483648) (hB : B ≤ w.heap.size) : OwnW (w.alloc (.cells (wcells (List.replicate c 0#32)) 53)) B (.slice (some ⟨w.heap.size, 0, none⟩) 0 c) [] :=
  ⟨rfl, .inr ⟨w.heap.size, c, wcells (List.replicate c 0#32), rfl, hB, heap_alloc_new _ _, Nat.zero_le _, by unfold maxLen; omega, by simp [wcells], by simp⟩⟩
theorem OwnW.at {W : World} {B : Nat} {v : Value} {ws : List W32} (h : OwnW W B v ws) (hp : 0 < ws.length) : ∃ g cap, v = .slice (some ⟨g, 0, none⟩) ws.length cap ∧ ws.length ≤ cap ∧ B ≤ g ∧ g < W.heap.size ∧ ∀ j, j < ws.length → W.cell? ⟨g, j, none⟩ = some (.int .u32 (wv (ws.getD j 0))) := by
  rcases h.2 with ⟨_, h0⟩ | ⟨g, cap, cur, rfl, hB, hg, hc, _, hs, ht⟩
  · omega
  · refine ⟨g, cap, rfl, hc, hB, (Array.getElem?_eq_some_iff.1 hg).1, fun j hj => ?_⟩
    rw [cell_of_row W g j _ _ _ hg]
    have h1 : (ws.map fun x => Value.int .u32 (wv x))[j]? = some (.int .u32 (wv (ws.getD j 0))) := by simp [List.getElem?_eq_getElem hj]
    rw [← ht, List.getElem?_take] at h1
    split at h1
    · simpa using h1
    · cases h1
theorem word_one (xs : List W32) : ∀ v ∈ xs.map (fun x => Value.int .u32 (wv x)), v.oneCell' = true := by
  intro v hv
  obtain ⟨x, _, rfl⟩ := List.mem_map.1 hv
  rfl
theorem append_words {ops : Array Oper} {rest : List Oper} {o : Oper} {a : Act} {Q : Exit → Act → World → Prop} (w : World) (hgd : o.guard = none) (s x : Operand)
    (ho : o.op = .call { callee := .builtin .append, args := #[s, x], argTypes := #[51, 51] }) (base : Nat) (v : Value) (xs ys : List W32) (hs : a.eval s = v) (hown : OwnW w base v xs) (bk off m c : Nat) (hx : a.eval x = .slice (some ⟨bk, off, none⟩) m c) (hm : ys.length = m)
    (hc : ∀ j, j < ys.length → w.cell? ⟨bk, off + j, none⟩ = some (.int .u32 (wv (ys.getD j 0)))) (hlen : xs.length + ys.length < 268435456) (hbase : base ≤ w.heap.size)
    (h : ∀ v' w', OwnW w' base v' (xs ++ ys) → Below base w w' → wpList Tryd.prog ops Q rest (a.put o.dst v') w') : wpList Tryd.prog ops Q (o :: rest) a w := by
  refine wpList_plain hgd fun K hK => ?_
  subst hm
  obtain ⟨i, hi, hz, hz1, hz2⟩ := word_parts
  obtain ⟨v', w', hr, h1, h2, _⟩ := run_append_own (P := Tryd.prog) w base 51 o.type 53 i (.int .u32 0) 1 4 Tryd.underlying51 hi hz hz1 hz2 rfl (by decide) v xs.length (xs.map fun x => Value.int .u32 (wv x)) hown ⟨bk, off, none⟩ ys.length c (ys.map fun x => Value.int .u32 (wv x)) (by simp)
    (fun j u hu => by
      rw [List.getElem?_map] at hu
      obtain ⟨x, hx, rfl⟩ := Option.map_eq_some_iff.1 hu
      have hj := (List.getElem?_eq_some_iff.1 hx).1
      rw [Addr.add_mid]
      have := hc j hj
      rwa [List.getD_eq_getElem?_getD, hx] at this) (word_one _) (by unfold maxLen; omega) (by omega) hbase
  unfold Oper.wp execOp
  simp only [ho, resolve, invoke, builtin, Sem.run_bind, Sem.run_pure, Result.andThen_ok, List.map_toArray, List.map_cons, List.map_nil, hs, hx, hr]
  refine hK _ _ (h v' w' ?_ ⟨h2.os, h2.tape, h2.output, h2.size, fun k hk => h2.block k (by omega) (fun e => ?_)⟩)
  · unfold OwnW; rw [List.length_append, List.map_append]; exact h1
  · have := (hown.lt k e.symm).1
    omega

set_option maxRecDepth 100000 in
theorem table_any (w : World) : Calls Tryd.prog 22 #[] w fun e w' => e = .returned (.slice (some ⟨w.heap.size, 0, none⟩) 64 64) ∧ w' = w.alloc (.cells (wcells kTab) 53) := by
  go_enter Tryd.func22, Tryd.ntmps22
  go_wp2
  go_ret
  exact ⟨rfl, by congr 1⟩

/-- The eight bytes of a text's length in bits. -/
def tail8 (n : Nat) : List UInt8 := [byteN n 56, byteN n 48, byteN n 40, byteN n 32, byteN n 24, byteN n 16, byteN n 8, byteN n 0]
theorem byteN_high (n s : Nat) : byteN (n / 4294967296) s = byteN n (32 + s) := by
  unfold byteN
  rw [Nat.div_div_eq_div_mul, Nat.pow_add]
theorem padF_tail (n : Nat) : padF n = 128 :: (List.replicate (noughts n) 0 ++ tail8 (n * 8)) := by
  rw [padF, words4, words4, byteN_high, byteN_high, byteN_high, byteN_high]
  rfl
theorem whole_tail (m : List UInt8) : whole m = m ++ [128] ++ List.replicate (noughts m.length) 0 ++ tail8 (m.length * 8) := by
  rw [whole, padF_tail]
  simp
theorem one_at (a : UInt8) (w : World) (t : TypeId) : At (w.alloc (.cells #[bval a] t)) w.heap.size 0 [a] := fun j x hx => by
  rw [cell_of_row _ w.heap.size (0 + j) _ _ _ (heap_alloc_new _ _), Nat.zero_add]
  match j, hx with
  | 0, hx =>
    obtain rfl : a = x := by simpa using hx
    rfl
  | j + 1, hx => simp at hx
theorem tail8_snoc (n t : Nat) (ht : t < 8) : (tail8 n).take (t + 1) = (tail8 n).take t ++ [byteN n (8 * (7 - t))] := by
  match t, ht with
  | 0, _ => rfl
  | 1, _ => rfl
  | 2, _ => rfl
  | 3, _ => rfl
  | 4, _ => rfl
  | 5, _ => rfl
  | 6, _ => rfl
  | 7, _ => rfl
theorem wcells_lit : wcells h0 = #[.int .u32 1779033703, .int .u32 3144134277, .int .u32 1013904242, .int .u32 2773480762, .int .u32 1359893119, .int .u32 2600822924, .int .u32 528734635, .int .u32 1541459225] := by rfl
end Go.Proofs.YtffmldplchlnpaaDoor
