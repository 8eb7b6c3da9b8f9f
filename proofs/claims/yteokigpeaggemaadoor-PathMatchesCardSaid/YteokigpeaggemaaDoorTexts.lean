/- What smithyref.Texts and smithyref.AmongTexts answer, and what becomes of an append of texts onto a list of the call's own. Conditions: fewer than 2^31 texts. -/
import Derived.Test.YteokigpeaggemaaDoorGlob
import Derived.OwnWalk
import Derived.Deep.MidRow
namespace Go.Proofs.YteokigpeaggemaaDoor
open Go.RowKit

/-- A list of texts of the call's own, from block B on. -/
def Owned (W : World) (B : Nat) (v : Value) (xs : List ByteArray) : Prop := W.ownsRow B 9 1 v xs.length (xs.map Value.string)
theorem Owned.below {W W' : World} {B : Nat} {v : Value} {xs : List ByteArray} (h : Owned W B v xs) (hb : Below W.heap.size W W') : Owned W' B v xs := owns_below h hb
theorem Owned.slice {W : World} {B : Nat} {v : Value} {xs : List ByteArray} (h : Owned W B v xs) : ∃ ao cap, v = .slice ao xs.length cap ∧ SliceOf W ao cap xs := sliceOf_owns h

theorem nil_onto {w : World} {base : Nat} {v : Value} {xs : List ByteArray} (hown : Owned w base v xs) (ty : TypeId) (c : Nat) : (Builtin.append_ #[22, 22] ty #[v, .slice none 0 c]).run Tryd.prog w = .ok v w := by
  obtain ⟨i0, hi, _⟩ := info_parts info_text
  have ht := Tryd.underlying22
  rcases hown.2 with ⟨rfl, h0⟩ | ⟨g, cap, cur, rfl, hB, hg, hnc, hm⟩
  · simp [Builtin.append_, run_underlying ht, Builtin.lenOf, Builtin.firstCells, sizeOf, typeInfo, hi]
  · simp [Builtin.append_, run_underlying ht, Builtin.lenOf, Builtin.firstCells, sizeOf, typeInfo, hi, storeCells, hnc]

theorem wp_append_texts {o : Oper} {a : Act} {K : Act → World → Prop} {Q : Exit → Act → World → Prop} (w : World) (s x : Operand)
    (ho : o.op = .call { callee := .builtin .append, args := #[s, x], argTypes := #[22, 22] }) (base : Nat) (v : Value) (xs ys : List ByteArray) (hs : a.eval s = v) (hown : Owned w base v xs) (ao : Option Addr) (n c : Nat) (hx : a.eval x = .slice ao n c) (hn : ys.length = n)
    (hL : SliceOf w ao c ys) (hlen : xs.length + ys.length < 2147483648) (hbase : base ≤ w.heap.size)
    (h : ∀ v' w', Owned w' base v' (xs ++ ys) → Below base w w' → w.heap.size ≤ w'.heap.size → K (a.put o.dst v') w') : o.wp Tryd.prog a w K Q := by
  subst hn
  obtain ⟨i0, hi, hz0, hz1, hz2⟩ := info_parts info_text
  have main : ∀ (ad : Addr), ao = some ad → (∀ j u, (ys.map Value.string)[j]? = some u → w.cell? (ad.add j) = some u) → o.wp Tryd.prog a w K Q := by
    intro ad e hc
    subst e
    refine wp_append_own w s x 22 ho base 9 i0 (.string ⟨#[]⟩) 1 16 Tryd.underlying22 hi hz0 hz1 hz2 rfl (by decide) v xs.length (xs.map Value.string) hs hown ad ys.length c (ys.map Value.string) hx (by simp) hc (fun u hu => by
      obtain ⟨y, _, rfl⟩ := List.mem_map.1 hu; rfl) (by unfold maxLen; omega) (by omega) hbase ?_
    intro v' w' h1 h2 _
    refine h v' w' ?_ ?_ h2.size
    · unfold Owned; rw [List.length_append, List.map_append]; exact h1
    · refine ⟨h2.os, h2.tape, h2.output, h2.size, fun k hk => h2.block k (by omega) (fun e => ?_)⟩
      have := (hown.lt k e.symm).1
      omega
  rcases hL with rfl | ⟨bk, off, rfl, h2, h3, h4⟩
  · cases ao with
    | none =>
      have hr := nil_onto hown o.type c
      unfold Oper.wp execOp
      simp only [ho, resolve, invoke, builtin, Sem.run_bind, Sem.run_pure, Result.andThen_ok, List.map_toArray, List.map_cons, List.map_nil, hs, hx]
      rw [show ([] : List ByteArray).length = 0 from rfl, hr]
      exact h v w (by simpa using hown) (Below.refl _ _) (Nat.le_refl _)
    | some ad => exact main ad rfl (fun j u hu => by simp at hu)
  · refine main ⟨bk, off, none⟩ rfl fun j u hu => ?_
    rw [List.getElem?_map] at hu
    obtain ⟨y, hy, rfl⟩ := Option.map_eq_some_iff.1 hu
    rw [Addr.add_mid]
    exact h4 j y hy
theorem append_texts {ops : Array Oper} {rest : List Oper} {o : Oper} {a : Act} {Q : Exit → Act → World → Prop} (w : World) (hgd : o.guard = none) (s x : Operand)
    (ho : o.op = .call { callee := .builtin .append, args := #[s, x], argTypes := #[22, 22] }) (base : Nat) (v : Value) (xs ys : List ByteArray) (hs : a.eval s = v) (hown : Owned w base v xs) (ao : Option Addr) (c : Nat) (hx : a.eval x = .slice ao ys.length c)
    (hL : SliceOf w ao c ys) (hlen : xs.length + ys.length < 2147483648) (hbase : base ≤ w.heap.size)
    (h : ∀ v' w', Owned w' base v' (xs ++ ys) → Below base w w' → w.heap.size ≤ w'.heap.size → wpList Tryd.prog ops Q rest (a.put o.dst v') w') : wpList Tryd.prog ops Q (o :: rest) a w :=
  wpList_plain hgd fun _ hK => wp_append_texts w s x ho base v xs ys hs hown ao ys.length c hx rfl hL hlen hbase fun v' w' h1 h2 h3 => hK _ _ (h v' w' h1 h2 h3)
theorem append_texts_n {ops : Array Oper} {rest : List Oper} {o : Oper} {a : Act} {Q : Exit → Act → World → Prop} (w : World) (hgd : o.guard = none) (s x : Operand)
    (ho : o.op = .call { callee := .builtin .append, args := #[s, x], argTypes := #[22, 22] }) (base : Nat) (v : Value) (xs ys : List ByteArray) (hs : a.eval s = v) (hown : Owned w base v xs) (ao : Option Addr) (n c : Nat) (hx : a.eval x = .slice ao n c) (hn : ys.length = n)
    (hL : SliceOf w ao c ys) (hlen : xs.length + ys.length < 2147483648) (hbase : base ≤ w.heap.size)
    (h : ∀ v' w', Owned w' base v' (xs ++ ys) → Below base w w' → w.heap.size ≤ w'.heap.size → wpList Tryd.prog ops Q rest (a.put o.dst v') w') : wpList Tryd.prog ops Q (o :: rest) a w :=
  wpList_plain hgd fun _ hK => wp_append_texts w s x ho base v xs ys hs hown ao n c hx hn hL hlen hbase fun v' w' h1 h2 h3 => hK _ _ (h v' w' h1 h2 h3)
theorem step_append_texts {ops : Array Oper} {o : Oper} {a : Act} {K : Act → World → Prop} {Q : Exit → Act → World → Prop} {E : Prop} (w : World) (hgd : o.guard = none) (s x : Operand)
    (ho : o.op = .call { callee := .builtin .append, args := #[s, x], argTypes := #[22, 22] }) (base : Nat) (v : Value) (xs ys : List ByteArray) (hs : a.eval s = v) (hown : Owned w base v xs) (ao : Option Addr) (n c : Nat) (hx : a.eval x = .slice ao n c) (hn : ys.length = n)
    (hL : SliceOf w ao c ys) (hlen : xs.length + ys.length < 2147483648) (hbase : base ≤ w.heap.size)
    (h : ∀ v' w', Owned w' base v' (xs ++ ys) → Below base w w' → w.heap.size ≤ w'.heap.size → K (a.put o.dst v') w') :
    if Region.wanted o (yielded ops a.tmps) = true then Oper.wp Tryd.prog o a w K Q else E := by
  rw [if_pos (by simp [Region.wanted, hgd])]
  exact wp_append_texts w s x ho base v xs ys hs hown ao n c hx hn hL hlen hbase h
theorem SliceOf.take {W : World} {ao : Option Addr} {c : Nat} {xs : List ByteArray} (h : SliceOf W ao c xs) (k : Nat) : SliceOf W ao c (xs.take k) := by
  rcases h with rfl | ⟨bk, o, h1, h2, h3, h4⟩
  · exact .inl (by simp)
  · refine .inr ⟨bk, o, h1, by rw [List.length_take]; omega, h3, fun j z hz => h4 j z ?_⟩
    rw [List.getElem?_take] at hz
    split at hz
    · exact hz
    · cases hz
theorem SliceOf.drop {W : World} {ao : Option Addr} {c : Nat} {xs : List ByteArray} (h : SliceOf W ao c xs) (k : Nat) (hk : k ≤ xs.length) : SliceOf W (if c = k then ao else ao.map (·.add k)) (c - k) (xs.drop k) := by
  rcases h with rfl | ⟨bk, o, rfl, h2, h3, h4⟩
  · exact .inl (by simp)
  · by_cases e : k = xs.length
    · subst e; exact .inl (by simp)
    · rw [if_neg (by omega)]
      refine .inr ⟨bk, o + k, by simp [Addr.add_mid], by rw [List.length_drop]; omega, h3, fun j z hz => ?_⟩
      rw [List.getElem?_drop] at hz
      rw [Nat.add_assoc]
      exact h4 _ z hz
theorem one_slice (w : World) (x : ByteArray) : SliceOf (w.alloc (.cells #[.string x] 9)) (some ⟨w.heap.size, 0, none⟩) 1 [x] := by
  refine .inr ⟨w.heap.size, 0, rfl, Nat.le_refl _, by simp, fun j z hz => ?_⟩
  cases j with
  | zero =>
    obtain rfl : x = z := by simpa using hz
    exact (Boxed.new w 9 (.string x)).cell
  | succ j => simp at hz

set_option maxHeartbeats 400000 in
theorem Texts_any (ao : Option Addr) (c : Nat) (xs : List ByteArray) (w : World) (hn : xs.length < 1073741824) (hL : SliceOf w ao c xs) :
    Calls Tryd.prog 24 #[.slice ao xs.length c] w fun e w' => ∃ v, e = .returned v ∧ Owned w' w.heap.size v xs ∧ Below w.heap.size w w' := by
  obtain ⟨i0, hi, hz0, hz1, hz2⟩ := info_parts info_text
  have HL := Lib.hid hL
  clear hL
  go_enter Tryd.func24, Tryd.ntmps24
  go_wp2_with (with_reducible refine wpList_make_own w rfl _ _ 22 rfl w.heap.size 9 i0 (.string ⟨#[]⟩) 1 Tryd.underlying22 hi hz0 hz1 .i64 .i64 _ xs.length rfl rfl (by omega) (by rw [hz2]; omega) (by unfold maxLen; omega) (Nat.le_refl _) ?_; intro w1 hown0 hg)
  have hb1 : Below w.heap.size w w1 := ⟨hg.os, hg.tape, hg.output, hg.size, fun k hk => hg.block k hk (by simp)⟩
  have hsz1 := hb1.size
  go_loopw [3, 4] (fun v i wr => ∃ k : Nat, ∃ fs : List ByteArray, k ≤ xs.length ∧ i = .int .i64 k ∧ Hid (fs = xs.take k) ∧ fs.length ≤ k ∧ Owned wr w.heap.size v fs ∧ Below w.heap.size w wr ∧ w.heap.size ≤ wr.heap.size) (fun _ i _ => xs.length - (intOf i).toNat)
  case atStart => exact ⟨0, [], Nat.zero_le _, rfl, Lib.hid rfl, Nat.zero_le _, hown0, hb1, hsz1⟩
  case round =>
    obtain ⟨k, fs, hk, rfl, hfs, hfk, hown, hb, hsz⟩ := hrel
    by_cases hlt : k < xs.length
    · rcases HL.out with h0 | ⟨bk, o, rfl, h2, h3, h4⟩
      · rw [h0] at hlt; exact absurd hlt (by simp)
      · have hcell : wr.cell? ⟨bk, o + k, none⟩ = some (.string xs[k]) := (hb.cell (p := ⟨bk, o + k, none⟩) h3).trans (h4 k _ (List.getElem?_eq_getElem hlt))
        obtain ⟨x, hx⟩ : ∃ x, xs[k] = x := ⟨_, rfl⟩
        rw [hx] at hcell
        have hsn : Hid (fs ++ [x] = xs.take (k + 1)) := Lib.hid (by rw [List.take_succ_eq_append_getElem hlt, hfs.out, hx])
        clear h4 hx
        go_wp2_with (at_builtin; refine append_texts (wr.alloc (.cells #[.string x] 9)) rfl (.tmp 14) (.tmp 19) rfl w.heap.size _ fs [x] rfl (Owned.below hown ((Below.refl _ _).alloc (Nat.le_refl _) _)) _ 1 rfl (one_slice wr x) (by simp; omega) (by simp; omega) ?_; intro v2 w2 hown2 hb2 hsz2)
        go_roundw
        case rel => exact ⟨k + 1, fs ++ [x], by omega, by go_num, hsn, by simp; omega, hown2, (hb.alloc hsz _).trans hb2, by simp at hsz2; omega⟩
        case measure => simp [intOf]; omega
    · obtain rfl : k = xs.length := by omega
      have hfx : fs = xs := by rw [hfs.out, List.take_length]
      subst hfx
      go_wp2
      go_ret
      exact ⟨_, rfl, hown, hb⟩

theorem text_inj {a b : ByteArray} (h : a.data.toList = b.data.toList) : a = b := ByteArray.ext (Array.toList_inj.1 h)
theorem texts_ne {a b : ByteArray} (h : ¬ a = b) : (a.toList == b.toList) = false := by
  rw [beq_eq_false_iff_ne, ByteArray.toList_eq, ByteArray.toList_eq]
  exact fun e => h (text_inj e)
/-- Where a text stands first in a list; -1. -/
def amongI (xs : List ByteArray) (s : ByteArray) : Int := match xs.findIdx? (fun x => x.data.toList == s.data.toList) with | some i => (i : Int) | none => -1
theorem amongI_out {xs : List ByteArray} {s : ByteArray} (h : s ∉ xs) : amongI xs s = -1 := by
  unfold amongI
  rw [List.findIdx?_eq_none_iff.2 fun x hx => by
    rw [beq_eq_false_iff_ne]
    exact fun e => h (text_inj e ▸ hx)]
theorem amongI_in {xs : List ByteArray} {s : ByteArray} (h : s ∈ xs) : 0 ≤ amongI xs s := by
  unfold amongI
  cases e : xs.findIdx? (fun x => x.data.toList == s.data.toList) with
  | some i => simp
  | none =>
    have := List.findIdx?_eq_none_iff.1 e s h
    simp at this
theorem amongI_at {xs : List ByteArray} {s : ByteArray} {k : Nat} (h : k < xs.length) (hs : xs[k] = s) (hno : ∀ j (hj : j < xs.length), j < k → xs[j] ≠ s) : amongI xs s = k := by
  have e : xs.findIdx? (fun x => x.data.toList == s.data.toList) = some k := by
    rw [List.findIdx?_eq_some_iff_getElem]
    refine ⟨h, by rw [hs]; simp, fun j hj => ?_⟩
    have := hno j (by omega) hj
    rw [beq_iff_eq]
    exact fun e => this (text_inj e)
  unfold amongI
  rw [e]

set_option maxHeartbeats 400000 in
theorem Among_any (ao : Option Addr) (c : Nat) (xs : List ByteArray) (s : ByteArray) (w : World) (hn : xs.length < 2147483648) (hL : SliceOf w ao c xs) :
    Calls Tryd.prog 33 #[.slice ao xs.length c, .string s] w fun e w' => e = .returned (.int .i64 (amongI xs s)) ∧ w' = w := by
  have HL := Lib.hid hL
  clear hL
  go_enter Tryd.func33, Tryd.ntmps33
  go_wp2
  go_loop [5] (fun i => ∃ k : Nat, k ≤ xs.length ∧ i = .int .i64 k ∧ Hid (∀ j (hj : j < xs.length), j < k → xs[j] ≠ s)) (fun i => xs.length - (intOf i).toNat)
  case atStart => exact ⟨0, Nat.zero_le _, rfl, Lib.hid fun _ _ h => absurd h (by omega)⟩
  case round =>
    obtain ⟨k, hk, rfl, hno⟩ := hrel
    by_cases hlt : k < xs.length
    · rcases HL.out with h0 | ⟨bk, o, rfl, h2, h3, h4⟩
      · rw [h0] at hlt; exact absurd hlt (by simp)
      · have hcell : w.cell? ⟨bk, o + k, none⟩ = some (.string xs[k]) := h4 k _ (List.getElem?_eq_getElem hlt)
        clear h4
        by_cases he : xs[k] = s
        · have HA := Lib.hid (amongI_at hlt he hno.out)
          rw [he] at hcell
          clear he
          go_wp2
          go_ret
          exact ⟨ret_int HA.out.symm, rfl⟩
        · have hno' : Hid (∀ j (hj : j < xs.length), j < k + 1 → xs[j] ≠ s) := Lib.hid fun j hj hjk => by
            by_cases e : j = k
            · subst e; exact he
            · exact hno.out j hj (by omega)
          have he' := texts_ne he
          clear hno he
          go_wp2
          go_round
          case rel => exact ⟨k + 1, by omega, by go_num, hno'⟩
          case measure => simp [intOf]; omega
    · obtain rfl : k = xs.length := by omega
      have HA := Lib.hid (amongI_out (xs := xs) (s := s) fun hm => by
        obtain ⟨j, hj, e⟩ := List.getElem_of_mem hm
        exact hno.out j hj hj e)
      go_wp2
      go_ret
      exact ⟨ret_int HA.out.symm, rfl⟩

end Go.Proofs.YteokigpeaggemaaDoor
