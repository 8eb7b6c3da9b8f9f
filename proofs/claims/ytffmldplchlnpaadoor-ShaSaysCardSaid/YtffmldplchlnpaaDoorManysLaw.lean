/- smithylaw2.ShaManys answers true at every list of texts. Conditions: the package's tables are as its text lays them. -/
import Derived.Test.YtffmldplchlnpaaDoorMany
import Derived.Lib.AppendStr
namespace Go.Proofs.YtffmldplchlnpaaDoor
open Go.RowKit

theorem small_at (n : Nat) (hn : n ≤ 100) (w : World) (t : TypeId) : At (w.alloc (.cells #[.int .u8 0, .int .u8 0, .int .u8 0, .int .u8 (n : Int)] t)) w.heap.size 0 (words4 n) := fun j x hx => by
  rw [cell_of_row _ w.heap.size (0 + j) _ _ _ (heap_alloc_new _ _), Nat.zero_add]
  rw [words4] at hx
  match j, hx with
  | 0, hx =>
    obtain rfl : byteN n 24 = x := by simpa using hx
    rw [bval_byteN, show ((n / 2 ^ 24 % 256 : Nat) : Int) = 0 by omega]
    rfl
  | 1, hx =>
    obtain rfl : byteN n 16 = x := by simpa using hx
    rw [bval_byteN, show ((n / 2 ^ 16 % 256 : Nat) : Int) = 0 by omega]
    rfl
  | 2, hx =>
    obtain rfl : byteN n 8 = x := by simpa using hx
    rw [bval_byteN, show ((n / 2 ^ 8 % 256 : Nat) : Int) = 0 by omega]
    rfl
  | 3, hx =>
    obtain rfl : byteN n 0 = x := by simpa using hx
    rw [bval_byteN, show ((n / 2 ^ 0 % 256 : Nat) : Int) = n by omega]
    rfl
  | j + 4, hx => simp at hx
theorem app_text_run (w : World) (base : Nat) (ty : TypeId) (v : Value) (xs : List UInt8) (s : ByteArray) (hown : OwnB w base v xs) (hlen : xs.length + s.size < 2147483648) (hbase : base ≤ w.heap.size) :
    ∃ v' w', (Builtin.append_ #[22, 9] ty #[v, .string s]).run Tryd.prog w = .ok v' w' ∧ OwnB w' base v' (xs ++ s.data.toList) ∧ Below base w w' := by
  obtain ⟨i, hi, hz, hz1, hz2⟩ := byte_parts
  obtain ⟨v', w', hr, h1, h2, _⟩ := Lib.run_append_own_string (P := Tryd.prog) w base 22 9 ty 5 i Tryd.underlying22 Tryd.underlying9 hi hz hz1 hz2 v xs.length (xs.map bval) hown s (by unfold maxLen; omega) (by omega) hbase
  refine ⟨v', w', hr, ?_, ⟨h2.os, h2.tape, h2.output, h2.size, fun k hk => h2.block k (by omega) (fun e => ?_)⟩⟩
  · unfold OwnB
    rw [List.length_append, List.map_append, Array.length_toList]
    exact h1
  · have := (hown.lt k e.symm).1
    omega
theorem append_text {ops : Array Oper} {rest : List Oper} {o : Oper} {a : Act} {Q : Exit → Act → World → Prop} (w : World) (hgd : o.guard = none) (s x : Operand)
    (ho : o.op = .call { callee := .builtin .append, args := #[s, x], argTypes := #[22, 9] }) (base : Nat) (v : Value) (xs : List UInt8) (str : ByteArray) (hs : a.eval s = v) (hown : OwnB w base v xs) (hx : a.eval x = .string str)
    (hlen : xs.length + str.size < 2147483648) (hbase : base ≤ w.heap.size)
    (h : ∀ v' w', OwnB w' base v' (xs ++ str.data.toList) → Below base w w' → wpList Tryd.prog ops Q rest (a.put o.dst v') w') : wpList Tryd.prog ops Q (o :: rest) a w := by
  refine wpList_plain hgd fun K hK => ?_
  obtain ⟨v', w', hr, h1, h2⟩ := app_text_run w base o.type v xs str hown hlen hbase
  unfold Oper.wp execOp
  simp only [ho, resolve, invoke, builtin, Sem.run_bind, Sem.run_pure, Result.andThen_ok, List.map_toArray, List.map_cons, List.map_nil, hs, hx, hr]
  exact hK _ _ (h v' w' h1 h2)
theorem manyT_small (xs : List ByteArray) (b : Nat) : ∀ t, t ≤ xs.length → (∀ j (hj : j < xs.length), j < t → xs[j].size ≤ b) → (manyT (xs.take t)).length ≤ (4 + b) * t := by
  intro t
  induction t with
  | zero => intro _ _; simp [manyT]
  | succ t ih =>
    intro ht h
    have h1 := ih (by omega) fun j hj hjt => h j hj (by omega)
    have h2 := h t (by omega) (by omega)
    rw [manyT_snoc xs t (by omega), List.length_append, List.length_append, words4_len]
    have h3 : xs[t].data.toList.length = xs[t].size := Array.length_toList
    rw [Nat.mul_succ]
    generalize (4 + b) * t = q at h1 ⊢
    omega

set_option maxHeartbeats 1600000 in
theorem ShaManys_any (ao : Option Addr) (cap : Nat) (xs : List ByteArray) (w : World) (hX : TextsAt w ao xs) (hT : Tabs w) (h1 : 2 < w.heap.size) :
    Calls Tryd.prog 5 #[.slice ao xs.length cap] w fun e w' => e = .returned (.bool true) ∧ Below w.heap.size w w' := by
  have HX := hidden hX
  have HT := hidden hT
  have hex := hidden (example_any w hT h1)
  obtain ⟨l, hl⟩ : ∃ l, xs.length = l := ⟨_, rfl⟩
  have HL := hidden hl
  rw [hl]
  clear hX hT hl
  by_cases h20 : 20 < l
  · go_enter Tryd.func5, Tryd.ntmps5
    go_wp2_with (go_at_call 6; refine hex.out.mono ?_; rintro e w1 ⟨rfl, hb1⟩)
    go_ret
    exact ⟨rfl, hb1⟩
  · go_enter Tryd.func5, Tryd.ntmps5
    go_wp2_with (go_at_call 6; refine hex.out.mono ?_; rintro e w1 ⟨rfl, hb1⟩)
    have HB1 := hidden hb1
    have hs1 := hb1.size
    clear hb1
    go_loopw [4, 5] (fun v i wr => ∃ t : Nat, t ≤ l ∧ i = .int .i64 t ∧ Hid (∀ j (hj : j < xs.length), j < t → xs[j].size ≤ 100) ∧ Hid (OwnB wr w.heap.size v (manyT (xs.take t))) ∧ Hid (Below w.heap.size w wr)) (fun _ i _ => l - (intOf i).toNat)
    case atStart => exact ⟨0, Nat.zero_le _, rfl, fun j hj h => absurd h (by omega), ownB_nil _ _, HB1⟩
    case round =>
      clear HB1
      obtain ⟨t, ht, rfl, hsm, ho, hb⟩ := hrel
      by_cases hlt : t < l
      · have hlt' : t < xs.length := by have := HL.out; omega
        rcases HX.out with h0 | ⟨bk, o, rfl, hbk, hcell⟩
        · rw [h0] at hlt'; exact absurd hlt' (by simp)
        · have hc0 : wr.cell? ⟨bk, o + t, none⟩ = some (.string xs[t]) := (hb.out.cell (p := ⟨bk, o + t, none⟩) hbk).trans (hcell t _ (List.getElem?_eq_getElem hlt'))
          have hsn := manyT_snoc xs t hlt'
          obtain ⟨x, hx⟩ : ∃ x, xs[t] = x := ⟨_, rfl⟩
          rw [hx] at hc0 hsn
          have HSN := hidden hsn
          have HXE := hidden hx
          clear hcell hsn hx
          by_cases h100 : 100 < x.size
          · have hbr := hidden hb.out
            go_wp2
            go_ret
            exact ⟨rfl, hb.out⟩
          · have hle := manyT_small xs 100 t (by have := HL.out; omega) hsm.out
            have hmt : (manyT (xs.take t)).length < 3000 := by omega
            have hbs := hb.out.size
            have hA := hidden (small_at x.size (by omega) wr 5)
            have hO := hidden (ho.out.of_eq (W' := wr.alloc (.cells #[.int .u8 0, .int .u8 0, .int .u8 0, .int .u8 (x.size : Int)] 5)) fun k _ hk => Below.heap_alloc wr _ k hk)
            have HMT := hidden hmt
            clear hle hmt
            have hxl : (words4 x.size).length = 4 := rfl
            go_wp2_with (first | (at_builtin; refine append_bytes (wr.alloc (.cells #[.int .u8 0, .int .u8 0, .int .u8 0, .int .u8 (x.size : Int)] 5)) rfl (.tmp 29) (.tmp 36) rfl w.heap.size _ (manyT (xs.take t)) (words4 x.size) rfl hO.out wr.heap.size 0 4 4 rfl (words4_len _) hA.out (by have := HMT.out; rw [words4_len]; omega) (by simp; omega) ?_; intro v2 w2 h2 hb2; have hb3 := ((Below.refl w.heap.size wr).alloc hbs _).trans hb2; have hc2 := (hb3.cell (p := ⟨bk, o + t, none⟩) hbk).trans hc0; have H2 := hidden h2; have HB3 := hidden hb3; clear h2 hb2 hb3) | (at_builtin; refine append_text w2 rfl (.tmp 38) (.tmp 42) rfl w.heap.size v2 (manyT (xs.take t) ++ words4 x.size) x rfl H2.out rfl (by have := HMT.out; rw [List.length_append, words4_len]; omega) (by have := HB3.out.size; omega) ?_; intro v3 w3 h3 hb3))
            have h3' : OwnB w3 w.heap.size v3 (manyT (xs.take (t + 1))) := by rw [HSN.out]; exact h3
            have H3 := hidden h3'
            have HB4 := hidden (hb.out.trans (HB3.out.trans hb3))
            have HSM : Hid (∀ j (hj : j < xs.length), j < t + 1 → xs[j].size ≤ 100) := hidden fun j hj hjt => by
              by_cases e : j = t
              · subst e
                rw [HXE.out]
                omega
              · exact hsm.out j hj (by omega)
            clear h3 h3' hb3
            go_roundw
            case rel => exact ⟨t + 1, by omega, by go_num, HSM, H3, HB4⟩
            case measure => simp [intOf]; omega
      · have h32 : Hid (t = l) := hidden (by omega)
        have hta : xs.take t = xs := List.take_of_length_le (by have := HL.out; omega)
        have hle := manyT_small xs 100 t (by have := HL.out; omega) hsm.out
        rw [hta] at ho hle
        obtain ⟨ao2, c2, rfl, hc2, hat⟩ := ho.out.at
        have hmt : (manyT xs).length < 3000 := by omega
        have hbs := hb.out.size
        have hTr := HT.out.below hb.out h1 (by omega)
        have hM := many_any xs ao cap wr (by have := HL.out; omega) (by omega) (HX.out.below hb.out) hTr (by omega)
        rw [HL.out] at hM
        have hO : ∀ w', Below wr.heap.size wr w' → Calls Tryd.prog 10 #[.slice ao2 (manyT xs).length c2] w' fun e w'' => e = .returned (.agg (bcells (digest (manyT xs)))) ∧ Below w'.heap.size w' w'' := fun w' hb' =>
          of_any ao2 c2 (manyT xs) w' hc2 (by omega) (fun hp => by
            obtain ⟨g, e1, _, e3, e4⟩ := hat hp
            exact ⟨g, 0, e1, by have := hb'.size; omega, e4.below hb' e3⟩) (hTr.below hb' (by omega) (by omega)) (by have := hb'.size; omega)
        have hdl := digest_len (manyT xs)
        generalize digest (manyT xs) = dg at hM hO hdl
        have hTX := hidden fun W => text_any dg hdl W
        have HM := hidden hM
        have HO := hidden hO
        clear hle hat hmt hTr hM hO hta
        go_wp2_with (first | (go_at_call 13; refine HM.out.mono ?_; rintro e w2 ⟨rfl, hb2⟩) | (go_at_call 10; refine (HO.out _ (hb2.trans (hb3.mono hb2.size))).mono ?_; rintro e w4 ⟨rfl, hb4⟩; have HOF := hidden ((hb2.trans (hb3.mono hb2.size)).trans (hb4.mono (by have := hb2.size; have := hb3.size; omega)))) | (go_at_call 9; refine (hTX.out _).mono ?_; rintro e w3 ⟨rfl, hb3⟩))
        go_ret
        refine ⟨by simp, (hb.out.trans (HOF.out.mono (by omega))).trans (hb3.mono ?_)⟩
        have := HOF.out.size
        omega
end Go.Proofs.YtffmldplchlnpaaDoor
