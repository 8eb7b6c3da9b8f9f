/- smithylaw1.PathSays answers true at every two texts and every list of texts. Conditions: internal/bytealg.MaxLen holds some number, api's errors lie in their variables, each a pointer of its own. -/
import Derived.Test.YteokigpeaggemaaDoorRefJoin
import Derived.Test.YteokigpeaggemaaDoorRefDir
import Derived.Test.YteokigpeaggemaaDoorSeeIs
namespace Go.Proofs.YteokigpeaggemaaDoor
open Go.RowKit

/-- A slice of texts, nil or empty or not. -/
def SliceOf (W : World) (ao : Option Addr) (c : Nat) (xs : List ByteArray) : Prop :=
  xs = [] ∨ ∃ bk o, ao = some ⟨bk, o, none⟩ ∧ xs.length ≤ c ∧ bk < W.heap.size ∧ ∀ (j : Nat) z, xs[j]? = some z → W.cell? ⟨bk, o + j, none⟩ = some (.string z)
theorem SliceOf.below {W W' : World} {ao : Option Addr} {c : Nat} {xs : List ByteArray} (h : SliceOf W ao c xs) (hb : Below W.heap.size W W') : SliceOf W' ao c xs := by
  rcases h with h | ⟨bk, o, h1, h2, h3, h4⟩
  · exact .inl h
  · exact .inr ⟨bk, o, h1, h2, Nat.lt_of_lt_of_le h3 hb.size, fun j z hz => (hb.cell (p := ⟨bk, o + j, none⟩) h3).trans (h4 j z hz)⟩
/-- What holds of every world on the way. -/
structure Ctx (A : Nat → Addr) (ao : Option Addr) (c : Nat) (xs : List ByteArray) (w0 W : World) : Prop where
  ready : Ready (E A 11) W
  sent : Sent A W
  list : SliceOf W ao c xs
  below : Below w0.heap.size w0 W
theorem Ctx.next {A : Nat → Addr} {ao : Option Addr} {c : Nat} {xs : List ByteArray} {w0 W W' : World} (h : Ctx A ao c xs w0 W) (hb : Below W.heap.size W W') : Ctx A ao c xs w0 W' :=
  ⟨h.ready.below hb, h.sent.below hb, h.list.below hb, h.below.trans (hb.mono h.below.size)⟩

theorem glueB_small (xs : List ByteArray) (h : ∀ j (hj : j < xs.length), xs[j].size ≤ 300) : ∀ k, k ≤ xs.length → (glueB (xs.take k)).size ≤ 301 * k := by
  intro k
  induction k with
  | zero => intro _; exact Nat.le_refl _
  | succ k ih =>
    intro hk
    have h1 := ih (by omega)
    have h2 := h k (by omega)
    rw [glueB_snoc xs k (by omega), ByteArray.size_append]
    split
    · omega
    · rw [ByteArray.size_append]
      have : (⟨#[47]⟩ : ByteArray).size = 1 := rfl
      omega
theorem glueB_bound (xs : List ByteArray) (h : ∀ j (hj : j < xs.length), xs[j].size ≤ 300) (hn : xs.length ≤ 10) : (glueB xs).size ≤ 3010 := by
  have := glueB_small xs h xs.length (Nat.le_refl _)
  rw [List.take_length] at this
  omega
def codeOf (b : Bool) : Int := if b then 0 else 112
theorem code_any (b : Bool) (w : World) : Calls Tryd.prog 15 #[.bool b] w fun e w' => e = .returned (.int .i64 (codeOf b)) ∧ w = w' := by
  cases b
  all_goals
    go_enter Tryd.func15, Tryd.ntmps15
    go_wp2
    go_ret
    exact ⟨rfl, rfl⟩
/-- path.Clean and the document's, at one text: the same text, and an error just where it has none. -/
theorem clean_both (A : Nat → Addr) (s : ByteArray) : ∃ (a : ByteArray) (v : Value) (b : Bool), FaultOf A v (codeOf b) ∧
    (∀ w e w', cleanPost (E A 11) s w e w' → gives #[.string a, v] w e w') ∧ (∀ w e w', refCleanPost s w e w' → gives #[.string a, .bool b] w e w') := by
  unfold cleanPost refCleanPost
  cases Cln.clean s.data.toList with
  | none => exact ⟨⟨#[]⟩, E A 11, false, .inr ⟨11, by omega, rfl, rfl⟩, fun _ _ _ h => h, fun _ _ _ h => h⟩
  | some l => exact ⟨⟨l.toArray⟩, .nilIface, true, .inl ⟨rfl, rfl⟩, fun _ _ _ h => h, fun _ _ _ h => h⟩
theorem Join_slice (A : Nat → Addr) (ao : Option Addr) (c : Nat) (xs : List ByteArray) (w : World) (h : SliceOf w ao c xs) (hn : xs.length ≤ 10) (hlen : (glueB xs).size ≤ 3010) (hR : Ready (E A 11) w) :
    Calls Tryd.prog 12 #[.slice ao xs.length c] w (cleanPost (E A 11) (glueB xs) w) := by
  rcases h with rfl | ⟨bk, o, rfl, h2, h3, h4⟩
  · exact Join_none _ _ ao c w hR
  · exact Join_any _ _ bk o c xs w h4 h3 h2 (by omega) (by omega) hR
theorem refJoin_slice (ao : Option Addr) (c : Nat) (xs : List ByteArray) (w : World) (h : SliceOf w ao c xs) (hn : xs.length ≤ 10) (hlen : (glueB xs).size ≤ 3010) :
    Calls Tryd.prog 13 #[.slice ao xs.length c] w (refCleanPost (glueB xs) w) := by
  rcases h with rfl | ⟨bk, o, rfl, h2, h3, h4⟩
  · exact refJoin_none ao c w
  · exact refJoin_any xs bk o c w (by omega) (by omega) (fun j hj => h4 j _ (List.getElem?_eq_getElem hj))

set_option maxRecDepth 100000 in
set_option maxHeartbeats 4000000 in
theorem PathSays_any (A : Nat → Addr) (p dir : ByteArray) (ao : Option Addr) (c : Nat) (xs : List ByteArray) (w : World) (hX : Ctx A ao c xs w w) :
    Calls Tryd.prog 3 #[.string p, .string dir, .slice ao xs.length c] w (saysB w.heap.size w true) := by
  have HF := Lib.hid (first_any _ _ w hX.ready)
  by_cases hp : 500 < p.size
  · go_enter Tryd.func3, Tryd.ntmps3
    go_wp2_with (go_at_call 9; refine HF.out.mono ?_; rintro e w1 ⟨rfl, hb1⟩)
    go_ret
    exact ⟨rfl, hb1⟩
  by_cases hd : 500 < dir.size
  · go_enter Tryd.func3, Tryd.ntmps3
    go_wp2_with (go_at_call 9; refine HF.out.mono ?_; rintro e w1 ⟨rfl, hb1⟩)
    go_ret
    exact ⟨rfl, hb1⟩
  by_cases hl : 10 < xs.length
  · go_enter Tryd.func3, Tryd.ntmps3
    go_wp2_with (go_at_call 9; refine HF.out.mono ?_; rintro e w1 ⟨rfl, hb1⟩)
    go_ret
    exact ⟨rfl, hb1⟩
  · go_enter Tryd.func3, Tryd.ntmps3
    go_wp2_with fail
    refine HF.out.mono ?_
    rintro e w1 ⟨rfl, hb1⟩
    have X1 := Lib.hid (hX.next hb1)
    clear HF hb1 hX
    go_wp2_with fail
    go_loop [8] (fun i => ∃ k : Nat, k ≤ xs.length ∧ i = .int .i64 k ∧ Hid (∀ j (hj : j < xs.length), j < k → xs[j].size ≤ 300)) (fun i => xs.length - (intOf i).toNat)
    case atStart => exact ⟨0, Nat.zero_le _, rfl, Lib.hid fun _ _ h => absurd h (by omega)⟩
    case round =>
      obtain ⟨k, hk, rfl, hsm⟩ := hrel
      by_cases hlt : k < xs.length
      · rcases X1.out.list with h0 | ⟨bk, o, rfl, h2, h3, h4⟩
        · rw [h0] at hlt; exact absurd hlt (by simp)
        · have hcell := h4 k _ (List.getElem?_eq_getElem hlt)
          clear h4
          by_cases hbig : 300 < xs[k].size
          · go_wp2_with fail
            go_ret
            exact ⟨rfl, X1.out.below⟩
          · have hsm' : Hid (∀ j (hj : j < xs.length), j < k + 1 → xs[j].size ≤ 300) := Lib.hid fun j hj hjk => by
              by_cases e : j = k
              · subst e; omega
              · exact hsm.out j hj (by omega)
            clear hsm
            go_wp2_with fail
            go_round
            case rel => exact ⟨k + 1, by omega, by go_num, hsm'⟩
            case measure => simp [intOf]; omega
      · obtain rfl : k = xs.length := by omega
        have hgl := glueB_bound xs (fun j hj => hsm.out j hj hj) (by omega)
        obtain ⟨a, v, b, hf, hc1, hc2⟩ := clean_both A p
        obtain ⟨a2, v2, b2, hf2, hj1, hj2⟩ := clean_both A (glueB xs)
        have HC := Lib.hid (fun W (hW : Ctx A ao c xs w W) => (Clean_any _ _ p W (by omega) hW.ready).mono fun e w' h => hc1 W e w' h)
        have HRC := Lib.hid (fun W => (refClean_any p W (by omega)).mono fun e w' h => hc2 W e w' h)
        have HJ := Lib.hid (fun W (hW : Ctx A ao c xs w W) => (Join_slice A ao c xs W hW.list (by omega) hgl hW.ready).mono fun e w' h => hj1 W e w' h)
        have HRJ := Lib.hid (fun W (hW : Ctx A ao c xs w W) => (refJoin_slice ao c xs W hW.list (by omega) hgl).mono fun e w' h => hj2 W e w' h)
        have HI := Lib.hid (fun W (hW : Ctx A ao c xs w W) => Is_bare (codeOf b) hf W hW.sent)
        have HI2 := Lib.hid (fun W (hW : Ctx A ao c xs w W) => Is_bare (codeOf b2) hf2 W hW.sent)
        have HV := Lib.hid (fun W (hW : Ctx A ao c xs w W) => Valid_ready _ p W (by omega) hW.ready)
        have HRV := Lib.hid (fun W => refValid_any p W (by omega))
        clear hc1 hc2 hj1 hj2 hf hf2 hsm hgl
        go_wp2_with fail
        refine (HC.out w1 X1.out).mono ?_
        rintro e w2 ⟨rfl, hb2⟩
        have X2 := Lib.hid (X1.out.next hb2)
        clear hb2
        go_wp2_with fail
        refine (HRC.out w2).mono ?_
        rintro e w3 ⟨rfl, hb3⟩
        have X3 := Lib.hid (X2.out.next hb3)
        clear hb3
        go_wp2_with fail
        refine (HJ.out w3 X3.out).mono ?_
        rintro e w4 ⟨rfl, hb4⟩
        have X4 := Lib.hid (X3.out.next hb4)
        clear hb4
        go_wp2_with fail
        refine (HRJ.out w4 X4.out).mono ?_
        rintro e w5 ⟨rfl, hb5⟩
        have X5 := Lib.hid (X4.out.next hb5)
        clear hb5
        go_wp2_with fail
        refine (code_any b w5).mono ?_
        rintro e w6 ⟨rfl, rfl⟩
        go_wp2_with fail
        refine (HI.out w5 X5.out).mono ?_
        rintro e w6 ⟨rfl, hb6⟩
        have X6 := Lib.hid (X5.out.next hb6)
        clear hb6
        rw [beq_self_eq_true]
        go_wp2_with fail
        refine (code_any b2 w6).mono ?_
        rintro e w7 ⟨rfl, rfl⟩
        go_wp2_with fail
        refine (HI2.out w6 X6.out).mono ?_
        rintro e w7 ⟨rfl, hb7⟩
        have X7 := Lib.hid (X6.out.next hb7)
        clear hb7
        rw [beq_self_eq_true]
        go_wp2_with fail
        refine (HV.out w7 X7.out).mono ?_
        rintro e w8 ⟨rfl, hb8⟩
        have X8 := Lib.hid (X7.out.next hb8)
        clear hb8
        go_wp2_with fail
        refine (HRV.out w8).mono ?_
        rintro e w9 ⟨rfl, hb9⟩
        have X9 := Lib.hid (X8.out.next hb9)
        clear hb9
        generalize Pth.splitOK Pth.partOK p.data.toList = vb
        go_wp2_with fail
        refine (Dir_any p w9 (by omega)).mono ?_
        rintro e w10 ⟨rfl, rfl⟩
        go_wp2_with fail
        refine (refDir_any p w9 (by omega)).mono ?_
        rintro e w10 ⟨rfl, rfl⟩
        go_wp2_with fail
        refine (Base_any p w9 (by omega)).mono ?_
        rintro e w10 ⟨rfl, rfl⟩
        go_wp2_with fail
        refine (refBase_any p w9 (by omega)).mono ?_
        rintro e w10 ⟨rfl, rfl⟩
        go_wp2_with fail
        refine (Under_any p dir w9).mono ?_
        rintro e w10 ⟨rfl, rfl⟩
        go_wp2_with fail
        refine (refUnder_any p dir w9 (by omega) (by omega)).mono ?_
        rintro e w10 ⟨rfl, rfl⟩
        generalize underB p dir = ub
        go_wp2
        go_ret
        exact ⟨ret_bool (by simp), X9.out.below⟩

end Go.Proofs.YteokigpeaggemaaDoor
