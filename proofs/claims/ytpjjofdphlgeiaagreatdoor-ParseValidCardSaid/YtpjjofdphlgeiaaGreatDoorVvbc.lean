/- Parts of the proof, together. What ast.Valid answers, of whatever Ops. Conditions: the nodes lie below the world's end; the words and the errors of api lie in their variables; at most 2^20 nodes, short names. -/
import Derived.Test.YtpjjofdphlgeiaaGreatDoorVvaw
import Derived.Test.YtpjjofdphlgeiaaGreatDoorVvbb
namespace Go.Proofs.YtpjjofdphlgeiaaGreatDoor
open Go.RowKit
open Lx Ax Ay

namespace Ay
/-- The first node that is not as it should be. -/
def validH (l : List Nd) : Option Nat := match formsG l l 0 ⟨[], []⟩ with
  | .inl i => some i
  | .inr st => if wholeF st.tk = true ∧ isModT l = true then none else some (l.length - 1)
theorem formG_take {l : List Nd} {x : Nd} {st st' : VS} (h : formG l x st = some st') : ∃ tk, takeF x.kids st.tk = some tk ∧ st' = ⟨tk ++ [false], st.so ++ [sortG l st.so x]⟩ ∧ x.n = 0 ∧ saysG x = true ∧ hasG st.so x = true := by
  unfold formG at h
  cases h2 : takeF x.kids st.tk with
  | none => rw [h2] at h; cases h
  | some tk =>
    rw [h2] at h
    simp only at h
    split at h
    · next h3 => exact ⟨tk, rfl, (Option.some.inj h).symm, h3⟩
    · cases h
theorem formsG_tree {l0 : List Nd} : ∀ {l : List Nd} {i : Nat} {st st' : VS}, formsG l0 l i st = .inr st' → treeF l st.tk = some st'.tk ∧ ∀ x ∈ l, ∃ so, hasG so x = true
  | [], i, st, st', h => by injection h with h; rw [h]; exact ⟨rfl, fun x hx => by simp at hx⟩
  | x :: r, i, st, st', h => by
    rw [formsG] at h
    cases h2 : formG l0 x st with
    | none => rw [h2] at h; cases h
    | some s1 =>
      rw [h2] at h
      obtain ⟨tk, h3, h4, _, _, h5⟩ := formG_take h2
      have h6 := formsG_tree h
      rw [h4] at h6
      refine ⟨by rw [treeF, h3]; exact h6.1, fun y hy => ?_⟩
      rcases List.mem_cons.1 hy with rfl | hy
      · exact ⟨_, h5⟩
      · exact h6.2 y hy
theorem has_def {so : List Int} {x : Nd} (h : hasG so x = true) (h45 : x.op = 45) : x.kids ≠ [] := by
  intro hk
  unfold hasG exprG stmtG at h
  rw [h45, hk] at h
  simp at h
end Ay
/-- What Valid leaves: no fault, or one around a node. -/
def ValidPost (A : Nat → Addr) (W : World) (r : Option Nat) (e : Ending) (w' : World) : Prop := Below W.heap.size W w' ∧ match r with
  | none => e = .returned .nilIface
  | some i => ∃ g, e = .returned (.iface 67 (.pointer (some ⟨g, 0, none⟩))) ∧ w'.heap[g]? = some (.cells #[.int .i64 (i : Int), E A 12] 84 (0, 0)) ∧ W.heap.size ≤ g
theorem row_new' (W : World) (g : Nat) (hg : g = W.heap.size) (t : TypeId) (vs : List Value) : RowV (W.alloc (.cells vs.toArray t)) g t vs := by subst hg; exact row_new W t vs
theorem start_row (W : World) (n : Nat) (ao : Option Addr) (cap : Nat) (l : List Nd) (g1 g2 fb : Nat) (W2 : World) (hfb : fb = W2.heap.size) (h1 : RowV W2 g1 4 (flags (List.replicate l.length false))) (h2 : RowV W2 g2 81 (sorts (List.replicate l.length 0))) (hb : Below W.heap.size W W2) (hg1 : W.heap.size ≤ g1) (hg2 : W.heap.size ≤ g2) (hn : n ≤ W.heap.size) (hN : NodesAt n W ao l) (hw : WordsAt W) (hwn : 17 < n) :
    FormAt n (W2.alloc (.cells #[.slice ao l.length cap, .slice (some ⟨g1, 0, none⟩) l.length l.length, .slice (some ⟨g2, 0, none⟩) l.length l.length] 51)) W.heap.size fb ao cap l g1 g2 ⟨[], []⟩ 0 := by
  subst hfb
  have hb3 : Below W2.heap.size W2 (W2.alloc (.cells #[.slice ao l.length cap, .slice (some ⟨g1, 0, none⟩) l.length l.length, .slice (some ⟨g2, 0, none⟩) l.length l.length] 51)) := (Below.refl _ _).alloc (Nat.le_refl _) _
  have hb4 := hb.trans (hb3.mono hb.size)
  refine ⟨row_new W2 _ _, ?_, ?_, rfl, rfl, ⟨hn, hb.size, hg1, hg2⟩, hN.keep (hb4.mono hn) (Nat.le_refl _), hw.below hb4, hwn⟩
  · exact h1.far (hb3.block _ h1.lt)
  · exact h2.far (hb3.block _ h2.lt)
set_option maxRecDepth 10000 in
set_option maxHeartbeats 3200000 in
theorem valid_all (A : Nat → Addr) (n : Nat) (ao : Option Addr) (cap : Nat) (l : List Nd) (w : World) (hl : l.length ≤ 100000) (hpos : 0 < l.length) (hN : NodesAt n w ao l) (hn : n ≤ w.heap.size) (hw : WordsAt w) (hwn : 17 < n) (hS : w.cell? ⟨1, 0, none⟩ = some (E A 12))
    (ho : ∀ x ∈ l, OpK x.op) (hkf : ∀ x ∈ l, x.kids.length ≤ 900000) (hs : ∀ x ∈ l, x.s.size ≤ 1000000) :
    Calls Tryz.prog 10 #[.slice ao l.length cap] w (ValidPost A w (validH l)) := by
  obtain ⟨res, hres⟩ : ∃ r, validH l = r := ⟨_, rfl⟩
  rw [hres]
  have HRES := hid' hres
  have HN := hid' hN
  have HW := hid' hw
  have HS := hid' hS
  have HO := hid' ho
  have HKF := hid' hkf
  have HSZ := hid' hs
  have hmk1 := make_flags l.length (by omega)
  have hmk2 := make_sorts l.length (by omega)
  have HST := hid' (fun g1 g2 fb W2 hfb h1 h2 hb hg1 hg2 => start_row w n ao cap l g1 g2 fb W2 hfb h1 h2 hb hg1 hg2 hn hN hw hwn)
  have hll : ¬ (1048576 : Int) < (l.length : Int) := by omega
  clear hres hN hw hS ho hs hkf
  go_enter Tryz.func10, Tryz.ntmps10
  go_wp2
  go_region
  all_goals
    go_wp2
    go_loopw [20] (fun c wr => ∃ (k g1 g2 : Nat) (st : VS), k ≤ l.length ∧ c = .int .i64 k ∧ Hid (FormAt n wr w.heap.size (w.heap.size + 1 + 1) ao cap l g1 g2 st k) ∧ Hid (formsG l l 0 ⟨[], []⟩ = formsG l (l.drop k) k st) ∧ Hid (Below w.heap.size w wr)) (fun c _ => l.length - (intOf c).toNat)
    case atStart =>
      have hb1 : Below w.heap.size w w.drew := (Below.refl _ _).drew
      first
        | exact ⟨0, w.heap.size, w.heap.size + 1, ⟨[], []⟩, Nat.zero_le _, rfl, hid' (HST.out w.heap.size (w.heap.size + 1) (w.heap.size + 1 + 1) ((w.drew.alloc (.cells (flags (List.replicate l.length false)).toArray 4)).alloc (.cells (sorts (List.replicate l.length 0)).toArray 81)) (by simp) ((row_new w.drew _ _).far (Below.heap_alloc _ _ _ (by simp))) (row_new' _ _ (by simp) _ _) ((hb1.alloc (Nat.le_refl _) _).alloc (by simp) _) (Nat.le_refl _) (by omega)), hid' rfl, hid' (((hb1.alloc (Nat.le_refl _) _).alloc (by simp) _).alloc (by simp <;> omega) _)⟩
        | exact ⟨0, w.heap.size + 1, w.heap.size, ⟨[], []⟩, Nat.zero_le _, rfl, hid' (HST.out (w.heap.size + 1) w.heap.size (w.heap.size + 1 + 1) ((w.drew.alloc (.cells (sorts (List.replicate l.length 0)).toArray 81)).alloc (.cells (flags (List.replicate l.length false)).toArray 4)) (by simp) (row_new' _ _ (by simp) _ _) ((row_new w.drew _ _).far (Below.heap_alloc _ _ _ (by simp))) ((hb1.alloc (Nat.le_refl _) _).alloc (by simp) _) (by omega) (Nat.le_refl _)), hid' rfl, hid' (((hb1.alloc (Nat.le_refl _) _).alloc (by simp) _).alloc (by simp <;> omega) _)⟩
    case round =>
      obtain ⟨k, g1, g2, st, hk, rfl, hf, hv, hb⟩ := hrel
      by_cases hlt : k < l.length
      · have hlt' : (k : Int) < (l.length : Int) := by omega
        have HC := hid' (form_all hf.out hlt (HO.out _ (List.getElem_mem hlt)) (HSZ.out _ (List.getElem_mem hlt)))
        have hv2 := hv.out
        rw [List.drop_eq_getElem_cons hlt, formsG] at hv2
        have HS2 := hid' ((hb.out.cell (World.block_lt_of_cell? w _ HS.out)).trans HS.out)
        generalize formG l l[k] st = r at HC hv2
        clear hf hv
        go_wp2_with fail
        refine (HC.out).mono ?_
        rintro e w2 ⟨b2, hno, hyes⟩
        cases r with
        | none =>
          obtain rfl := hno rfl
          have hend : Hid (res = some k) := hid' (by rw [← HRES.out]; unfold validH; rw [hv2])
          have HB2 := hid' (hb.out.trans b2)
          have HFA := hid' (astFault_any A (k : Int) w2 ((HB2.out.cell (World.block_lt_of_cell? w _ HS.out)).trans HS.out))
          clear b2 hno hyes hv2 HC
          go_wp2_with fail
          refine (HFA.out).mono ?_
          rintro e w3 ⟨rfl, hat, b3⟩
          have HAT := hid' hat
          have HB3 := hid' (HB2.out.trans (b3.mono HB2.out.size))
          clear hat b3
          go_wp2
          go_ret
          rw [hend.out]
          exact ⟨HB3.out, _, rfl, HAT.out, HB2.out.size⟩
        | some st2 =>
          obtain ⟨rfl, hf2⟩ := hyes st2 rfl
          have HF2 := hid' hf2
          have HV2 := hid' hv2
          have HB2 := hid' (hb.out.trans b2)
          clear b2 hno hyes hv2 HC hf2
          go_wp2
          go_roundw
          case rel => exact ⟨k + 1, g1, g2, st2, by omega, by go_num, HF2, HV2, HB2⟩
          case measure => simp [intOf]; omega
      · obtain rfl : k = l.length := by omega
        have hv2 : formsG l l 0 ⟨[], []⟩ = .inr st := by rw [hv.out, List.drop_eq_nil_of_le (Nat.le_refl _)]; rfl
        have hres2 := HRES.out
        unfold validH at hres2
        rw [hv2] at hres2
        simp only at hres2
        have ht2 := hf.out.tks
        rw [Nat.sub_self, List.replicate_zero, List.append_nil] at ht2
        have e1 := hf.out.row.cell (j := 1) rfl
        have HWH := hid' (whole_any g1 st.tk wr (by rw [hf.out.ltk]; omega) ht2)
        rw [hf.out.ltk] at HWH
        have HLT := hf.out.ltk
        obtain ⟨htree, hhas⟩ := formsG_tree hv2
        have HS2 := hid' (fun (W' : World) (h : Below w.heap.size w W') => (h.cell (World.block_lt_of_cell? w _ HS.out)).trans HS.out)
        have hm1 : (l.length : Int) - 1 = ((l.length - 1 : Nat) : Int) := by omega
        have hm2 : ¬ ((l.length - 1 : Nat) : Int) < 0 := by omega
        cases hwh : wholeF st.tk with
        | false =>
          rw [hwh] at HWH hres2
          have hend : Hid (res = some (l.length - 1)) := hid' (by rw [← hres2, if_neg (fun h => by cases h.1)])
          have HFA := hid' (astFault_any A ((l.length - 1 : Nat) : Int) wr (HS2.out wr hb.out))
          clear hres2 hwh hf hv hv2 ht2 htree HLT hlt hhas
          go_wp2_with fail
          refine (HWH.out).mono ?_
          rintro e w3 ⟨rfl, rfl⟩
          go_wp2_with fail
          refine (HFA.out).mono ?_
          rintro e w4 ⟨rfl, hat, b3⟩
          have HAT := hid' hat
          have HB3 := hid' (hb.out.trans (b3.mono hb.out.size))
          clear hat b3
          go_wp2
          go_ret
          rw [hend.out]
          exact ⟨HB3.out, _, rfl, HAT.out, hb.out.size⟩
        | true =>
          rw [hwh] at HWH hres2
          have HIM := hid' (isModule_all n ao cap l wr (by omega) hpos (HN.out.keep (hb.out.mono hn) (Nat.le_refl _)) (Nat.le_trans hn hb.out.size) HO.out (fun x hx h45 => let ⟨_, h⟩ := hhas x hx; has_def h h45) HKF.out (kids_range htree))
          clear hwh hf hv hv2 ht2 htree hlt hhas
          cases him : isModT l with
          | true =>
            rw [him] at HIM hres2
            have hend : Hid (res = none) := hid' (by rw [← hres2, if_pos ⟨rfl, rfl⟩])
            clear hres2 him HLT
            go_wp2_with fail
            refine (HWH.out).mono ?_
            rintro e w3 ⟨rfl, rfl⟩
            go_wp2_with fail
            refine (HIM.out).mono ?_
            rintro e w4 ⟨rfl, b3⟩
            have HB3 := hid' (hb.out.trans (b3.mono hb.out.size))
            clear b3
            go_wp2
            go_ret
            rw [hend.out]
            exact ⟨HB3.out, rfl⟩
          | false =>
            rw [him] at HIM hres2
            have hend : Hid (res = some (l.length - 1)) := hid' (by rw [← hres2, if_neg (fun h => by cases h.2)])
            clear hres2 him HLT
            go_wp2_with fail
            refine (HWH.out).mono ?_
            rintro e w3 ⟨rfl, rfl⟩
            go_wp2_with fail
            refine (HIM.out).mono ?_
            rintro e w4 ⟨rfl, b3⟩
            have HB3 := hid' (hb.out.trans (b3.mono hb.out.size))
            have HFA := hid' (astFault_any A ((l.length - 1 : Nat) : Int) w4 (HS2.out w4 HB3.out))
            clear b3
            go_wp2_with fail
            refine (HFA.out).mono ?_
            rintro e w5 ⟨rfl, hat, b4⟩
            have HAT := hid' hat
            have HB4 := hid' (HB3.out.trans (b4.mono HB3.out.size))
            clear hat b4
            go_wp2
            go_ret
            rw [hend.out]
            exact ⟨HB4.out, _, rfl, HAT.out, HB3.out.size⟩
end Go.Proofs.YtpjjofdphlgeiaaGreatDoor
