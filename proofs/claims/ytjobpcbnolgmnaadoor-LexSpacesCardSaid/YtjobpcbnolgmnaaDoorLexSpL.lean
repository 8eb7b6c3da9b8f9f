/- smithylaw4.LexSpaces returns true. Conditions: the words and the error of api lie in their variables. -/
import Derived.Test.YtjobpcbnolgmnaaDoorLexSpH
import Derived.Test.YtjobpcbnolgmnaaDoorLexInts
import Derived.Test.YtjobpcbnolgmnaaDoorLexQuotesLaw
import Derived.StillTailTactics
namespace Go.Proofs.YtjobpcbnolgmnaaDoor
open Go.RowKit
open Lx Spc

theorem fold_any (z K : Int) (hK : 0 < K) : ∃ (m : Int) (n : Nat), z.tmod K = m ∧ -K < m ∧ m < K ∧ (m + K).tmod K = (n : Int) ∧ (n : Int) < K := by
  have h1 : -K < z.tmod K ∧ z.tmod K < K := by
    have hl := Int.emod_lt_of_pos z hK
    have hg := Int.emod_nonneg z (show K ≠ 0 by omega)
    have hl' := Int.emod_lt_of_pos (-z) hK
    have hg' := Int.emod_nonneg (-z) (show K ≠ 0 by omega)
    refine ⟨?_, ?_⟩
    · rw [tmod_eq_if]; split <;> omega
    · rw [tmod_eq_if]; split <;> omega
  have h2 : (z.tmod K + K).tmod K = (z.tmod K + K) % K := Int.tmod_eq_emod_of_nonneg (by omega)
  have h3 := Int.emod_nonneg (z.tmod K + K) (show K ≠ 0 by omega)
  have h4 := Int.emod_lt_of_pos (z.tmod K + K) hK
  refine ⟨_, ((z.tmod K + K) % K).toNat, rfl, h1.1, h1.2, ?_, ?_⟩
  · rw [h2]; omega
  · omega
theorem tw_le (l : List Nat) : (l.takeWhile (0 < ·)).length ≤ l.length := (List.takeWhile_prefix (fun x => decide (0 < x)) (l := l)).length_le
theorem end_few {q : Nat} {st : St} {toks : List Lx.Tok} (h : endF q st = .ok toks) : toks.length ≤ st.toks.length + st.blocks.length + 1 := by
  unfold endF at h
  split at h
  · injection h with h
    subst h
    have := tw_le st.blocks
    simp [deds]
    omega
  · cases h
theorem few_tok : ∀ (n : Nat) (mid : Bool) (q : Nat) (st : St) (l : List UInt8) (toks : List Lx.Tok), st.op.length ≤ 60 → goF n mid q st l = .ok toks → toks.length ≤ st.toks.length + st.blocks.length + 4 * l.length + (if mid then 2 else 4) := by
  intro n
  induction n with
  | zero => intro mid q st l toks _ h; cases h
  | succ n ih =>
    intro mid q st l toks ho h
    cases mid with
    | true =>
      rcases Bool.eq_false_or_eq_true (ends l) with e | e
      · rw [goF_mid_end n q st l e] at h
        have hn : (nlF st q).toks.length ≤ st.toks.length + 1 ∧ (nlF st q).blocks = st.blocks ∧ (nlF st q).op = st.op := by unfold nlF; split <;> simp
        cases l with
        | nil =>
          have := end_few h
          rw [hn.2.1] at this
          simp only [if_true]; omega
        | cons b r =>
          have := ih false (q + 1) (nlF st q) r toks (by rw [hn.2.2]; exact ho) h
          rw [hn.2.1] at this
          simp only [if_true, Bool.false_eq_true, if_false, List.length_cons] at this ⊢
          omega
      · rw [goF_mid_tok n q st l e] at h
        cases ht : tokF st.op l with
        | bad j => rw [ht] at h; cases h
        | ok k t m op =>
          rw [ht] at h
          obtain ⟨h1, h2, h3⟩ := tokF_ok ht ho
          have := ih true _ ⟨st.toks ++ [⟨k, t, q⟩], st.blocks, op⟩ _ toks h1 h
          simp only [if_true, List.length_append, List.length_singleton, List.length_drop] at this ⊢
          omega
    | false =>
      rcases Bool.eq_false_or_eq_true (ends (l.drop (gapF l))) with e | e
      · rw [goF_line_end n q st l e] at h
        have hl : (l.drop (gapF l)).length ≤ l.length := by rw [List.length_drop]; omega
        cases hd : l.drop (gapF l) with
        | nil =>
          rw [hd] at h
          have := end_few h
          simp only [Bool.false_eq_true, if_false]; omega
        | cons b r =>
          rw [hd] at h hl
          have := ih false _ st r toks ho h
          simp only [Bool.false_eq_true, if_false, List.length_cons] at this hl ⊢
          omega
      · by_cases hop : st.op = []
        · rw [goF_line_ind n q st l e hop] at h
          cases hi : indF (gapF l) (q + gapF l) st.toks st.blocks with
          | none => rw [hi] at h; cases h
          | some x =>
            obtain ⟨ts', bl'⟩ := x
            rw [hi] at h
            have hle : ts'.length + bl'.length ≤ st.toks.length + st.blocks.length + 2 := by
              unfold indF at hi
              split at hi
              · split at hi
                · cases hi
                · cases hi; simp; omega
              · split at hi
                · cases hi
                  have := congrArg List.length (List.takeWhile_append_dropWhile (p := fun x => decide (gapF l < x)) (l := st.blocks))
                  rw [List.length_append] at this
                  simp
                  omega
                · cases hi
            have := ih true _ ⟨ts', bl', st.op⟩ _ toks ho h
            simp only [Bool.false_eq_true, if_true, if_false, List.length_drop] at this ⊢
            omega
        · rw [goF_line_open n q st l e hop] at h
          have := ih true _ st _ toks ho h
          simp only [Bool.false_eq_true, if_true, if_false, List.length_drop] at this ⊢
          omega
theorem few_scan {l : List UInt8} {toks : List Lx.Tok} (h : scanF l = .ok toks) : toks.length ≤ 4 * l.length + 5 := by
  have := few_tok _ _ _ _ _ _ (by simp) h
  simp at this
  omega
theorem slice_head (T : ByteArray) (b : Nat) (hb : b ≤ T.size) (W : World) : (Instr.sliceAt 9 (.string T) none (some (.int .i64 (b : Int))) none).run Tryd.prog W = .ok (.string (T.extract 0 b)) W := by
  have h : (b : Int) ≤ (T.size : Int) := by omega
  go_simp
theorem slice_tail (T : ByteArray) (a : Nat) (ha : a ≤ T.size) (W : World) : (Instr.sliceAt 9 (.string T) (some (.int .i64 (a : Int))) none none).run Tryd.prog W = .ok (.string (T.extract a T.size)) W := by
  have h : (a : Int) ≤ (T.size : Int) := by omega
  go_simp
theorem ext_head (T : ByteArray) (b : Nat) : (T.extract 0 b).data.toList = T.data.toList.take b := by
  have := ext_mid T 0 b
  rwa [Nat.zero_add, List.drop_zero] at this
theorem ext_tail (T : ByteArray) (a : Nat) (h : a ≤ T.size) : (T.extract a T.size).data.toList = T.data.toList.drop a := by
  have := ext_mid T a (T.size - a)
  rw [show a + (T.size - a) = T.size by omega] at this
  rw [this, List.take_of_length_le (by rw [List.length_drop, len_data]; omega)]
def insT : ByteArray := ⟨#[32, 32, 32, 35, 32, 109, 111, 114, 101, 10, 10, 32, 32, 32, 32, 10]⟩
theorem Below.from_drew {W W' : World} (h : Below W.drew.heap.size W.drew W') : Below W.heap.size W W' := ⟨h.os, h.tape, h.output, h.size, h.block⟩
set_option maxRecDepth 10000 in
set_option maxHeartbeats 8000000 in
theorem lexSpaces_any (A : Nat → Addr) (T : ByteArray) (z : Int) (w : World) (hV : Vars A w) : Calls Tryd.prog 6 #[.string T, .int .i64 z] w fun e w' => e = .returned (.bool true) ∧ Below w.heap.size w w' := by
  have HF := hid' (first_any A w hV)
  have HV := hid' hV
  clear hV
  by_cases hn : T.size ≤ 1000
  · have hn1 : ¬ (1000 : Int) < (T.size : Int) := by omega
    have HSC := hid' (fun W (h : Vars A W) => scan_any A T (by omega) W h)
    obtain ⟨R, hR⟩ : ∃ R, scanF T.data.toList = R := ⟨_, rfl⟩
    rw [hR] at HSC
    have HR := hid' hR
    clear hR
    go_enter Tryd.func6, Tryd.ntmps6
    go_wp2_with fail
    refine (HF.out).mono ?_
    rintro e w1 ⟨rfl, b1⟩
    have HB1 := hid' b1
    have HV1 := hid' (HV.out.below b1)
    clear HF HV b1
    go_wp2_with fail
    refine (HSC.out _ HV1.out).mono ?_
    intro e w2 hpost
    cases R with
    | bad pos =>
      obtain ⟨b2, v, rfl, hv⟩ := hpost
      obtain ⟨gb, rfl, _, _⟩ := hv
      have HB2 := hid' (below_join HB1.out b2)
      clear b2 HSC
      go_wp2
      go_ret
      exact ⟨rfl, HB2.out⟩
    | ok toks =>
      obtain ⟨b2, ao, cap, rfl, hts⟩ := hpost
      have HB2 := hid' (below_join HB1.out b2)
      have HV2 := hid' (HV1.out.below b2)
      have HTS2 := hid' hts
      have htl : toks.length ≤ 4005 := by have := few_scan HR.out; rw [len_data] at this; omega
      clear b2 hts HB1 HV1 HSC
      go_wp2
      go_loopw [8, 9] (fun kv i wr => ∃ (ks : List Nat) (j : Nat), j ≤ toks.length ∧ i = .int .i64 j ∧ ks.length ≤ j ∧ Hid (OwnI wr w.heap.size kv ks) ∧ Hid (∀ x ∈ ks, x < T.size ∧ ∃ t ∈ toks, t.kind = 5 ∧ t.pos = x) ∧ Hid (Below w.heap.size w wr) ∧ Hid (∀ k, k < w2.heap.size → wr.heap[k]? = w2.heap[k]?) ∧ w2.heap.size ≤ wr.heap.size ∧ Hid (∀ k, kv.ownBlock = some k → w2.heap.size ≤ k)) (fun _ i _ => toks.length - (intOf i).toNat)
      case atStart => exact ⟨[], 0, Nat.zero_le _, rfl, Nat.le_refl _, hid' (OwnI.none _ _), hid' (by simp), HB2, hid' (fun _ _ => rfl), Nat.le_refl _, hid' (fun k e => by simp [Value.ownBlock] at e)⟩
      case round =>
        obtain ⟨ks, j, hj, rfl, hkl, hO, hks, hb, hsame, hsz, hown⟩ := hrel
        have hwz := hb.out.size
        by_cases hlt : j + 1 < toks.length
        · have hlt' : (j : Int) + 1 < (toks.length : Int) := by omega
          rcases HTS2.out with h0 | ⟨g, rfl, hg, hx⟩
          · rw [h0] at hlt; exact absurd hlt (by simp)
          · have hc := hx (j + 1) _ (List.getElem?_eq_getElem hlt)
            have hmem : toks[j + 1] ∈ toks := List.getElem_mem hlt
            have hcell : ∀ o, wr.cell? ⟨g, o, none⟩ = w2.cell? ⟨g, o, none⟩ := fun o => World.cell?_of_block (hsame.out g hg)
            have hc1 := (hcell _).trans hc.1
            have hc3 := (hcell _).trans hc.2.2
            have hg' : g < wr.heap.size := by omega
            have HX := hid' hx
            clear hx hc hcell
            generalize toks[j + 1] = t at hmem hc1 hc3
            have HM := hid' hmem
            clear hmem
            by_cases e5 : t.kind = 5
            · rw [e5, show ((5 : Nat) : Int) = 5 from rfl] at hc1
              by_cases hp : t.pos < T.size
              · have hp' : (t.pos : Int) < (T.size : Int) := by omega
                have HK5 := hid' e5
                clear e5
                go_wp2_with (at_builtin; refine int_plain hO.out t.pos (ks.length + 1) _ rfl rfl hwz (by omega) rfl (.tmp 60) (.tmp 67) (by rfl) (by rfl) (by rfl) ?_; intro g5 cap5 w5 q1 q2 q3 q4; have HO5 := hid' q1; have HB5 := hid' (hb.out.trans q2); have HS5 := hid' (fun k (hk : k < w2.heap.size) => (q3 k (by omega) (fun e => by have := hown.out k e; omega)).trans (hsame.out k hk)); have hz5 := q2.size; have HG5 := hid' q4; clear q1 q2 q3 q4)
                go_roundw
                case rel => exact ⟨ks ++ [t.pos], j + 1, by omega, by go_num, by simp; omega, HO5, hid' (fun x hx => by
                  rcases List.mem_append.1 hx with hx | hx
                  · exact hks.out x hx
                  · rw [List.mem_singleton.1 hx]; exact ⟨hp, t, HM.out, HK5.out, rfl⟩), HB5, HS5, by omega, hid' (fun k e => by
                  simp only [Value.ownBlock, Option.some.injEq] at e
                  subst e
                  rcases HG5.out with h | h
                  · exact hown.out _ h.symm
                  · omega)⟩
                case measure => simp [intOf]; omega
              · have hp' : ¬ (t.pos : Int) < (T.size : Int) := by omega
                clear e5
                go_wp2
                go_roundw
                case rel => exact ⟨ks, j + 1, by omega, by go_num, by omega, hO, hks, hb, hsame, hsz, hown⟩
                case measure => simp [intOf]; omega
            · have h5 : ((t.kind : Int) == 5) = false := by rw [beq_eq_false_iff_ne]; omega
              clear e5
              go_wp2
              go_roundw
              case rel => exact ⟨ks, j + 1, by omega, by go_num, by omega, hO, hks, hb, hsame, hsz, hown⟩
              case measure => simp [intOf]; omega
        · have hlt' : ¬ (j : Int) + 1 < (toks.length : Int) := by omega
          have HB3 := hb
          have HV3 := hid' (HV2.out.below (W' := wr) ⟨hb.out.os.trans HB2.out.os.symm, hb.out.tape.trans HB2.out.tape.symm, hb.out.output.trans HB2.out.output.symm, hsz, fun k hk => hsame.out k hk⟩)
          have HTS3 : Hid (∀ W, Below wr.heap.size wr W → ToksAt W ao toks) := hid' (fun W hW => (HTS2.out.below (W' := wr) ⟨hb.out.os.trans HB2.out.os.symm, hb.out.tape.trans HB2.out.tape.symm, hb.out.output.trans HB2.out.output.symm, hsz, fun k hk => hsame.out k hk⟩).below hW)
          clear hb hsame hown HTS2 HV2 HB2
          cases ks with
          | nil =>
            obtain ⟨ao2, cp2, rfl, _⟩ := own_form hO.out
            simp only [List.length_nil] at *
            go_wp2
            go_ret
            exact ⟨rfl, HB3.out⟩
          | cons k0 kr =>
            obtain ⟨gk, cpk, rfl, hcpk, _, hgk, hck⟩ := own_some hO.out (by simp)
            have hKp : 0 < ((k0 :: kr).length : Int) := by simp only [List.length_cons]; omega
            have hKm : ((k0 :: kr).length : Int) ≤ 4005 := by omega
            obtain ⟨m, n, hm, hm1, hm2, hm3, hn⟩ := fold_any z _ hKp
            have hn' : n < (k0 :: kr).length := by omega
            obtain ⟨x, hxk⟩ : ∃ x, (k0 :: kr)[n] = x := ⟨_, rfl⟩
            have hcx := hck n (iv x) (by rw [List.getElem?_map, List.getElem?_eq_getElem hn', hxk]; rfl)
            obtain ⟨hxT, t, ht, ht5, htx⟩ := hks.out x (by rw [← hxk]; exact List.getElem_mem hn')
            unfold iv at hcx
            clear hck hO hks hkl hxk
            generalize (k0 :: kr).length = K at *
            have hwK : wrap64 (m + (K : Int)) = m + K := by unfold wrap64; omega
            have hK0 : ((K : Int) == 0) = false := by rw [beq_eq_false_iff_ne]; omega
            have hxT' : (x : Int) ≤ (T.size : Int) := by omega
            have hxT2 : (x : Int) + 1 ≤ (T.size : Int) := by omega
            have hsh := slice_head T x (by omega)
            have hst := slice_tail T (x + 1) (by omega)
            obtain ⟨y, hy⟩ : ∃ y, x + 1 = y := ⟨_, rfl⟩
            rw [hy] at hst
            have hxy : (x : Int) + 1 = (y : Int) := by omega
            have hyT : (y : Int) ≤ (T.size : Int) := by omega
            have hwy : IntKind.i64.wrap (y : Int) = (y : Int) := by rw [IntKind.wrap_i64]; omega
            have hfive : T.data.toList = T.data.toList.take x ++ 10 :: T.data.toList.drop (x + 1) := by
              have h := five_at HR.out ht ht5 (by rw [htx, len_data]; exact hxT)
              rwa [htx] at h
            obtain ⟨toks', hs', hkt, hps⟩ := scan_spaces (T.data.toList.take x) (T.data.toList.drop (x + 1)) toks (by rw [← hfive]; exact HR.out) ⟨t, ht, ht5, by rw [htx, List.length_take, len_data]; omega⟩
            have hll : toks'.length = toks.length := by have := congrArg List.length hkt; simpa using this.symm
            have HN : Hid (∀ W, Vars A W → Calls Tryd.prog 11 #[.string (T.extract 0 x ++ ⟨#[32, 32, 32, 35, 32, 109, 111, 114, 101, 10, 10, 32, 32, 32, 32, 10]⟩ ++ T.extract y T.size)] W (ScanPost A W (.ok toks'))) := hid' (fun W hW => by
              subst hy
              have h1 : (T.extract 0 x ++ ⟨#[32, 32, 32, 35, 32, 109, 111, 114, 101, 10, 10, 32, 32, 32, 32, 10]⟩ ++ T.extract (x + 1) T.size : ByteArray).data.toList = T.data.toList.take x ++ (ins ++ [10, 10, 32, 32, 32, 32, 10] ++ T.data.toList.drop (x + 1)) := by
                rw [ByteArray.data_append, ByteArray.data_append, Array.toList_append, Array.toList_append, ext_head, ext_tail T (x + 1) (by omega), List.append_assoc]
                rfl
              have h2 := scan_any A (T.extract 0 x ++ ⟨#[32, 32, 32, 35, 32, 109, 111, 114, 101, 10, 10, 32, 32, 32, 32, 10]⟩ ++ T.extract (x + 1) T.size) (by
                rw [← len_data, h1]
                simp only [List.length_append, List.length_take, List.length_drop, len_data, ins, List.length_cons, List.length_nil]
                omega) W hW
              rw [h1, hs'] at h2
              exact h2)
            have HKT := hid' hkt
            have HPS := hid' hps
            have hxl : (T.data.toList.take x).length = x := by rw [List.length_take, len_data]; omega
            rw [hxl] at HPS
            clear hfive hs' hkt hps ht ht5 htx HR hxl hy hxT2
            go_wp2_with fail
            go_region_with (go_at_call 11; refine (HN.out _ (by first | exact HV3.out | exact HV3.out.below ⟨rfl, rfl, rfl, Nat.le_refl _, fun _ _ => rfl⟩)).mono ?_; rintro e w4 ⟨b4, ao4, cap4, rfl, hts4⟩)
            all_goals (
              have HB4 : Hid (Below w.heap.size w w4) := hid' (below_join HB3.out ((Below.from_drew b4)))
              have HT4 : Hid (∀ W, Below w4.heap.size w4 W → ToksAt W ao toks ∧ ToksAt W ao4 toks') := hid' (fun W hW => ⟨(HTS3.out w4 (Below.from_drew b4)).below hW, hts4.below hW⟩)
              have hl4 : (toks'.length : Int) = (toks.length : Int) := by omega
              clear b4 hts4 HB3 HTS3 HV3 HN
              go_wp2
              go_loopw [13] (fun i wr => ∃ j, j ≤ toks.length ∧ i = .int .i64 j ∧ Hid (Below w4.heap.size w4 wr)) (fun i _ => toks.length - (intOf i).toNat)
              case atStart => exact ⟨0, Nat.zero_le _, rfl, hid' (Below.refl _ _)⟩
              case round =>
                obtain ⟨j, hj, rfl, hb⟩ := hrel
                have HBR := hid' (below_join HB4.out hb.out)
                by_cases hlt : j < toks.length
                · have hlt' : (j : Int) < (toks.length : Int) := by omega
                  obtain ⟨h1, h2⟩ := HT4.out wr hb.out
                  have hlt2 : j < toks'.length := by omega
                  have hk := congrArg (fun l : List (Nat × List UInt8) => l[j]?) HKT.out
                  simp only [List.getElem?_map, List.getElem?_eq_getElem hlt, List.getElem?_eq_getElem hlt2, Option.map_some, Option.some.injEq] at hk
                  have hpp := HPS.out j _ _ (List.getElem?_eq_getElem hlt) (List.getElem?_eq_getElem hlt2)
                  rcases h1 with h0 | ⟨g1, rfl, hg1, hx1⟩
                  · rw [h0] at hlt; exact absurd hlt (by simp)
                  rcases h2 with h0 | ⟨g2, rfl, hg2, hx2⟩
                  · rw [h0] at hlt2; exact absurd hlt2 (by simp)
                  obtain ⟨a1, a2, a3⟩ := hx1 j _ (List.getElem?_eq_getElem hlt)
                  obtain ⟨c1, c2, c3⟩ := hx2 j _ (List.getElem?_eq_getElem hlt2)
                  generalize toks[j] = t at hk hpp a1 a2 a3
                  generalize toks'[j] = u at hk hpp c1 c2 c3
                  obtain ⟨k1, t1, p1⟩ := t
                  obtain ⟨k2, t2, p2⟩ := u
                  obtain ⟨rfl, rfl⟩ : k1 = k2 ∧ t1 = t2 := by simpa [kt] using hk
                  dsimp only at hpp a1 a2 a3 c1 c2 c3
                  have HC1 := hid' hx1
                  clear hx1 hx2 hk HC1
                  generalize txt t1 = s1 at a2 c2
                  by_cases hp : p1 < x
                  · obtain rfl := hpp hp
                    have hp' : (p2 : Int) < (x : Int) := by omega
                    clear hpp
                    go_wp2_with fail
                    go_quiet (fail)
                    go_wp2
                    go_roundw
                    case rel => exact ⟨j + 1, by omega, by go_num, hid' ⟨hb.out.os, hb.out.tape, hb.out.output, hb.out.size, hb.out.block⟩⟩
                    case measure => simp [intOf]; omega
                  · have hp' : decide ((p1 : Int) < (x : Int)) = false := by simp; omega
                    clear hpp
                    go_wp2_with fail
                    go_quiet (fail)
                    go_wp2
                    go_roundw
                    case rel => exact ⟨j + 1, by omega, by go_num, hid' ⟨hb.out.os, hb.out.tape, hb.out.output, hb.out.size, hb.out.block⟩⟩
                    case measure => simp [intOf]; omega
                · have hlt' : ¬ (j : Int) < (toks.length : Int) := by omega
                  go_wp2
                  go_ret
                  exact ⟨rfl, HBR.out⟩)
  · have hn1 : (1000 : Int) < (T.size : Int) := by omega
    go_enter Tryd.func6, Tryd.ntmps6
    go_wp2_with fail
    refine (HF.out).mono ?_
    rintro e w1 ⟨rfl, b1⟩
    have HB1 := hid' b1
    clear b1
    go_wp2
    go_ret
    exact ⟨rfl, HB1.out⟩
end Go.Proofs.YtjobpcbnolgmnaaDoor
