/- What smithyref.SameTexts and smithyref.SortedTexts answer: the same lists; the texts, rising, each once. Conditions: fewer than 2^30 texts. -/
import Derived.Test.YteokigpeaggemaaDoorGlobsPlain
import Derived.Deep.QuietTactic
import Derived.BigQuiet
import Derived.Deep.RegionLaw
import Derived.IntWalk
namespace Go.Proofs.YteokigpeaggemaaDoor
open Go.RowKit

theorem texts_eq {a b : ByteArray} (h : a = b) : (a.toList == b.toList) = true := by rw [h]; simp

set_option maxRecDepth 100000 in
set_option maxHeartbeats 400000 in
theorem SameTexts_any (a1 a2 : Option Addr) (c1 c2 : Nat) (xs ys : List ByteArray) (w : World) (hn1 : xs.length < 2147483648) (hn2 : ys.length < 2147483648) (h1 : SliceOf w a1 c1 xs) (h2 : SliceOf w a2 c2 ys) (heq : xs = ys) :
    Calls Tryd.prog 32 #[.slice a1 xs.length c1, .slice a2 ys.length c2] w (saysB w.heap.size w true) := by
  subst heq
  have H1 := Lib.hid h1
  have H2 := Lib.hid h2
  clear h1 h2
  go_enter Tryd.func32, Tryd.ntmps32
  go_wp2
  go_loopw [5] (fun i wr => ∃ k : Nat, k ≤ xs.length ∧ i = .int .i64 k ∧ Hid (Below w.heap.size w wr)) (fun i _ => xs.length - (intOf i).toNat)
  case atStart => exact ⟨0, Nat.zero_le _, rfl, Lib.hid (Below.refl _ _)⟩
  case round =>
    obtain ⟨k, hk, rfl, hb⟩ := hrel
    by_cases hlt : k < xs.length
    · rcases H1.out.below hb.out with h0 | ⟨b1, o1, rfl, g2, g3, g4⟩
      · rw [h0] at hlt; exact absurd hlt (by simp)
      · rcases H2.out.below hb.out with h0 | ⟨b2, o2, rfl, e2, e3, e4⟩
        · rw [h0] at hlt; exact absurd hlt (by simp)
        · have hc1 := g4 k _ (List.getElem?_eq_getElem hlt)
          have hc2 := e4 k _ (List.getElem?_eq_getElem hlt)
          clear g4 e4
          generalize xs[k] = x at hc1 hc2
          go_wp2_with fail
          go_quiet (fail)
          go_wp2
          go_roundw
          case rel => exact ⟨k + 1, by omega, by go_num, Lib.hid (below_drewN hb.out _)⟩
          case measure => simp [intOf]; omega
    · obtain rfl : k = xs.length := by omega
      go_wp2
      go_ret
      exact ⟨rfl, hb.out⟩

/-- Rising, each once. -/
def Rising (R : List ByteArray) : Prop := R.Pairwise (fun a b => a.data.toList < b.data.toList)
theorem Rising.at {R : List ByteArray} (h : Rising R) {i j : Nat} (hij : i < j) (hj : j < R.length) : R[i].data.toList < R[j].data.toList := List.pairwise_iff_getElem.1 h i j (by omega) hj hij
theorem Rising.ins {R : List ByteArray} {x : ByteArray} {k : Nat} (h : Rising R) (hk : k ≤ R.length) (h1 : ∀ j (hj : j < R.length), j < k → R[j].data.toList < x.data.toList) (h2 : ∀ hk : k < R.length, x.data.toList < R[k].data.toList) :
    Rising (R.take k ++ [x] ++ R.drop k) := by
  have h0 : Rising (R.take k ++ R.drop k) := by rwa [List.take_append_drop]
  obtain ⟨p1, p2, p3⟩ := List.pairwise_append.1 h0
  refine List.pairwise_append.2 ⟨List.pairwise_append.2 ⟨p1, List.pairwise_singleton _ _, fun a ha b hb => ?_⟩, p2, fun a ha b hb => ?_⟩
  · obtain rfl : b = x := by simpa using hb
    obtain ⟨j, hj, rfl⟩ := List.getElem_of_mem ha
    rw [List.getElem_take]
    exact h1 j (by simp at hj; omega) (by simp at hj; omega)
  · rcases List.mem_append.1 ha with ha | ha
    · exact p3 a ha b hb
    · obtain rfl : a = x := by simpa using ha
      obtain ⟨j, hj, rfl⟩ := List.getElem_of_mem hb
      rw [List.getElem_drop]
      have hj' : k + j < R.length := by simp at hj; omega
      by_cases e : j = 0
      · subst e; exact h2 (by omega)
      · exact List.lt_trans (h2 (by omega)) (h.at (by omega) hj')
theorem Rising.eq {R S : List ByteArray} (hR : Rising R) (hS : Rising S) (h : ∀ x, x ∈ R ↔ x ∈ S) : R = S := by
  have nd : ∀ {L : List ByteArray}, Rising L → L.Nodup := fun hL => hL.imp fun h e => by rw [e] at h; exact List.lt_irrefl _ h
  have hp : R.Perm S := (List.perm_ext_iff_of_nodup (nd hR) (nd hS)).2 h
  refine List.Perm.eq_of_pairwise (le := fun a b : ByteArray => a.data.toList < b.data.toList) (fun a b _ _ h1 h2 => ?_) hR hS hp
  exact absurd (List.lt_trans h1 h2) (List.lt_irrefl _)
theorem mem_ins {R : List ByteArray} {x : ByteArray} (k : Nat) (y : ByteArray) : y ∈ R.take k ++ [x] ++ R.drop k ↔ y ∈ R ∨ y = x := by
  have : y ∈ R ↔ y ∈ R.take k ∨ y ∈ R.drop k := by rw [← List.mem_append, List.take_append_drop]
  rw [List.mem_append, List.mem_append, this]
  simp only [List.mem_singleton]
  constructor
  · rintro ((h | h) | h)
    · exact .inl (.inl h)
    · exact .inr h
    · exact .inl (.inr h)
  · rintro ((h | h) | h)
    · exact .inl (.inl h)
    · exact .inr h
    · exact .inl (.inr h)
theorem mem_next {xs : List ByteArray} {i : Nat} (h : i < xs.length) (y : ByteArray) : y ∈ xs.take (i + 1) ↔ y ∈ xs.take i ∨ y = xs[i] := by
  rw [List.take_succ_eq_append_getElem h, List.mem_append, List.mem_singleton]
theorem sliceCap {W : World} {B : Nat} {ao : Option Addr} {n c : Nat} {xs : List ByteArray} (h : Owned W B (.slice ao n c) xs) : xs.length ≤ c := by
  rcases h.2 with ⟨e, h0⟩ | ⟨g, cap, cur, e, _, _, hn, _⟩
  · omega
  · simp only [Value.slice.injEq] at e
    omega
theorem Owned.base {W : World} {B B' : Nat} {v : Value} {xs : List ByteArray} (h : Owned W B v xs) (hb : B' ≤ B) : Owned W B' v xs :=
  ⟨h.1, h.2.imp id fun ⟨g, cap, cur, h1, h2, h3⟩ => ⟨g, cap, cur, h1, Nat.le_trans hb h2, h3⟩⟩
theorem less_no {a b : ByteArray} (h : ¬ a.data.toList < b.data.toList) : Op.bytesLess a.toList b.toList = false := by
  rw [ByteArray.toList_eq, ByteArray.toList_eq, bytesLess_eq]; exact decide_eq_false h
theorem less_yes {a b : ByteArray} (h : a.data.toList < b.data.toList) : Op.bytesLess a.toList b.toList = true := by
  rw [ByteArray.toList_eq, ByteArray.toList_eq, bytesLess_eq]; exact decide_eq_true h
theorem less_next {a b : ByteArray} (h : ¬ a.data.toList < b.data.toList) (hne : ¬ a = b) : b.data.toList < a.data.toList := by
  rcases List.le_iff_lt_or_eq.1 (List.not_lt.1 h) with h1 | h1
  · exact h1
  · exact absurd (text_inj h1).symm hne

set_option maxRecDepth 100000 in
set_option maxHeartbeats 800000 in
theorem SortedTexts_any (ao : Option Addr) (c : Nat) (xs : List ByteArray) (w : World) (hn : xs.length < 1073741824) (hL : SliceOf w ao c xs) :
    Calls Tryd.prog 54 #[.slice ao xs.length c] w fun e w' => ∃ v R, e = .returned v ∧ Owned w' w.heap.size v R ∧ Rising R ∧ (∀ x, x ∈ R ↔ x ∈ xs) ∧ Below w.heap.size w w' := by
  obtain ⟨i0, hi, hz0, hz1, hz2⟩ := info_parts info_text
  have HL := Lib.hid hL
  clear hL
  have hmk := fun n (hn : n ≤ 1073741825) => fun W => run_make (P := Tryd.prog) W 22 9 i0 (.string ⟨#[]⟩) Tryd.underlying22 hi hz0 .i64 .i64 0 ((n : Nat) : Int) (by omega) (by omega) (by rw [hz2]; omega) (by omega)
  have HMK := Lib.hid hmk
  clear hmk
  go_enter Tryd.func54, Tryd.ntmps54
  go_wp2
  go_loopw [3, 4] (fun v i wr => ∃ k : Nat, ∃ R : List ByteArray, k ≤ xs.length ∧ i = .int .i64 k ∧ R.length ≤ k ∧ Hid (Rising R) ∧ Hid (∀ x, x ∈ R ↔ x ∈ xs.take k) ∧ Hid (Below w.heap.size w wr) ∧ (∃ a1 c1, v = .slice a1 R.length c1 ∧ R.length ≤ c1 ∧ Hid (Owned wr w.heap.size (.slice a1 R.length c1) R))) (fun _ i _ => xs.length - (intOf i).toNat)
  case atStart => exact ⟨0, [], Nat.zero_le _, rfl, Nat.zero_le _, Lib.hid List.Pairwise.nil, Lib.hid (by simp), Lib.hid (Below.refl _ _), ⟨none, 0, rfl, Nat.le_refl _, Lib.hid (World.ownsRow_nil _ _ _ _)⟩⟩
  case round =>
    obtain ⟨i, R, hk, rfl, hRk, hup, hmem, hb, a1, c1, rfl, hc1, hown⟩ := hrel
    by_cases hlt : i < xs.length
    · rcases HL.out.below hb.out with h0 | ⟨bk, o, rfl, g2, g3, g4⟩
      · rw [h0] at hlt; exact absurd hlt (by simp)
      · have hcx := g4 i _ (List.getElem?_eq_getElem hlt)
        clear g4
        have HMN := Lib.hid (mem_next hlt)
        have hsz := hb.out.size
        generalize xs[i] = x at hcx HMN
        go_wp2_with fail
        obtain ⟨wo, rfl⟩ : ∃ wo : World, wo = wr := ⟨_, rfl⟩
        go_loopw [5] (fun v wz => ∃ k : Nat, v = .int .i64 k ∧ k ≤ R.length ∧ Hid (∀ j (hj : j < R.length), j < k → R[j].data.toList < x.data.toList) ∧ Hid (Below wo.heap.size wo wz)) (fun v _ => R.length - (intOf v).toNat)
        case atStart => exact ⟨0, rfl, Nat.zero_le _, Lib.hid fun _ _ h => absurd h (by omega), Lib.hid (Below.refl _ _)⟩
        case round =>
          obtain ⟨k, rfl, hkR, hlow, hbz⟩ := hrel
          have hcx2 := (hbz.out.cell (p := ⟨bk, o + i, none⟩) g3).trans hcx
          by_cases hkl : k < R.length
          · obtain ⟨a0, c0, ev, hS⟩ := (Owned.below hown.out hbz.out).slice
            simp only [Value.slice.injEq, true_and] at ev
            obtain ⟨rfl, rfl⟩ := ev
            rcases hS with h0 | ⟨b2, o2, rfl, e2, e3, e4⟩
            · rw [h0] at hkl; exact absurd hkl (by simp)
            · have hcr := e4 k _ (List.getElem?_eq_getElem hkl)
              clear e4
              by_cases hless : R[k].data.toList < x.data.toList
              · have hl := less_yes hless
                have hlow' : Hid (∀ j (hj : j < R.length), j < k + 1 → R[j].data.toList < x.data.toList) := Lib.hid fun j hj hjk => by
                  by_cases e : j = k
                  · subst e; exact hless
                  · exact hlow.out j hj (by omega)
                clear hlow hless
                generalize R[k] = y at hcr hl
                go_wp2_with fail
                go_quiet (fail)
                go_wp2
                go_roundw
                case rel => exact ⟨k + 1, by go_num, by omega, hlow', Lib.hid (below_drewN hbz.out _)⟩
                case measure => simp [intOf]; omega
              · have hl := less_no hless
                have HGE := Lib.hid hless
                clear hless
                by_cases heq : R[k] = x
                · have HM : Hid (∀ y, y ∈ R ↔ y ∈ xs.take (i + 1)) := Lib.hid fun y => by
                    rw [HMN.out, ← hmem.out]
                    refine ⟨.inl, fun h => h.elim id fun e => ?_⟩
                    rw [e, ← heq]; exact List.getElem_mem hkl
                  rw [heq] at hcr hl
                  clear heq HGE
                  go_wp2_with fail
                  go_quiet (fail)
                  go_wp2
                  go_quiet (fail)
                  go_wp2
                  go_roundw
                  case rel => exact ⟨i + 1, R, by omega, by go_num, by omega, hup, HM, Lib.hid (hb.out.trans ((below_drewN hbz.out _).mono hsz)), ⟨_, _, rfl, hc1, Lib.hid (Owned.below hown.out (below_drewN hbz.out _))⟩⟩
                  case measure => simp [intOf]; omega
                · have hne := texts_ne heq
                  have hgt := less_next HGE.out heq
                  have HUP : Hid (Rising (R.take k ++ [x] ++ R.drop k)) := Lib.hid (hup.out.ins (by omega) hlow.out fun _ => hgt)
                  clear heq HGE hgt
                  generalize R[k] = y at hcr hl hne
                  go_wp2_with fail
                  go_quiet (fail)
                  have hbA := Lib.hid (below_drewN hbz.out nq)
                  have hcrA : (wr.drewN nq).cell? ⟨b2, o2 + k, none⟩ = some (.string y) := hcr
                  have hcxA : (wr.drewN nq).cell? ⟨bk, o + i, none⟩ = some (.string x) := hcx2
                  clear hcr hcx2
                  generalize wr.drewN nq = wA at hbA hcrA hcxA ⊢
                  go_wp2_with fail
                  go_quiet (fail)
                  have hbB := Lib.hid (below_drewN hbA.out nq)
                  have hcxB : (wA.drewN nq).cell? ⟨bk, o + i, none⟩ = some (.string x) := hcxA
                  clear hcrA hcxA hbA
                  generalize wA.drewN nq = W at hbB hcxB ⊢
                  have hOW := Owned.below hown.out hbB.out
                  have HS := Lib.hid (show SliceOf W (some ⟨b2, o2, none⟩) c1 R from by
                    obtain ⟨a0, c0, ev, hS⟩ := hOW.slice
                    simp only [Value.slice.injEq, true_and] at ev
                    obtain ⟨rfl, rfl⟩ := ev
                    exact hS)
                  clear hOW
                  have hzW := hbB.out.size
                  have hm0 := HMK.out (R.length + 1) (by omega)
                  simp at hm0
                  rw [hz1] at hm0
                  have hw0 : IntKind.i64.wrap ((R.length : Int) + 1) = (R.length : Int) + 1 := IntWalk.i64_in _ ⟨by omega, by omega⟩
                  have k1 : k ≤ c1 := by omega
                  have k2 : (k : Int) ≤ (c1 : Int) := by omega
                  have k3 : ¬ (c1 < k) := by omega
                  have k4 : ¬ ((c1 : Int) < (k : Int)) := by omega
                  go_wp2_with fail
                  go_region_law (refine step_append_texts _ rfl (.tmp 48) (.tmp 51) rfl W.heap.size (.slice (some ⟨W.heap.size, 0, none⟩) 0 (R.length + 1)) [] (R.take k) (by simp [Act.eval]) (World.ownsRow_made _ _ _ (Nat.le_refl _) (by unfold maxLen; omega) (by simp [madeCells])) _ k c1 (by simp [Act.eval]) (by rw [List.length_take]; omega) ((HS.out.below ((Below.refl _ _).drew.alloc (Nat.le_refl _) _)).take k) (by simp; omega) (by simp) ?_; intro vN wN hownN hbN hzN)
                  have BN := Lib.hid (((Below.refl W.heap.size W).alloc (Nat.le_refl _) (.cells (madeCells #[Value.string ⟨#[]⟩] (R.length + 1)) 9)).drew.trans hbN)
                  rw [List.nil_append] at hownN
                  have ON := Lib.hid hownN
                  have hzN' := BN.out.size
                  have SD := Lib.hid (fun V (h : SliceOf V (some ⟨b2, o2, none⟩) c1 R) => (show SliceOf V (some ⟨b2, o2 + k, none⟩) (c1 - k) (R.drop k) from by
                    have h1 := h.drop k (by omega)
                    rw [if_neg (by omega)] at h1
                    simpa [Addr.add_mid] using h1))
                  have hcxN : wN.cell? ⟨bk, o + i, none⟩ = some (.string x) := (BN.out.cell (p := ⟨bk, o + i, none⟩) (by show bk < W.heap.size; omega)).trans hcxB
                  clear hownN hbN hzN hm0 hcxB
                  go_wp2_with (first
                    | (at_builtin; refine append_texts (wN.alloc (.cells #[.string x] 9)) rfl (.tmp 53) (.tmp 58) rfl W.heap.size _ (R.take k) [x] rfl (Owned.below ON.out ((Below.refl _ _).alloc (Nat.le_refl _) _)) _ 1 rfl (one_slice wN x) (by simp; omega) (by simp; omega) ?_; intro v2 w2 hown2 hb2 hz2; have O2 := Lib.hid hown2; have B4 := Lib.hid ((BN.out.alloc hzN' _).trans hb2); clear hown2 hb2)
                    | (at_builtin; refine append_texts_n w2 rfl (.tmp 60) (.tmp 63) rfl W.heap.size _ (R.take k ++ [x]) (R.drop k) rfl O2.out (some ⟨b2, o2 + k, none⟩) (R.length - k) (c1 - k) rfl (by simp) (SD.out _ (HS.out.below B4.out)) (by simp only [List.length_append, List.length_take, List.length_drop, List.length_singleton]; omega) B4.out.size ?_; intro v3 w3 hown3 hb3 hz3; have O3 := Lib.hid hown3; have B5 := Lib.hid (B4.out.trans hb3); clear hown3 hb3))
                  go_roundw
                  case rel =>
                    obtain ⟨a9, c9, rfl, hs9⟩ := O3.out.slice
                    exact ⟨i + 1, R.take k ++ [x] ++ R.drop k, by omega, by go_num, by simp only [List.length_append, List.length_take, List.length_drop, List.length_singleton]; omega, HUP, Lib.hid (fun y => by rw [mem_ins, HMN.out, hmem.out]), Lib.hid (hb.out.trans ((hbB.out.trans (B5.out.mono hzW)).mono hsz)), ⟨a9, c9, rfl, sliceCap O3.out, Lib.hid (O3.out.base (by omega))⟩⟩
                  case measure => simp [intOf]; omega
          · have HUP : Hid (Rising (R.take k ++ [x] ++ R.drop k)) := Lib.hid (hup.out.ins (by omega) hlow.out fun h => absurd h hkl)
            have hcr0 : wr.cell? ⟨bk, o + i, none⟩ = some (.string x) := hcx2
            clear hcx2
            have hdrop : R.drop k = [] := List.drop_eq_nil_of_le (by omega)
            have HDR := Lib.hid hdrop
            clear hdrop
            have hOW0 := Owned.below hown.out hbz.out
            obtain ⟨ao2, ca2, ev, hS⟩ := hOW0.slice
            simp only [Value.slice.injEq, true_and] at ev
            obtain ⟨rfl, rfl⟩ := ev
            have HSA := Lib.hid hS
            clear hS hOW0
            go_wp2_with fail
            go_quiet (fail)
            have hbA := Lib.hid (below_drewN hbz.out nq)
            have hcxA : (wr.drewN nq).cell? ⟨bk, o + i, none⟩ = some (.string x) := hcr0
            have HSB : Hid (SliceOf (wr.drewN nq) a1 c1 R) := HSA
            clear hcr0 HSA
            generalize wr.drewN nq = wA at hbA hcxA HSB ⊢
            go_wp2_with fail
            go_quiet (fail)
            have hbB := Lib.hid (below_drewN hbA.out nq)
            have hcxB : (wA.drewN nq).cell? ⟨bk, o + i, none⟩ = some (.string x) := hcxA
            have HS : Hid (SliceOf (wA.drewN nq) a1 c1 R) := HSB
            clear hcxA hbA HSB
            generalize wA.drewN nq = W at hbB hcxB HS ⊢
            cases a1 with
            | none =>
              have hzW := hbB.out.size
              have hm0 := HMK.out (R.length + 1) (by omega)
              simp at hm0
              rw [hz1] at hm0
              have hw0 : IntKind.i64.wrap ((R.length : Int) + 1) = (R.length : Int) + 1 := IntWalk.i64_in _ ⟨by omega, by omega⟩
              have k1 : k ≤ c1 := by omega
              have k2 : (k : Int) ≤ (c1 : Int) := by omega
              have k3 : ¬ (c1 < k) := by omega
              have k4 : ¬ ((c1 : Int) < (k : Int)) := by omega
              go_wp2_with fail
              go_region_law (refine step_append_texts _ rfl (.tmp 48) (.tmp 51) rfl W.heap.size (.slice (some ⟨W.heap.size, 0, none⟩) 0 (R.length + 1)) [] (R.take k) (by simp [Act.eval]) (World.ownsRow_made _ _ _ (Nat.le_refl _) (by unfold maxLen; omega) (by simp [madeCells])) _ k c1 (by simp [Act.eval]) (by rw [List.length_take]; omega) ((HS.out.below ((Below.refl _ _).drew.alloc (Nat.le_refl _) _)).take k) (by simp; omega) (by simp) ?_; intro vN wN hownN hbN hzN)
              have BN := Lib.hid (((Below.refl W.heap.size W).alloc (Nat.le_refl _) (.cells (madeCells #[Value.string ⟨#[]⟩] (R.length + 1)) 9)).drew.trans hbN)
              rw [List.nil_append] at hownN
              have ON := Lib.hid hownN
              have hzN' := BN.out.size
              have SD := Lib.hid (fun V (_ : SliceOf V none c1 R) => (show SliceOf V none (c1 - k) (R.drop k) from .inl HDR.out))
              have hcxN : wN.cell? ⟨bk, o + i, none⟩ = some (.string x) := (BN.out.cell (p := ⟨bk, o + i, none⟩) (by show bk < W.heap.size; omega)).trans hcxB
              clear hownN hbN hzN hm0 hcxB
              go_wp2_with (first
                | (at_builtin; refine append_texts (wN.alloc (.cells #[.string x] 9)) rfl (.tmp 53) (.tmp 58) rfl W.heap.size _ (R.take k) [x] rfl (Owned.below ON.out ((Below.refl _ _).alloc (Nat.le_refl _) _)) _ 1 rfl (one_slice wN x) (by simp; omega) (by simp; omega) ?_; intro v2 w2 hown2 hb2 hz2; have O2 := Lib.hid hown2; have B4 := Lib.hid ((BN.out.alloc hzN' _).trans hb2); clear hown2 hb2)
                | (at_builtin; refine append_texts_n w2 rfl (.tmp 60) (.tmp 63) rfl W.heap.size _ (R.take k ++ [x]) (R.drop k) rfl O2.out none (R.length - k) (c1 - k) rfl (by simp) (SD.out _ (HS.out.below B4.out)) (by simp only [List.length_append, List.length_take, List.length_drop, List.length_singleton]; omega) B4.out.size ?_; intro v3 w3 hown3 hb3 hz3; have O3 := Lib.hid hown3; have B5 := Lib.hid (B4.out.trans hb3); clear hown3 hb3))
              go_roundw
              case rel =>
                obtain ⟨a9, c9, rfl, hs9⟩ := O3.out.slice
                exact ⟨i + 1, R.take k ++ [x] ++ R.drop k, by omega, by go_num, by simp only [List.length_append, List.length_take, List.length_drop, List.length_singleton]; omega, HUP, Lib.hid (fun y => by rw [mem_ins, HMN.out, hmem.out]), Lib.hid (hb.out.trans ((hbB.out.trans (B5.out.mono hzW)).mono hsz)), ⟨a9, c9, rfl, sliceCap O3.out, Lib.hid (O3.out.base (by omega))⟩⟩
              case measure => simp [intOf]; omega
            | some ad =>
              by_cases hck : c1 = k
              · obtain rfl : k = c1 := hck.symm
                have hzW := hbB.out.size
                have hm0 := HMK.out (R.length + 1) (by omega)
                simp at hm0
                rw [hz1] at hm0
                have hw0 : IntKind.i64.wrap ((R.length : Int) + 1) = (R.length : Int) + 1 := IntWalk.i64_in _ ⟨by omega, by omega⟩
                have k1 : k ≤ k := by omega
                have k2 : (k : Int) ≤ (k : Int) := by omega
                have k3 : ¬ (k < k) := by omega
                have k4 : ¬ ((k : Int) < (k : Int)) := by omega
                go_wp2_with fail
                go_region_law (refine step_append_texts _ rfl (.tmp 48) (.tmp 51) rfl W.heap.size (.slice (some ⟨W.heap.size, 0, none⟩) 0 (R.length + 1)) [] (R.take k) (by simp [Act.eval]) (World.ownsRow_made _ _ _ (Nat.le_refl _) (by unfold maxLen; omega) (by simp [madeCells])) _ k k (by simp [Act.eval]) (by rw [List.length_take]; omega) ((HS.out.below ((Below.refl _ _).drew.alloc (Nat.le_refl _) _)).take k) (by simp; omega) (by simp) ?_; intro vN wN hownN hbN hzN)
                have BN := Lib.hid (((Below.refl W.heap.size W).alloc (Nat.le_refl _) (.cells (madeCells #[Value.string ⟨#[]⟩] (R.length + 1)) 9)).drew.trans hbN)
                rw [List.nil_append] at hownN
                have ON := Lib.hid hownN
                have hzN' := BN.out.size
                have SD := Lib.hid (fun V (_ : SliceOf V (some ad) k R) => (show SliceOf V (some ad) 0 (R.drop k) from .inl HDR.out))
                have hcxN : wN.cell? ⟨bk, o + i, none⟩ = some (.string x) := (BN.out.cell (p := ⟨bk, o + i, none⟩) (by show bk < W.heap.size; omega)).trans hcxB
                clear hownN hbN hzN hm0 hcxB
                go_wp2_with (first
                  | (at_builtin; refine append_texts (wN.alloc (.cells #[.string x] 9)) rfl (.tmp 53) (.tmp 58) rfl W.heap.size _ (R.take k) [x] rfl (Owned.below ON.out ((Below.refl _ _).alloc (Nat.le_refl _) _)) _ 1 rfl (one_slice wN x) (by simp; omega) (by simp; omega) ?_; intro v2 w2 hown2 hb2 hz2; have O2 := Lib.hid hown2; have B4 := Lib.hid ((BN.out.alloc hzN' _).trans hb2); clear hown2 hb2)
                  | (at_builtin; refine append_texts_n w2 rfl (.tmp 60) (.tmp 63) rfl W.heap.size _ (R.take k ++ [x]) (R.drop k) rfl O2.out (some ad) 0 0 rfl (by rw [List.length_drop]; omega) (SD.out _ (HS.out.below B4.out)) (by simp only [List.length_append, List.length_take, List.length_drop, List.length_singleton]; omega) B4.out.size ?_; intro v3 w3 hown3 hb3 hz3; have O3 := Lib.hid hown3; have B5 := Lib.hid (B4.out.trans hb3); clear hown3 hb3))
                go_roundw
                case rel =>
                  obtain ⟨a9, c9, rfl, hs9⟩ := O3.out.slice
                  exact ⟨i + 1, R.take k ++ [x] ++ R.drop k, by omega, by go_num, by simp only [List.length_append, List.length_take, List.length_drop, List.length_singleton]; omega, HUP, Lib.hid (fun y => by rw [mem_ins, HMN.out, hmem.out]), Lib.hid (hb.out.trans ((hbB.out.trans (B5.out.mono hzW)).mono hsz)), ⟨a9, c9, rfl, sliceCap O3.out, Lib.hid (O3.out.base (by omega))⟩⟩
                case measure => simp [intOf]; omega
              · have k5 : ¬ k = c1 := fun e => hck e.symm
                have hzW := hbB.out.size
                have hm0 := HMK.out (R.length + 1) (by omega)
                simp at hm0
                rw [hz1] at hm0
                have hw0 : IntKind.i64.wrap ((R.length : Int) + 1) = (R.length : Int) + 1 := IntWalk.i64_in _ ⟨by omega, by omega⟩
                have k1 : k ≤ c1 := by omega
                have k2 : (k : Int) ≤ (c1 : Int) := by omega
                have k3 : ¬ (c1 < k) := by omega
                have k4 : ¬ ((c1 : Int) < (k : Int)) := by omega
                go_wp2_with fail
                go_region_law (refine step_append_texts _ rfl (.tmp 48) (.tmp 51) rfl W.heap.size (.slice (some ⟨W.heap.size, 0, none⟩) 0 (R.length + 1)) [] (R.take k) (by simp [Act.eval]) (World.ownsRow_made _ _ _ (Nat.le_refl _) (by unfold maxLen; omega) (by simp [madeCells])) _ k c1 (by simp [Act.eval]) (by rw [List.length_take]; omega) ((HS.out.below ((Below.refl _ _).drew.alloc (Nat.le_refl _) _)).take k) (by simp; omega) (by simp) ?_; intro vN wN hownN hbN hzN)
                have BN := Lib.hid (((Below.refl W.heap.size W).alloc (Nat.le_refl _) (.cells (madeCells #[Value.string ⟨#[]⟩] (R.length + 1)) 9)).drew.trans hbN)
                rw [List.nil_append] at hownN
                have ON := Lib.hid hownN
                have hzN' := BN.out.size
                have SD := Lib.hid (fun V (_ : SliceOf V (some ad) c1 R) => (show SliceOf V (some (ad.add k)) (c1 - k) (R.drop k) from .inl HDR.out))
                have hcxN : wN.cell? ⟨bk, o + i, none⟩ = some (.string x) := (BN.out.cell (p := ⟨bk, o + i, none⟩) (by show bk < W.heap.size; omega)).trans hcxB
                clear hownN hbN hzN hm0 hcxB
                go_wp2_with (first
                  | (at_builtin; refine append_texts (wN.alloc (.cells #[.string x] 9)) rfl (.tmp 53) (.tmp 58) rfl W.heap.size _ (R.take k) [x] rfl (Owned.below ON.out ((Below.refl _ _).alloc (Nat.le_refl _) _)) _ 1 rfl (one_slice wN x) (by simp; omega) (by simp; omega) ?_; intro v2 w2 hown2 hb2 hz2; have O2 := Lib.hid hown2; have B4 := Lib.hid ((BN.out.alloc hzN' _).trans hb2); clear hown2 hb2)
                  | (at_builtin; refine append_texts_n w2 rfl (.tmp 60) (.tmp 63) rfl W.heap.size _ (R.take k ++ [x]) (R.drop k) rfl O2.out (some (ad.add k)) (R.length - k) (c1 - k) rfl (by simp) (SD.out _ (HS.out.below B4.out)) (by simp only [List.length_append, List.length_take, List.length_drop, List.length_singleton]; omega) B4.out.size ?_; intro v3 w3 hown3 hb3 hz3; have O3 := Lib.hid hown3; have B5 := Lib.hid (B4.out.trans hb3); clear hown3 hb3))
                go_roundw
                case rel =>
                  obtain ⟨a9, c9, rfl, hs9⟩ := O3.out.slice
                  exact ⟨i + 1, R.take k ++ [x] ++ R.drop k, by omega, by go_num, by simp only [List.length_append, List.length_take, List.length_drop, List.length_singleton]; omega, HUP, Lib.hid (fun y => by rw [mem_ins, HMN.out, hmem.out]), Lib.hid (hb.out.trans ((hbB.out.trans (B5.out.mono hzW)).mono hsz)), ⟨a9, c9, rfl, sliceCap O3.out, Lib.hid (O3.out.base (by omega))⟩⟩
                case measure => simp [intOf]; omega
    · obtain rfl : i = xs.length := by omega
      go_wp2
      go_ret
      exact ⟨_, R, rfl, hown.out, hup.out, by have := hmem.out; rwa [List.take_length] at this, hb.out⟩

end Go.Proofs.YteokigpeaggemaaDoor
