/- smithylaw2.ShaSays answers true at every list of bytes, every list of texts and every text. Conditions: the package's tables are as its text lays them; the errors of api lie in their variables. -/
import Derived.Test.YtffmldplchlnpaaDoorShaBoth
import Derived.Test.YtffmldplchlnpaaDoorMany
import Derived.Deep.RegionWith
import Derived.RegionCalls
import Derived.Deep.RegionHeld3
namespace Go.Proofs.YtffmldplchlnpaaDoor
open Go.RowKit

theorem info_sum' : (Tryd.prog.info? 26).map (·.size) = some 32 := by kernel_rfl

set_option maxRecDepth 100000 in
set_option maxHeartbeats 3200000 in
theorem ShaSays_any (A : Nat → Addr) (ao : Option Addr) (cap : Nat) (b : List UInt8) (ao2 : Option Addr) (cap2 : Nat) (xs : List ByteArray) (s : ByteArray) (w : World) (hcap : b.length ≤ cap) (hX : Src w ao b) (hY : TextsAt w ao2 xs) (hT : Tabs w) (h1 : 2 < w.heap.size) (hS : Sent A w) :
    Calls Tryd.prog 3 #[.slice ao b.length cap, .slice ao2 xs.length cap2, .string s] w fun e w' => e = .returned (.bool true) ∧ Below w.heap.size w w' := by
  have HX := hidden hX
  have HY := hidden hY
  have HT := hidden hT
  have HS := hidden hS
  have hex := hidden (example_any w hT h1)
  obtain ⟨bs, is, v, hbl, hv, hPa, hDi⟩ := parse_both A s
  have HV := hidden hv
  have HPA := hidden hPa
  have HDI := hidden hDi
  obtain ⟨l, hl⟩ : ∃ l, b.length = l := ⟨_, rfl⟩
  have HL := hidden hl
  obtain ⟨k, hk⟩ : ∃ k, xs.length = k := ⟨_, rfl⟩
  have HK := hidden hk
  rw [hl] at hcap ⊢
  rw [hk]
  clear hX hY hT hS hl hk hv hPa hDi
  by_cases hb1 : 1000 < l
  · go_enter Tryd.func3, Tryd.ntmps3
    go_wp2_with (go_at_call 6; refine hex.out.mono ?_; rintro e w1 ⟨rfl, hb1⟩)
    go_ret
    exact ⟨rfl, hb1⟩
  by_cases hb2 : 20 < k
  · go_enter Tryd.func3, Tryd.ntmps3
    go_wp2_with (go_at_call 6; refine hex.out.mono ?_; rintro e w1 ⟨rfl, hb1⟩)
    go_ret
    exact ⟨rfl, hb1⟩
  by_cases hb3 : 100 < s.size
  · go_enter Tryd.func3, Tryd.ntmps3
    go_wp2_with (go_at_call 6; refine hex.out.mono ?_; rintro e w1 ⟨rfl, hb1⟩)
    go_ret
    exact ⟨rfl, hb1⟩
  go_enter Tryd.func3, Tryd.ntmps3
  go_wp2_with (go_at_call 6; refine hex.out.mono ?_; rintro e w1 ⟨rfl, hb1⟩)
  have hs1 := hb1.size
  have HB1 := hidden hb1
  clear hb1
  go_loopw [8] (fun i wr => ∃ t : Nat, t ≤ k ∧ i = .int .i64 t ∧ Hid (∀ j (hj : j < xs.length), j < t → xs[j].size ≤ 200) ∧ wr = w1) (fun i _ => k - (intOf i).toNat)
  case atStart => exact ⟨0, Nat.zero_le _, rfl, fun j hj h => absurd h (by omega), rfl⟩
  case round =>
    obtain ⟨t, ht, rfl, hsm, rfl⟩ := hrel
    by_cases hlt : t < k
    · have hlt' : t < xs.length := by have := HK.out; omega
      rcases HY.out with h0 | ⟨bk, o, rfl, hbk, hcell⟩
      · rw [h0] at hlt'; exact absurd hlt' (by simp)
      · have hc0 : wr.cell? ⟨bk, o + t, none⟩ = some (.string xs[t]) := (HB1.out.cell (p := ⟨bk, o + t, none⟩) hbk).trans (hcell t _ (List.getElem?_eq_getElem hlt'))
        obtain ⟨x, hx⟩ : ∃ x, xs[t] = x := ⟨_, rfl⟩
        rw [hx] at hc0
        have HXE := hidden hx
        clear hcell hx
        by_cases h200 : 200 < x.size
        · go_wp2
          go_ret
          exact ⟨rfl, HB1.out⟩
        · have HSM : Hid (∀ j (hj : j < xs.length), j < t + 1 → xs[j].size ≤ 200) := hidden fun j hj hjt => by
            by_cases e : j = t
            · subst e
              rw [HXE.out]
              omega
            · exact hsm.out j hj (by omega)
          go_wp2
          go_roundw
          case rel => exact ⟨t + 1, by omega, by go_num, HSM, trivial⟩
          case measure => simp [intOf]; omega
    · have htk : t = k := by omega
      subst htk
      have hsm' : ∀ j (hj : j < xs.length), xs[j].size ≤ 200 := fun j hj => hsm.out j hj (by have := HK.out; omega)
      have HSM := hidden hsm'
      have hP := HPA.out wr (HS.out.below (HB1.out.mono (Nat.le_refl _)))
      have hcs := bcells_size bs
      rw [hbl] at hcs
      have hone := bcells_one bs _ rfl
      have hsame := fun W => same_any bs hbl W
      have hD := HDI.out
      generalize bcells bs = cg at hP hcs hone hsame hD
      have HP := hidden hP
      have HD := hidden hD
      have HSA := hidden hsame
      clear hP hD hsame hsm' hsm
      go_wp2_with (go_at_call 7; refine HP.out.mono ?_; rintro e w2 ⟨rfl, hb2⟩)
      have hst : ∀ z : Array Value, z.size = 32 → (storeCells ⟨w2.heap.size, 0, none⟩ cg.toList 0).run Tryd.prog (w2.alloc (.cells z 26)) = .ok () (w2.alloc (.cells cg 26)) := fun z hz => run_storeCells_new (P := Tryd.prog) w2 26 z cg (by rw [hcs]; exact info_sum') (by omega) hone
      rw [hst]
      rotate_left
      · rfl
      clear hst
      have hb3 : Below wr.heap.size wr (w2.alloc (.cells cg 26)) := hb2.alloc hb2.size _
      have hr3 : (w2.alloc (.cells cg 26)).heap[w2.heap.size]? = some (.cells cg 26 (0, 0)) := heap_alloc_new _ _
      have hs3 : (w2.alloc (.cells cg 26)).heap.size = w2.heap.size + 1 := by simp
      obtain ⟨g9, hg9⟩ : ∃ g, w2.heap.size = g := ⟨_, rfl⟩
      rw [hg9] at hr3 hs3 ⊢
      generalize w2.alloc (.cells cg 26) = w3 at hb3 hr3 hs3 ⊢
      have HB3 := hidden hb3
      have HR3 := hidden hr3
      clear hb3 hr3 hb2 hg9
      go_wp2_with (go_at_call 8; refine (HD.out _).mono ?_; rintro e w4 ⟨rfl, hb4⟩)
      have hst : ∀ z : Array Value, z.size = 32 → (storeCells ⟨w4.heap.size, 0, none⟩ cg.toList 0).run Tryd.prog (w4.alloc (.cells z 25)) = .ok () (w4.alloc (.cells cg 25)) := fun z hz => run_storeCells_new (P := Tryd.prog) w4 25 z cg (by rw [hcs]; exact info_arr) (by omega) hone
      rw [hst]
      rotate_left
      · rfl
      clear hst
      have hs4 := hb4.size
      have hb5 : Below w3.heap.size w3 (w4.alloc (.cells cg 25)) := hb4.alloc hb4.size _
      have hr5 : (w4.alloc (.cells cg 25)).heap[w4.heap.size]? = some (.cells cg 25 (0, 0)) := heap_alloc_new _ _
      have hs5 : (w4.alloc (.cells cg 25)).heap.size = w4.heap.size + 1 := by simp
      obtain ⟨g11, hg11⟩ : ∃ g, w4.heap.size = g := ⟨_, rfl⟩
      rw [hg11] at hr5 hs5 ⊢
      generalize w4.alloc (.cells cg 25) = w5 at hb5 hr5 hs5 ⊢
      have HR9 := hidden (range_of ((hb5.block g9 (by omega)).trans HR3.out))
      have HR11 := hidden (range_of hr5)
      have hl9 : g9 < w5.heap.size := by omega
      have hl11 : g11 < w5.heap.size := by omega
      have hb05 : Below w.heap.size w w5 := HB1.out.trans ((HB3.out.mono hs1).trans (hb5.mono (by have := HB3.out.size; omega)))
      have HB5 := hidden hb05
      clear hb5 hr5 hs5 hb4 hs4 hg11 HB3 HR3 hs3 hb05
      have hsz5 := HB5.out.size
      have hX5 : ∀ W, Below w5.heap.size w5 W → Src W ao b := fun W hW hp => by
        obtain ⟨bk', off', e1, e2, e3⟩ := HX.out hp
        exact ⟨bk', off', e1, by have := hW.size; omega, (e3.below HB5.out e2).below hW (by omega)⟩
      have hY5 : ∀ W, Below w5.heap.size w5 W → TextsAt W ao2 xs := fun W hW => (HY.out.below HB5.out).below (hW.mono (Nat.le_refl _))
      have hT5 : ∀ W, Below w5.heap.size w5 W → Tabs W := fun W hW => (HT.out.below HB5.out h1 (by have := HT.out.lt; omega)).below hW (by omega) (by have := HT.out.lt; omega)
      have hS5 : ∀ W, Below w5.heap.size w5 W → Sent A W := fun W hW => (HS.out.below HB5.out).below hW
      have hcv : ∀ W, Below w5.heap.size w5 W → (convert 22 9 (.slice ao l cap)).run Tryd.prog W = .ok (.string ⟨b.toArray⟩) W := fun W hW => by have := conv_src cap (hX5 W hW); rwa [HL.out] at this
      have hOf : ∀ W, Below w5.heap.size w5 W → Calls Tryd.prog 10 #[.slice ao l cap] W fun e' W' => e' = .returned (.agg (bcells (digest b))) ∧ Below w5.heap.size w5 W' := fun W hW => by
        have hh := of_any ao cap b W (by rw [HL.out]; exact hcap) (by rw [HL.out]; omega) (hX5 W hW) (hT5 W hW) (by have := hW.size; omega)
        rw [HL.out] at hh
        exact hh.mono fun e' W' h' => ⟨h'.1, hW.trans (h'.2.mono hW.size)⟩
      have hRs : ∀ W, Below w5.heap.size w5 W → Calls Tryd.prog 12 #[.string ⟨b.toArray⟩] W fun e' W' => e' = .returned (.agg (bcells (digest b))) ∧ Below w5.heap.size w5 W' := fun W hW => by
        have hh := rsum_any ⟨b.toArray⟩ (by show b.toArray.size < 268435456; rw [List.size_toArray, HL.out]; omega) W
        exact hh.mono fun e' W' h' => ⟨h'.1, hW.trans (h'.2.mono hW.size)⟩
      have hml : (manyT xs).length ≤ 204 * t := by
        have h := manyT_small xs 200 t (by have := HK.out; omega) (fun j hj _ => HSM.out j hj)
        rwa [List.take_of_length_le (by have := HK.out; omega)] at h
      have hMn : ∀ W, Below w5.heap.size w5 W → Calls Tryd.prog 13 #[.slice ao2 t cap2] W fun e' W' => e' = .returned (.agg (bcells (digest (manyT xs)))) ∧ Below w5.heap.size w5 W' := fun W hW => by
        have hh := many_any xs ao2 cap2 W (by have := HK.out; omega) (by omega) (hY5 W hW) (hT5 W hW) (by have := hW.size; omega)
        rw [HK.out] at hh
        exact hh.mono fun e' W' h' => ⟨h'.1, hW.trans (h'.2.mono hW.size)⟩
      have hRm : ∀ W, Below w5.heap.size w5 W → Calls Tryd.prog 14 #[.slice ao2 t cap2] W fun e' W' => e' = .returned (.agg (bcells (digest (manyT xs)))) ∧ Below w5.heap.size w5 W' := fun W hW => by
        have hd := digest_len (manyT xs)
        have hh := rmany_core (bcells (digest (manyT xs))) (by rw [bcells_size, hd]) (bcells_one _ _ rfl) ao2 cap2 xs W (by have := HK.out; omega) HSM.out (hY5 W hW) (fun W' => rsum_any ⟨(manyT xs).toArray⟩ (by show (manyT xs).toArray.size < 268435456; rw [List.size_toArray]; omega) W')
        rw [HK.out] at hh
        exact hh.mono fun e' W' h' => ⟨h'.1, hW.trans (h'.2.mono hW.size)⟩
      have hdb := digest_len b
      have hdm := digest_len (manyT xs)
      generalize digest b = dgb at hOf hRs hdb
      generalize digest (manyT xs) = dgm at hMn hRm hdm
      have hTb : ∀ W, Below w5.heap.size w5 W → Calls Tryd.prog 9 #[.agg (bcells dgb)] W fun e' W' => e' = .returned (.string ⟨(hexT dgb).toArray⟩) ∧ Below w5.heap.size w5 W' := fun W hW => (text_any dgb hdb W).mono fun e' W' h' => ⟨h'.1, hW.trans (h'.2.mono hW.size)⟩
      have hHb : ∀ W, Below w5.heap.size w5 W → Calls Tryd.prog 11 #[.agg (bcells dgb)] W fun e' W' => e' = .returned (.string ⟨(hexT dgb).toArray⟩) ∧ Below w5.heap.size w5 W' := fun W hW => (hex_any dgb hdb W).mono fun e' W' h' => ⟨h'.1, hW.trans (h'.2.mono hW.size)⟩
      have hTm : ∀ W, Below w5.heap.size w5 W → Calls Tryd.prog 9 #[.agg (bcells dgm)] W fun e' W' => e' = .returned (.string ⟨(hexT dgm).toArray⟩) ∧ Below w5.heap.size w5 W' := fun W hW => (text_any dgm hdm W).mono fun e' W' h' => ⟨h'.1, hW.trans (h'.2.mono hW.size)⟩
      have hHm : ∀ W, Below w5.heap.size w5 W → Calls Tryd.prog 11 #[.agg (bcells dgm)] W fun e' W' => e' = .returned (.string ⟨(hexT dgm).toArray⟩) ∧ Below w5.heap.size w5 W' := fun W hW => (hex_any dgm hdm W).mono fun e' W' h' => ⟨h'.1, hW.trans (h'.2.mono hW.size)⟩
      generalize bcells dgb = cgb at hOf hRs hTb hHb
      generalize hexT dgb = hxb at hTb hHb
      generalize bcells dgm = cgm at hMn hRm hTm hHm
      generalize hexT dgm = hxm at hTm hHm
      have hSm : ∀ W, Below w5.heap.size w5 W → Calls Tryd.prog 16 #[.agg cg, .agg cg] W fun e' W' => e' = .returned (.bool true) ∧ Below w5.heap.size w5 W' := fun W hW => (HSA.out W).mono fun e' W' h' => ⟨h'.1, hW.trans (h'.2.mono hW.size)⟩
      have HCV := hidden hcv
      have HOF := hidden hOf
      have HRS := hidden hRs
      have HMN := hidden hMn
      have HRM := hidden hRm
      have HTB := hidden hTb
      have HHB := hidden hHb
      have HTM := hidden hTm
      have HHM := hidden hHm
      have HSM2 := hidden hSm
      have hu26 := Tryd.underlying26
      have hu25 := Tryd.underlying25
      have hi26 : (Tryd.prog.info? 26).map (·.size) = some cg.toList.length := by rw [Array.length_toList, hcs]; exact info_sum'
      have hi25 : (Tryd.prog.info? 25).map (·.size) = some cg.toList.length := by rw [Array.length_toList, hcs]; exact info_arr
      clear hcv hOf hRs hMn hRm hTb hHb hTm hHm hSm hX5 hY5 hT5 hml hdb hdm
      cases is with
      | true =>
        have hIs : ∀ W, Below w5.heap.size w5 W → Calls Tryd.prog 15 #[v, .int .i64 0] W fun e' W' => e' = .returned (.bool true) ∧ Below w5.heap.size w5 W' := fun W hW => (Is_bare 0 HV.out W (hS5 W hW)).mono fun e' W' h' => ⟨h'.1, hW.trans (h'.2.mono hW.size)⟩
        have HIS := hidden hIs
        clear hIs hS5
        go_wp2_with fail
        refine wp_region_held_drew (S := fun W => Below w5.heap.size w5 W) (by kernel_rfl) (Below.refl _ _).drew (fun hHeld => ?_)
        refine take_val (i := 0) (v := .slice ao l cap) rfl (by kernel_rfl) (by kernel_rfl) (by kernel_rfl) (some 58) rfl (fun _ _ _ h => h) (Or.inl ⟨by rfl, fun W hW => by go_simp⟩) hHeld ?_
        simp only [Act.put, List.setIfInBounds_toArray, List.set_cons_zero, List.set_cons_succ]
        refine take_val (i := 3) (v := .slice ao l cap) rfl (by kernel_rfl) (by kernel_rfl) (by kernel_rfl) (some 61) rfl (fun _ _ _ h => h) (Or.inl ⟨by rfl, fun W hW => by go_simp⟩) hHeld ?_
        simp only [Act.put, List.setIfInBounds_toArray, List.set_cons_zero, List.set_cons_succ]
        refine take_val (i := 4) (v := .string ⟨b.toArray⟩) rfl (by kernel_rfl) (by kernel_rfl) (by kernel_rfl) (some 62) rfl (fun _ _ _ h => h) (Or.inl ⟨by rfl, fun W hW => by have hc := HCV.out W hW; go_simp⟩) hHeld ?_
        simp only [Act.put, List.setIfInBounds_toArray, List.set_cons_zero, List.set_cons_succ]
        refine wpAnyH_ready (rs := [1]) (by kernel_rfl) (by simp) ?_
        refine AllReadyH.cons rfl (fun K hK => ?_) AllReadyH.nil
        go_simp
        refine (HOF.out _ (Below.refl _ _).drew).mono ?_
        rintro e' W3 ⟨rfl, hG⟩
        refine hK.out _ _ hG (fun hHeld => ?_)
        clear hK K
        refine wpAnyH_ready (rs := [2]) (by kernel_rfl) (by simp) ?_
        refine AllReadyH.cons rfl (fun K hK => ?_) AllReadyH.nil
        go_simp
        refine (HTB.out _ hG).mono ?_
        rintro e' W3 ⟨rfl, hG⟩
        refine hK.out _ _ hG (fun hHeld => ?_)
        clear hK K
        refine wpAnyH_ready (rs := [5]) (by kernel_rfl) (by simp) ?_
        refine AllReadyH.cons rfl (fun K hK => ?_) AllReadyH.nil
        go_simp
        refine (HRS.out _ hG).mono ?_
        rintro e' W3 ⟨rfl, hG⟩
        refine hK.out _ _ hG (fun hHeld => ?_)
        clear hK K
        refine wpAnyH_ready (rs := [6]) (by kernel_rfl) (by simp) ?_
        refine AllReadyH.cons rfl (fun K hK => ?_) AllReadyH.nil
        go_simp
        refine (HHB.out _ hG).mono ?_
        rintro e' W3 ⟨rfl, hG⟩
        refine hK.out _ _ hG (fun hHeld => ?_)
        clear hK K
        refine take_val (i := 7) (v := .bool true) rfl (by kernel_rfl) (by kernel_rfl) (by kernel_rfl) (some 65) rfl (fun _ _ _ h => h) (Or.inl ⟨by rfl, fun W hW => by go_simp⟩) hHeld ?_
        simp only [Act.put, List.setIfInBounds_toArray, List.set_cons_zero, List.set_cons_succ]
        refine take_val (i := 8) (v := .bool true) rfl (by kernel_rfl) (by kernel_rfl) (by kernel_rfl) (some 66) rfl (fun _ _ _ h => h) (Or.inl ⟨by rfl, fun W hW => by go_simp⟩) hHeld ?_
        simp only [Act.put, List.setIfInBounds_toArray, List.set_cons_zero, List.set_cons_succ]
        refine take_val (i := 9) (v := .slice ao2 t cap2) rfl (by kernel_rfl) (by kernel_rfl) (by kernel_rfl) (some 67) rfl (fun _ _ _ h => h) (Or.inl ⟨by rfl, fun W hW => by go_simp⟩) hHeld ?_
        simp only [Act.put, List.setIfInBounds_toArray, List.set_cons_zero, List.set_cons_succ]
        refine take_val (i := 12) (v := .slice ao2 t cap2) rfl (by kernel_rfl) (by kernel_rfl) (by kernel_rfl) (some 70) rfl (fun _ _ _ h => h) (Or.inl ⟨by rfl, fun W hW => by go_simp⟩) hHeld ?_
        simp only [Act.put, List.setIfInBounds_toArray, List.set_cons_zero, List.set_cons_succ]
        refine wpAnyH_ready (rs := [10]) (by kernel_rfl) (by simp) ?_
        refine AllReadyH.cons rfl (fun K hK => ?_) AllReadyH.nil
        go_simp
        refine (HMN.out _ hG).mono ?_
        rintro e' W3 ⟨rfl, hG⟩
        refine hK.out _ _ hG (fun hHeld => ?_)
        clear hK K
        refine wpAnyH_ready (rs := [11]) (by kernel_rfl) (by simp) ?_
        refine AllReadyH.cons rfl (fun K hK => ?_) AllReadyH.nil
        go_simp
        refine (HTM.out _ hG).mono ?_
        rintro e' W3 ⟨rfl, hG⟩
        refine hK.out _ _ hG (fun hHeld => ?_)
        clear hK K
        refine wpAnyH_ready (rs := [13]) (by kernel_rfl) (by simp) ?_
        refine AllReadyH.cons rfl (fun K hK => ?_) AllReadyH.nil
        go_simp
        refine (HRM.out _ hG).mono ?_
        rintro e' W3 ⟨rfl, hG⟩
        refine hK.out _ _ hG (fun hHeld => ?_)
        clear hK K
        refine wpAnyH_ready (rs := [14]) (by kernel_rfl) (by simp) ?_
        refine AllReadyH.cons rfl (fun K hK => ?_) AllReadyH.nil
        go_simp
        refine (HHM.out _ hG).mono ?_
        rintro e' W3 ⟨rfl, hG⟩
        refine hK.out _ _ hG (fun hHeld => ?_)
        clear hK K
        refine take_val (i := 15) (v := .bool true) rfl (by kernel_rfl) (by kernel_rfl) (by kernel_rfl) (some 73) rfl (fun _ _ _ h => h) (Or.inl ⟨by rfl, fun W hW => by go_simp⟩) hHeld ?_
        simp only [Act.put, List.setIfInBounds_toArray, List.set_cons_zero, List.set_cons_succ]
        refine take_val (i := 16) (v := .bool true) rfl (by kernel_rfl) (by kernel_rfl) (by kernel_rfl) (some 74) rfl (fun _ _ _ h => h) (Or.inl ⟨by rfl, fun W hW => by go_simp⟩) hHeld ?_
        simp only [Act.put, List.setIfInBounds_toArray, List.set_cons_zero, List.set_cons_succ]
        refine take_val (i := 17) (v := .bool true) rfl (by kernel_rfl) (by kernel_rfl) (by kernel_rfl) (some 75) rfl (fun _ _ _ h => h) (Or.inl ⟨by rfl, fun W hW => by go_simp⟩) hHeld ?_
        simp only [Act.put, List.setIfInBounds_toArray, List.set_cons_zero, List.set_cons_succ]
        refine take_val (i := 18) (v := v) rfl (by kernel_rfl) (by kernel_rfl) (by kernel_rfl) (some 76) rfl (fun _ _ _ h => h) (Or.inl ⟨by rfl, fun W hW => by go_simp⟩) hHeld ?_
        simp only [Act.put, List.setIfInBounds_toArray, List.set_cons_zero, List.set_cons_succ]
        refine take_val (i := 19) (v := .int .i64 0) rfl (by kernel_rfl) (by kernel_rfl) (by kernel_rfl) (some 77) rfl (fun _ _ _ h => h) (Or.inl ⟨by rfl, fun W hW => by go_simp⟩) hHeld ?_
        simp only [Act.put, List.setIfInBounds_toArray, List.set_cons_zero, List.set_cons_succ]
        refine wpAnyH_ready (rs := [20]) (by kernel_rfl) (by simp) ?_
        refine AllReadyH.cons rfl (fun K hK => ?_) AllReadyH.nil
        go_simp
        refine (HIS.out _ hG).mono ?_
        rintro e' W3 ⟨rfl, hG⟩
        refine hK.out _ _ hG (fun hHeld => ?_)
        clear hK K
        refine take_val (i := 21) (v := .bool true) rfl (by kernel_rfl) (by kernel_rfl) (by kernel_rfl) (some 79) rfl (fun _ _ _ h => h) (Or.inl ⟨by rfl, fun W hW => by go_simp⟩) hHeld ?_
        simp only [Act.put, List.setIfInBounds_toArray, List.set_cons_zero, List.set_cons_succ]
        refine take_val (i := 22) (v := .bool true) rfl (by kernel_rfl) (by kernel_rfl) (by kernel_rfl) (some 80) rfl (fun _ _ _ h => h) (Or.inl ⟨by rfl, fun W hW => by go_simp⟩) hHeld ?_
        simp only [Act.put, List.setIfInBounds_toArray, List.set_cons_zero, List.set_cons_succ]
        refine take_load (i := 23) rfl (by kernel_rfl) (by kernel_rfl) (by kernel_rfl) (some 81) rfl (by rfl) 26 (.tmp 9) rfl g9 rfl cg _ (fun _ _ _ h => h) (fun W h => range_below HR9.out h hl9) hu26 rfl hi26 hHeld ?_
        simp only [Act.put, List.setIfInBounds_toArray, List.set_cons_zero, List.set_cons_succ]
        refine take_load (i := 24) rfl (by kernel_rfl) (by kernel_rfl) (by kernel_rfl) (some 82) rfl (by rfl) 25 (.tmp 11) rfl g11 rfl cg _ (fun _ _ _ h => h) (fun W h => range_below HR11.out h hl11) hu25 rfl hi25 hHeld ?_
        simp only [Act.put, List.setIfInBounds_toArray, List.set_cons_zero, List.set_cons_succ]
        refine wpAnyH_ready (rs := [25]) (by kernel_rfl) (by simp) ?_
        refine AllReadyH.cons rfl (fun K hK => ?_) AllReadyH.nil
        go_simp
        refine (HSM2.out _ hG).mono ?_
        rintro e' W3 ⟨rfl, hG⟩
        refine hK.out _ _ hG (fun hHeld => ?_)
        clear hK K
        refine take_val (i := 26) (v := .bool true) rfl (by kernel_rfl) (by kernel_rfl) (by kernel_rfl) (some 84) rfl (fun _ _ _ h => h) (Or.inl ⟨by rfl, fun W hW => by go_simp⟩) hHeld ?_
        simp only [Act.put, List.setIfInBounds_toArray, List.set_cons_zero, List.set_cons_succ]
        refine take_val (i := 27) (v := .bool true) rfl (by kernel_rfl) (by kernel_rfl) (by kernel_rfl) (some 6) rfl (fun _ _ _ h => h) (Or.inl ⟨by rfl, fun W hW => by go_simp⟩) hHeld ?_
        simp only [Act.put, List.setIfInBounds_toArray, List.set_cons_zero, List.set_cons_succ]
        refine wpAnyH_done (by kernel_rfl) ?_ _
        go_wp2
        go_ret
        exact ⟨rfl, HB5.out.trans (hG.mono HB5.out.size)⟩
      | false =>
        have hIs : ∀ W, Below w5.heap.size w5 W → Calls Tryd.prog 15 #[v, .int .i64 113] W fun e' W' => e' = .returned (.bool true) ∧ Below w5.heap.size w5 W' := fun W hW => (Is_bare 113 HV.out W (hS5 W hW)).mono fun e' W' h' => ⟨h'.1, hW.trans (h'.2.mono hW.size)⟩
        have HIS := hidden hIs
        clear hIs hS5
        go_wp2_with fail
        refine wp_region_held_drew (S := fun W => Below w5.heap.size w5 W) (by kernel_rfl) (Below.refl _ _).drew (fun hHeld => ?_)
        refine take_val (i := 0) (v := .slice ao l cap) rfl (by kernel_rfl) (by kernel_rfl) (by kernel_rfl) (some 58) rfl (fun _ _ _ h => h) (Or.inl ⟨by rfl, fun W hW => by go_simp⟩) hHeld ?_
        simp only [Act.put, List.setIfInBounds_toArray, List.set_cons_zero, List.set_cons_succ]
        refine take_val (i := 3) (v := .slice ao l cap) rfl (by kernel_rfl) (by kernel_rfl) (by kernel_rfl) (some 61) rfl (fun _ _ _ h => h) (Or.inl ⟨by rfl, fun W hW => by go_simp⟩) hHeld ?_
        simp only [Act.put, List.setIfInBounds_toArray, List.set_cons_zero, List.set_cons_succ]
        refine take_val (i := 4) (v := .string ⟨b.toArray⟩) rfl (by kernel_rfl) (by kernel_rfl) (by kernel_rfl) (some 62) rfl (fun _ _ _ h => h) (Or.inl ⟨by rfl, fun W hW => by have hc := HCV.out W hW; go_simp⟩) hHeld ?_
        simp only [Act.put, List.setIfInBounds_toArray, List.set_cons_zero, List.set_cons_succ]
        refine wpAnyH_ready (rs := [1]) (by kernel_rfl) (by simp) ?_
        refine AllReadyH.cons rfl (fun K hK => ?_) AllReadyH.nil
        go_simp
        refine (HOF.out _ (Below.refl _ _).drew).mono ?_
        rintro e' W3 ⟨rfl, hG⟩
        refine hK.out _ _ hG (fun hHeld => ?_)
        clear hK K
        refine wpAnyH_ready (rs := [2]) (by kernel_rfl) (by simp) ?_
        refine AllReadyH.cons rfl (fun K hK => ?_) AllReadyH.nil
        go_simp
        refine (HTB.out _ hG).mono ?_
        rintro e' W3 ⟨rfl, hG⟩
        refine hK.out _ _ hG (fun hHeld => ?_)
        clear hK K
        refine wpAnyH_ready (rs := [5]) (by kernel_rfl) (by simp) ?_
        refine AllReadyH.cons rfl (fun K hK => ?_) AllReadyH.nil
        go_simp
        refine (HRS.out _ hG).mono ?_
        rintro e' W3 ⟨rfl, hG⟩
        refine hK.out _ _ hG (fun hHeld => ?_)
        clear hK K
        refine wpAnyH_ready (rs := [6]) (by kernel_rfl) (by simp) ?_
        refine AllReadyH.cons rfl (fun K hK => ?_) AllReadyH.nil
        go_simp
        refine (HHB.out _ hG).mono ?_
        rintro e' W3 ⟨rfl, hG⟩
        refine hK.out _ _ hG (fun hHeld => ?_)
        clear hK K
        refine take_val (i := 7) (v := .bool true) rfl (by kernel_rfl) (by kernel_rfl) (by kernel_rfl) (some 65) rfl (fun _ _ _ h => h) (Or.inl ⟨by rfl, fun W hW => by go_simp⟩) hHeld ?_
        simp only [Act.put, List.setIfInBounds_toArray, List.set_cons_zero, List.set_cons_succ]
        refine take_val (i := 8) (v := .bool true) rfl (by kernel_rfl) (by kernel_rfl) (by kernel_rfl) (some 66) rfl (fun _ _ _ h => h) (Or.inl ⟨by rfl, fun W hW => by go_simp⟩) hHeld ?_
        simp only [Act.put, List.setIfInBounds_toArray, List.set_cons_zero, List.set_cons_succ]
        refine take_val (i := 9) (v := .slice ao2 t cap2) rfl (by kernel_rfl) (by kernel_rfl) (by kernel_rfl) (some 67) rfl (fun _ _ _ h => h) (Or.inl ⟨by rfl, fun W hW => by go_simp⟩) hHeld ?_
        simp only [Act.put, List.setIfInBounds_toArray, List.set_cons_zero, List.set_cons_succ]
        refine take_val (i := 12) (v := .slice ao2 t cap2) rfl (by kernel_rfl) (by kernel_rfl) (by kernel_rfl) (some 70) rfl (fun _ _ _ h => h) (Or.inl ⟨by rfl, fun W hW => by go_simp⟩) hHeld ?_
        simp only [Act.put, List.setIfInBounds_toArray, List.set_cons_zero, List.set_cons_succ]
        refine wpAnyH_ready (rs := [10]) (by kernel_rfl) (by simp) ?_
        refine AllReadyH.cons rfl (fun K hK => ?_) AllReadyH.nil
        go_simp
        refine (HMN.out _ hG).mono ?_
        rintro e' W3 ⟨rfl, hG⟩
        refine hK.out _ _ hG (fun hHeld => ?_)
        clear hK K
        refine wpAnyH_ready (rs := [11]) (by kernel_rfl) (by simp) ?_
        refine AllReadyH.cons rfl (fun K hK => ?_) AllReadyH.nil
        go_simp
        refine (HTM.out _ hG).mono ?_
        rintro e' W3 ⟨rfl, hG⟩
        refine hK.out _ _ hG (fun hHeld => ?_)
        clear hK K
        refine wpAnyH_ready (rs := [13]) (by kernel_rfl) (by simp) ?_
        refine AllReadyH.cons rfl (fun K hK => ?_) AllReadyH.nil
        go_simp
        refine (HRM.out _ hG).mono ?_
        rintro e' W3 ⟨rfl, hG⟩
        refine hK.out _ _ hG (fun hHeld => ?_)
        clear hK K
        refine wpAnyH_ready (rs := [14]) (by kernel_rfl) (by simp) ?_
        refine AllReadyH.cons rfl (fun K hK => ?_) AllReadyH.nil
        go_simp
        refine (HHM.out _ hG).mono ?_
        rintro e' W3 ⟨rfl, hG⟩
        refine hK.out _ _ hG (fun hHeld => ?_)
        clear hK K
        refine take_val (i := 15) (v := .bool true) rfl (by kernel_rfl) (by kernel_rfl) (by kernel_rfl) (some 73) rfl (fun _ _ _ h => h) (Or.inl ⟨by rfl, fun W hW => by go_simp⟩) hHeld ?_
        simp only [Act.put, List.setIfInBounds_toArray, List.set_cons_zero, List.set_cons_succ]
        refine take_val (i := 16) (v := .bool true) rfl (by kernel_rfl) (by kernel_rfl) (by kernel_rfl) (some 74) rfl (fun _ _ _ h => h) (Or.inl ⟨by rfl, fun W hW => by go_simp⟩) hHeld ?_
        simp only [Act.put, List.setIfInBounds_toArray, List.set_cons_zero, List.set_cons_succ]
        refine take_val (i := 17) (v := .bool true) rfl (by kernel_rfl) (by kernel_rfl) (by kernel_rfl) (some 75) rfl (fun _ _ _ h => h) (Or.inl ⟨by rfl, fun W hW => by go_simp⟩) hHeld ?_
        simp only [Act.put, List.setIfInBounds_toArray, List.set_cons_zero, List.set_cons_succ]
        refine take_val (i := 18) (v := v) rfl (by kernel_rfl) (by kernel_rfl) (by kernel_rfl) (some 76) rfl (fun _ _ _ h => h) (Or.inl ⟨by rfl, fun W hW => by go_simp⟩) hHeld ?_
        simp only [Act.put, List.setIfInBounds_toArray, List.set_cons_zero, List.set_cons_succ]
        refine take_val (i := 19) (v := .int .i64 113) rfl (by kernel_rfl) (by kernel_rfl) (by kernel_rfl) (some 77) rfl (fun _ _ _ h => h) (Or.inl ⟨by rfl, fun W hW => by go_simp⟩) hHeld ?_
        simp only [Act.put, List.setIfInBounds_toArray, List.set_cons_zero, List.set_cons_succ]
        refine wpAnyH_ready (rs := [20]) (by kernel_rfl) (by simp) ?_
        refine AllReadyH.cons rfl (fun K hK => ?_) AllReadyH.nil
        go_simp
        refine (HIS.out _ hG).mono ?_
        rintro e' W3 ⟨rfl, hG⟩
        refine hK.out _ _ hG (fun hHeld => ?_)
        clear hK K
        refine take_val (i := 21) (v := .bool true) rfl (by kernel_rfl) (by kernel_rfl) (by kernel_rfl) (some 79) rfl (fun _ _ _ h => h) (Or.inl ⟨by rfl, fun W hW => by go_simp⟩) hHeld ?_
        simp only [Act.put, List.setIfInBounds_toArray, List.set_cons_zero, List.set_cons_succ]
        refine take_val (i := 22) (v := .bool true) rfl (by kernel_rfl) (by kernel_rfl) (by kernel_rfl) (some 80) rfl (fun _ _ _ h => h) (Or.inl ⟨by rfl, fun W hW => by go_simp⟩) hHeld ?_
        simp only [Act.put, List.setIfInBounds_toArray, List.set_cons_zero, List.set_cons_succ]
        refine take_load (i := 23) rfl (by kernel_rfl) (by kernel_rfl) (by kernel_rfl) (some 81) rfl (by rfl) 26 (.tmp 9) rfl g9 rfl cg _ (fun _ _ _ h => h) (fun W h => range_below HR9.out h hl9) hu26 rfl hi26 hHeld ?_
        simp only [Act.put, List.setIfInBounds_toArray, List.set_cons_zero, List.set_cons_succ]
        refine take_load (i := 24) rfl (by kernel_rfl) (by kernel_rfl) (by kernel_rfl) (some 82) rfl (by rfl) 25 (.tmp 11) rfl g11 rfl cg _ (fun _ _ _ h => h) (fun W h => range_below HR11.out h hl11) hu25 rfl hi25 hHeld ?_
        simp only [Act.put, List.setIfInBounds_toArray, List.set_cons_zero, List.set_cons_succ]
        refine wpAnyH_ready (rs := [25]) (by kernel_rfl) (by simp) ?_
        refine AllReadyH.cons rfl (fun K hK => ?_) AllReadyH.nil
        go_simp
        refine (HSM2.out _ hG).mono ?_
        rintro e' W3 ⟨rfl, hG⟩
        refine hK.out _ _ hG (fun hHeld => ?_)
        clear hK K
        refine take_val (i := 26) (v := .bool true) rfl (by kernel_rfl) (by kernel_rfl) (by kernel_rfl) (some 84) rfl (fun _ _ _ h => h) (Or.inl ⟨by rfl, fun W hW => by go_simp⟩) hHeld ?_
        simp only [Act.put, List.setIfInBounds_toArray, List.set_cons_zero, List.set_cons_succ]
        refine take_val (i := 27) (v := .bool true) rfl (by kernel_rfl) (by kernel_rfl) (by kernel_rfl) (some 6) rfl (fun _ _ _ h => h) (Or.inl ⟨by rfl, fun W hW => by go_simp⟩) hHeld ?_
        simp only [Act.put, List.setIfInBounds_toArray, List.set_cons_zero, List.set_cons_succ]
        refine wpAnyH_done (by kernel_rfl) ?_ _
        go_wp2
        go_ret
        exact ⟨rfl, HB5.out.trans (hG.mono HB5.out.size)⟩
end Go.Proofs.YtffmldplchlnpaaDoor
