/- smithylaw2.ShaPieces answers true at every list of bytes and every list of whole numbers. Conditions: the package's tables are as its text lays them. -/
import Derived.Test.YtpkkdnpejbbejaaDoorMany
import Derived.Test.YtpkkdnpejbbejaaDoorParse
import Derived.Test.YtpkkdnpejbbejaaDoorSame
import Derived.Deep.RegionWith
import Derived.RegionCalls
import Derived.Deep.RegionHeld3
namespace Go.Proofs.YtpkkdnpejbbejaaDoor
open Go.RowKit

/-- A list of whole numbers that comes in. -/
def IntsAt (W : World) (ao : Option Addr) (zs : List Int) : Prop :=
  zs = [] ∨ ∃ bk o, ao = some ⟨bk, o, none⟩ ∧ bk < W.heap.size ∧ ∀ (j : Nat) z, zs[j]? = some z → W.cell? ⟨bk, o + j, none⟩ = some (.int .i64 z) ∧ -9223372036854775808 ≤ z ∧ z < 9223372036854775808
theorem take_piece (b : List UInt8) (p e : Nat) (h : p ≤ e) : b.take p ++ (b.take e).drop p = b.take e := by
  rw [show b.take p = (b.take e).take p by rw [List.take_take, Nat.min_eq_left h], List.take_append_drop]
theorem At.sub {w : World} {bk off : Nat} {b : List UInt8} (h : At w bk off b) (p e : Nat) : At w bk (off + p) ((b.take e).drop p) := (h.take e).drop p
theorem rebase {f : FuncId} {args : Array Value} {v : Value} {a A : World} (hA : Below a.heap.size a A) (h : ∀ W, Below a.heap.size a W → Calls Tryd.prog f args W fun e W' => e = .returned v ∧ Below W.heap.size W W') :
    ∀ W, Below A.heap.size A W → Calls Tryd.prog f args W fun e W' => e = .returned v ∧ Below A.heap.size A W' := fun W hW =>
  (h W (hA.trans (hW.mono hA.size))).mono fun _ _ h' => ⟨h'.1, hW.trans (h'.2.mono hW.size)⟩
theorem load_eq {W : World} {g : Nat} {cg : Array Value} {t : TypeId} (hg : W.heap[g]? = some (.cells cg t (0, 0))) (hcs : cg.size = 32) : (loadCellsFrom ⟨g, 0, none⟩ 0 32 #[]).run Tryd.prog W = .ok cg W := by
  have := run_loadCells_list (P := Tryd.prog) W ⟨g, 0, none⟩ cg.toList (fun j v hv => by
    have hadd : (⟨g, 0, none⟩ : Addr).add j = ⟨g, j, none⟩ := by unfold Addr.add; split <;> simp_all
    rw [hadd, cell_of_row _ _ j cg t (0, 0) hg]
    simpa using hv)
  simpa [loadCells, hcs] using this
theorem load_after {W W' : World} {g : Nat} {cg : Array Value} {t : TypeId} (hb : Below W.heap.size W W') (hg : W.heap[g]? = some (.cells cg t (0, 0))) (hcs : cg.size = 32) : (loadCellsFrom ⟨g, 0, none⟩ 0 32 #[]).run Tryd.prog W' = .ok cg W' :=
  load_eq ((hb.block g (Array.getElem?_eq_some_iff.1 hg).1).trans hg) hcs
theorem range_after {W W' : World} {g : Nat} {cg : Array Value} {t : TypeId} (hb : Below W.heap.size W W') (hg : W.heap[g]? = some (.cells cg t (0, 0))) : W'.rangeAt g 0 cg.toList := fun j v hv => by
  have hlt : g < W.heap.size := (Array.getElem?_eq_some_iff.1 hg).1
  rw [cell_of_row W' g (0 + j) cg t (0, 0) ((hb.block g hlt).trans hg), Nat.zero_add]
  simpa using hv
theorem slice_from (ao : Option Addr) (l cap p : Nat) (hp : p ≤ l) (_hc : l ≤ cap) (W : World) : (Instr.sliceAt 22 (.slice ao l cap) (some (.int .i64 (p : Int))) none none).run Tryd.prog W = .ok (.slice (if cap = p then ao else ao.map fun a => a.add p) (l - p) (cap - p)) W := by
  by_cases h : cap = p
  · rw [if_pos h]
    go_simp
  · rw [if_neg h]
    go_simp
theorem srcx_cut {w : World} {sb : Nat} {ao : Option Addr} {b : List UInt8} {cap : Nat} (h : SrcX w sb ao b) (hc : b.length ≤ cap) (p : Nat) : SrcX w sb (if cap = p then ao else ao.map fun a => a.add p) (b.drop p) := fun hp => by
  rw [List.length_drop] at hp
  obtain ⟨bk, off, rfl, h1, h2, h3⟩ := h (by omega)
  rw [if_neg (by omega)]
  exact ⟨bk, off + p, by simp [Addr.add_mid], h1, h2, h3.drop p⟩
theorem piece_len (z : Int) : ∃ q : Nat, q < 100 ∧ (wrap64 (z.tmod 100 + 100)).tmod 100 = (q : Int) := by
  have h1 := Int.tmod_lt_of_pos z (show (0 : Int) < 100 by decide)
  have h2 := Int.tmod_lt_of_pos (-z) (show (0 : Int) < 100 by decide)
  rw [Int.neg_tmod] at h2
  rw [show wrap64 (z.tmod 100 + 100) = z.tmod 100 + 100 by unfold wrap64; omega, Int.tmod_eq_emod_of_nonneg (by omega)]
  exact ⟨((z.tmod 100 + 100) % 100).toNat, by omega, by omega⟩

set_option maxHeartbeats 3200000 in
theorem ShaPieces_any (ao : Option Addr) (cap : Nat) (b : List UInt8) (ao2 : Option Addr) (cap2 : Nat) (zs : List Int) (w : World) (hcap : b.length ≤ cap) (hX : Src w ao b) (hZ : IntsAt w ao2 zs) (hT : Tabs w) (h1 : 2 < w.heap.size) :
    Calls Tryd.prog 4 #[.slice ao b.length cap, .slice ao2 zs.length cap2] w fun e w' => e = .returned (.bool true) ∧ Below w.heap.size w w' := by
  have HX := hidden hX
  have HZ := hidden hZ
  have HT := hidden hT
  have hex := hidden (example_any w hT h1)
  have hinfo2 : (Tryd.prog.info? 26).map (·.size) = some 32 := by kernel_rfl
  obtain ⟨l, hl⟩ : ∃ l, b.length = l := ⟨_, rfl⟩
  have HL := hidden hl
  obtain ⟨k, hk⟩ : ∃ k, zs.length = k := ⟨_, rfl⟩
  have HK := hidden hk
  rw [hl] at hcap ⊢
  rw [hk]
  clear hX hT hl hk hZ
  by_cases hbig : 1000 < l
  · go_enter Tryd.func4, Tryd.ntmps4
    go_wp2_with (go_at_call 6; refine hex.out.mono ?_; rintro e w1 ⟨rfl, hb1⟩)
    go_ret
    exact ⟨rfl, hb1⟩
  by_cases hbig2 : 30 < k
  · go_enter Tryd.func4, Tryd.ntmps4
    go_wp2_with (go_at_call 6; refine hex.out.mono ?_; rintro e w1 ⟨rfl, hb1⟩)
    go_ret
    exact ⟨rfl, hb1⟩
  go_enter Tryd.func4, Tryd.ntmps4
  go_wp2_with (go_at_call 6; refine hex.out.mono ?_; rintro e w1 ⟨rfl, hb1⟩)
  have hs1 := hb1.size
  have hT1 := HT.out.below hb1 h1 (by omega)
  refine (new_any w1 hT1).mono ?_
  rintro e w3 ⟨rfl, hS3, hb3⟩
  have hszb := hb3.size
  obtain ⟨sb, hsb⟩ : ∃ sb, w1.heap.size = sb := ⟨_, rfl⟩
  have hsw : w.heap.size ≤ sb := by omega
  rw [hsb] at hS3 hb3 hszb ⊢
  have hlt3 : sb < w3.heap.size := by
    obtain ⟨_, h, _⟩ := hS3
    exact h.lt
  have HS3 := hidden hS3
  have HB3 := hidden hb3
  have HB1 := hidden hb1
  have HT1 := hidden hT1
  clear hS3 hb3 hb1 hT1 hs1 hszb hsb
  go_wp2
  go_loopw [7, 8] (fun a i wr => ∃ t p : Nat, t ≤ k ∧ p ≤ l ∧ i = .int .i64 t ∧ a = .int .i64 p ∧ Hid (StateOf wr sb (b.take p)) ∧ Hid (Below sb w1 wr) ∧ sb < wr.heap.size) (fun _ i _ => k - (intOf i).toNat)
  case atStart => exact ⟨0, 0, Nat.zero_le _, Nat.zero_le _, rfl, rfl, HS3, HB3, hlt3⟩
  case round =>
    clear HS3 HB3 hlt3
    obtain ⟨t, p, ht, hp, rfl, rfl, hS, hb, hsz⟩ := hrel
    by_cases htk : t < k
    · by_cases hpl : p < l
      · obtain ⟨bk, off, rfl, hbk, hA⟩ := HX.out (by rw [HL.out]; omega)
        rcases HZ.out with h0 | ⟨bz, oz, rfl, hbz, hzc⟩
        · have := HK.out
          rw [h0] at this
          exact absurd htk (by simp at this; omega)
        · have htz : t < zs.length := by have := HK.out; omega
          obtain ⟨hz0, hz1, hz2⟩ := hzc t _ (List.getElem?_eq_getElem htz)
          have hzr : wr.cell? ⟨bz, oz + t, none⟩ = some (.int .i64 zs[t]) := (hb.out.cell (p := ⟨bz, oz + t, none⟩) (by show bz < sb; omega)).trans ((HB1.out.cell (p := ⟨bz, oz + t, none⟩) hbz).trans hz0)
          generalize zs[t] = z at hzr hz1 hz2
          clear hzc hz0
          obtain ⟨q, hq, hqz⟩ := piece_len z
          obtain ⟨e, he⟩ : ∃ e, min l (p + q) = e := ⟨_, rfl⟩
          have hmn : min (l : Int) ((p : Int) + (q : Int)) = (e : Int) := by omega
          have hpe : p ≤ e := by omega
          have hel : e ≤ l := by omega
          clear he
          have HA := hidden hA
          have hAw : At wr bk off b := (hA.below HB1.out hbk).below hb.out (by omega)
          have hTw := HT1.out.below hb.out (by omega) (by omega)
          have hlb : ((b.take e).drop p).length = e - p := by rw [List.length_drop, List.length_take, HL.out, Nat.min_eq_left hel]
          have hlt : (b.take p).length = p := by rw [List.length_take, HL.out, Nat.min_eq_left (by omega)]
          have hw := write_any sb (b.take p) ((b.take e).drop p) (some ⟨bk, off + p, none⟩) (cap - p) wr (by rw [hlb]; omega) (by rw [hlb, hlt]; omega) (fun _ => ⟨bk, off + p, rfl, by omega, by omega, hAw.sub p e⟩) hS.out hTw (by omega)
          rw [hlb, take_piece b p e hpe] at hw
          have HW := hidden hw
          clear hA hAw hTw hlb hlt hw
          go_wp2_with (go_at_call 18; refine (HW.out).mono ?_; rintro e' w5 ⟨rfl, hS5, hb5⟩)
          have hsz5 := hb5.size
          have hAw5 : At w5 bk off b := (((HA.out.below HB1.out hbk).below hb.out (by omega)).turned hb5 (by omega) (by omega))
          have hb15 := hb5.below hb.out (Nat.le_refl _) (by omega)
          have hT5 := HT1.out.below hb15 (by omega) (by omega)
          have hle : (b.take e).length = e := by rw [List.length_take, HL.out, Nat.min_eq_left hel]
          have hSum : ∀ W, Below w5.heap.size w5 W → Calls Tryd.prog 19 #[.pointer (some ⟨sb, 0, none⟩)] W fun e' W' => e' = .returned (.agg (bcells (digest (b.take e)))) ∧ Below w5.heap.size w5 W' := fun W h =>
            (sum_any sb (b.take e) W (by omega) (hS5.below h (by omega)) (hT5.below h (by omega) (by omega)) (by omega)).mono fun e' W' h' => ⟨h'.1, h.trans (h'.2.mono h.size)⟩
          have hOf : ∀ W, Below w5.heap.size w5 W → Calls Tryd.prog 10 #[.slice (some ⟨bk, off, none⟩) e cap] W fun e' W' => e' = .returned (.agg (bcells (digest (b.take e)))) ∧ Below w5.heap.size w5 W' := fun W h => by
            have hh := of_any (some ⟨bk, off, none⟩) cap (b.take e) W (by omega) (by omega) (fun _ => ⟨bk, off, rfl, by have := h.size; omega, (hAw5.take e).below h (by omega)⟩) (hT5.below h (by omega) (by omega)) (by have := h.size; omega)
            rw [hle] at hh
            exact hh.mono fun e' W' h' => ⟨h'.1, h.trans (h'.2.mono h.size)⟩
          have hdl := digest_len (b.take e)
          generalize digest (b.take e) = dg at hSum hOf hdl
          have hTx : ∀ W, Below w5.heap.size w5 W → Calls Tryd.prog 9 #[.agg (bcells dg)] W fun e' W' => e' = .returned (.string ⟨(hexT dg).toArray⟩) ∧ Below w5.heap.size w5 W' := fun W h =>
            (text_any dg hdl W).mono fun e' W' h' => ⟨h'.1, h.trans (h'.2.mono h.size)⟩
          have HSUM := hidden hSum
          have HOF := hidden hOf
          have HTX := hidden hTx
          have HS5 := hidden hS5
          have HB15 := hidden hb15
          have hG := Below.refl w5.heap.size w5
          have hecap : e ≤ cap := by omega
          clear hSum hOf hTx hS5 hb5 hb15 hAw5 hT5 hdl hle HW hS hb hmn hqz
          go_wp2_with fail
          go_region_with (first | (go_at_call 19; refine (HSUM.out _ (by first | exact hG | exact hG.drew | exact hG.drew.drew | exact hG.drew.drew.drew)).mono ?_; rintro e' W1 ⟨rfl, hG⟩) | (go_at_call 10; refine (HOF.out _ (by first | exact hG | exact hG.drew | exact hG.drew.drew | exact hG.drew.drew.drew)).mono ?_; rintro e' W1 ⟨rfl, hG⟩) | (go_at_call 9; refine (HTX.out _ (by first | exact hG | exact hG.drew | exact hG.drew.drew | exact hG.drew.drew.drew)).mono ?_; rintro e' W1 ⟨rfl, hG⟩))
          all_goals go_wp2
          have hR1 := hidden (HS5.out.below hG (by omega))
          have hR2 := hidden (HB15.out.trans (hG.mono (by omega)))
          have hR3 : sb < W1.heap.size := by have := hG.size; omega
          go_roundw
          case rel => exact ⟨t + 1, e, by omega, hel, by go_num, rfl, hR1, hR2, hR3⟩
          case measure => simp [intOf]; omega
      · have hld : (b.drop p).length = l - p := by rw [List.length_drop, HL.out]
        have hw := fun (A : Option Addr) (C : Nat) (h1 : l - p ≤ C) (h2 : SrcX wr sb A (b.drop p)) => write_any sb (b.take p) (b.drop p) A C wr (by rw [hld]; exact h1) (by rw [hld, List.length_take, HL.out]; omega) h2 hS.out (HT1.out.below hb.out (by omega) (by omega)) (by omega)
        rw [List.take_append_drop, hld] at hw
        have HW := hidden hw
        have hXX : SrcX wr sb ao b := fun hp => by
          obtain ⟨bk', off', e1, e2, e3⟩ := HX.out hp
          exact ⟨bk', off', e1, by omega, by omega, (e3.below HB1.out e2).below hb.out (by omega)⟩
        have hcut := srcx_cut hXX (by rw [HL.out]; exact hcap) p
        have hsl := slice_from ao l cap p hp hcap
        generalize (if cap = p then ao else ao.map fun a => a.add p) = A2 at hcut hsl
        have HSX := hidden hcut
        clear hcut
        clear hw hld hXX
        go_wp2_with (go_at_call 18; refine (HW.out _ _ (by omega) HSX.out).mono ?_; rintro e' w5 ⟨rfl, hS5, hb5⟩)
        have hsz5 := hb5.size
        have hb15 := hb5.below hb.out (Nat.le_refl _) (by omega)
        have hT5 := HT1.out.below hb15 (by omega) (by omega)
        have hX5 : Src w5 ao b := fun hp => by
          obtain ⟨bk', off', e1, e2, e3⟩ := HX.out hp
          exact ⟨bk', off', e1, by omega, ((e3.below HB1.out e2).below hb15 (by omega))⟩
        have hSum : ∀ W, Below w5.heap.size w5 W → Calls Tryd.prog 19 #[.pointer (some ⟨sb, 0, none⟩)] W fun e' W' => e' = .returned (.agg (bcells (digest b))) ∧ Below W.heap.size W W' := fun W h =>
          sum_any sb b W (by rw [HL.out]; omega) (hS5.below h (by omega)) (hT5.below h (by omega) (by omega)) (by omega)
        have hOf : ∀ W, Below w5.heap.size w5 W → Calls Tryd.prog 10 #[.slice ao l cap] W fun e' W' => e' = .returned (.agg (bcells (digest b))) ∧ Below W.heap.size W W' := fun W h => by
          have hh := of_any ao cap b W (by rw [HL.out]; exact hcap) (by rw [HL.out]; omega) (fun hp => by
            obtain ⟨bk', off', e1, e2, e3⟩ := hX5 hp
            exact ⟨bk', off', e1, by have := h.size; omega, e3.below h e2⟩) (hT5.below h (by omega) (by omega)) (by have := h.size; omega)
          rwa [HL.out] at hh
        have hdl := digest_len b
        generalize digest b = dg at hSum hOf hdl
        have hTx : ∀ W, Below w5.heap.size w5 W → Calls Tryd.prog 9 #[.agg (bcells dg)] W fun e' W' => e' = .returned (.string ⟨(hexT dg).toArray⟩) ∧ Below W.heap.size W W' := fun W _ => text_any dg hdl W
        have hPa : ∀ W, Below w5.heap.size w5 W → Calls Tryd.prog 7 #[.string ⟨(hexT dg).toArray⟩] W fun e' W' => e' = .returned (.tuple #[.agg (bcells dg), .nilIface]) ∧ Below W.heap.size W W' := fun W _ => parse_back dg hdl W
        have hcs := bcells_size dg
        rw [hdl] at hcs
        have hone := bcells_one dg _ rfl
        generalize bcells dg = cg at hSum hOf hTx hPa hcs hone
        generalize hexT dg = hx at hTx hPa
        have HSUM0 := hidden hSum
        have HOF0 := hidden hOf
        have HTX0 := hidden hTx
        have HSUM := hidden (rebase (Below.refl _ _) hSum)
        have HTX := hidden (rebase (Below.refl _ _) hTx)
        have HPA := hidden (rebase (Below.refl _ _) hPa)
        have HB15 := hidden hb15
        have hG := Below.refl w5.heap.size w5
        clear hSum hOf hTx hPa hS5 hb5 hb15 hT5 hdl HW hS hb hX5
        go_wp2_with (first | (go_at_call 19; refine (HSUM.out _ (by first | exact hG | exact hG.drew | exact hG.drew.drew | exact hG.drew.drew.drew)).mono ?_; rintro e' W1 ⟨rfl, hG⟩) | (go_at_call 9; refine (HTX.out _ (by first | exact hG | exact hG.drew | exact hG.drew.drew | exact hG.drew.drew.drew)).mono ?_; rintro e' W1 ⟨rfl, hG⟩) | (go_at_call 7; refine (HPA.out _ (by first | exact hG | exact hG.drew | exact hG.drew.drew | exact hG.drew.drew.drew)).mono ?_; rintro e' W1 ⟨rfl, hG⟩))
        have hst : ∀ z : Array Value, z.size = 32 → (storeCells ⟨W1.heap.size, 0, none⟩ cg.toList 0).run Tryd.prog (W1.alloc (.cells z 26)) = .ok () (W1.alloc (.cells cg 26)) := fun z hz => run_storeCells_new (P := Tryd.prog) W1 26 z cg (by rw [hcs]; exact hinfo2) (by omega) hone
        rw [hst]
        rotate_left
        · rfl
        clear hst
        have hG2 := hG.alloc hG.size (.cells cg 26)
        have hg11 : (W1.alloc (.cells cg 26)).heap[W1.heap.size]? = some (.cells cg 26 (0, 0)) := heap_alloc_new _ _
        have hsW := hG.size
        obtain ⟨g, hg⟩ : ∃ g, W1.heap.size = g := ⟨_, rfl⟩
        rw [hg] at hg11 hsW ⊢
        have hsg : (W1.alloc (.cells cg 26)).heap.size = g + 1 := by simp [hg]
        generalize W1.alloc (.cells cg 26) = W2 at hG2 hg11 hsg ⊢
        have HSUM2 := hidden (rebase hG2 HSUM0.out)
        have HTX2 := hidden (rebase hG2 HTX0.out)
        have HOF2 := hidden (rebase hG2 HOF0.out)
        have HG11 := hidden hg11
        have HGW := hidden (HB15.out.trans (hG2.mono (by omega)))
        have hG := Below.refl W2.heap.size W2
        clear HSUM HTX HPA HSUM0 HTX0 HOF0 hG2 hg11 hG
        have hG := Below.refl W2.heap.size W2
        have hkr : W2.rangeAt g 0 cg.toList := range_of HG11.out
        have hgl : g < W2.heap.size := by omega
        have keep : ∀ W, Below W2.heap.size W2 W → (Below W2.heap.size W2 W ∧ W.rangeAt g 0 cg.toList) := fun W h => ⟨h, range_below hkr h hgl⟩
        have hu26 := Tryd.underlying26
        have hi26 : (Tryd.prog.info? 26).map (·.size) = some cg.toList.length := by rw [Array.length_toList, hcs]; exact hinfo2
        go_wp2_with fail
        refine wp_region_held_drew (S := fun W => Below W2.heap.size W2 W ∧ W.rangeAt g 0 cg.toList) (by kernel_rfl) (keep _ (Below.refl _ _).drew) (fun hHeld => ?_)
        refine take_val (i := 0) (v := .nilIface) rfl (by kernel_rfl) (by kernel_rfl) (by kernel_rfl) (some 85) rfl (fun _ _ _ h => h) (Or.inl ⟨by rfl, fun W hW => by go_simp⟩) hHeld ?_
        simp only [Act.put, List.setIfInBounds_toArray, List.set_cons_zero, List.set_cons_succ]
        refine take_val (i := 1) (v := .bool true) rfl (by kernel_rfl) (by kernel_rfl) (by kernel_rfl) (some 86) rfl (fun _ _ _ h => h) (Or.inl ⟨by rfl, fun W hW => by go_simp⟩) hHeld ?_
        simp only [Act.put, List.setIfInBounds_toArray, List.set_cons_zero, List.set_cons_succ]
        refine take_val (i := 2) (v := .bool true) rfl (by kernel_rfl) (by kernel_rfl) (by kernel_rfl) (some 87) rfl (fun _ _ _ h => h) (Or.inl ⟨by rfl, fun W hW => by go_simp⟩) hHeld ?_
        simp only [Act.put, List.setIfInBounds_toArray, List.set_cons_zero, List.set_cons_succ]
        refine take_load (i := 3) rfl (by kernel_rfl) (by kernel_rfl) (by kernel_rfl) (some 88) rfl (by rfl) 26 (.tmp 11) rfl g rfl cg _ (fun _ _ _ h => h) (fun W h => h.2) hu26 rfl hi26 hHeld ?_
        simp only [Act.put, List.setIfInBounds_toArray, List.set_cons_zero, List.set_cons_succ]
        refine take_val (i := 5) (v := .slice ao l cap) rfl (by kernel_rfl) (by kernel_rfl) (by kernel_rfl) (some 90) rfl (fun _ _ _ h => h) (Or.inl ⟨by rfl, fun W hW => by go_simp⟩) hHeld ?_
        simp only [Act.put, List.setIfInBounds_toArray, List.set_cons_zero, List.set_cons_succ]
        refine wpAnyH_ready (rs := [4]) (by kernel_rfl) (by simp) ?_
        refine AllReadyH.cons rfl (fun K hK => ?_) AllReadyH.nil
        go_simp
        refine (HTX2.out _ (Below.refl _ _).drew).mono ?_
        rintro e' W3 ⟨rfl, hG⟩
        refine hK.out _ _ (keep _ hG) (fun hHeld => ?_)
        clear hK K
        refine wpAnyH_ready (rs := [6]) (by kernel_rfl) (by simp) ?_
        refine AllReadyH.cons rfl (fun K hK => ?_) AllReadyH.nil
        go_simp
        refine (HOF2.out _ hG).mono ?_
        rintro e' W3 ⟨rfl, hG⟩
        refine hK.out _ _ (keep _ hG) (fun hHeld => ?_)
        clear hK K
        refine wpAnyH_ready (rs := [7]) (by kernel_rfl) (by simp) ?_
        refine AllReadyH.cons rfl (fun K hK => ?_) AllReadyH.nil
        go_simp
        refine (HTX2.out _ hG).mono ?_
        rintro e' W3 ⟨rfl, hG⟩
        refine hK.out _ _ (keep _ hG) (fun hHeld => ?_)
        clear hK K
        refine take_val (i := 8) (v := .bool true) rfl (by kernel_rfl) (by kernel_rfl) (by kernel_rfl) (some 93) rfl (fun _ _ _ h => h) (Or.inl ⟨by rfl, fun W hW => by go_simp⟩) hHeld ?_
        simp only [Act.put, List.setIfInBounds_toArray, List.set_cons_zero, List.set_cons_succ]
        refine take_val (i := 9) (v := .bool true) rfl (by kernel_rfl) (by kernel_rfl) (by kernel_rfl) (some 94) rfl (fun _ _ _ h => h) (Or.inl ⟨by rfl, fun W hW => by go_simp⟩) hHeld ?_
        simp only [Act.put, List.setIfInBounds_toArray, List.set_cons_zero, List.set_cons_succ]
        refine take_val (i := 10) (v := .bool true) rfl (by kernel_rfl) (by kernel_rfl) (by kernel_rfl) (some 95) rfl (fun _ _ _ h => h) (Or.inl ⟨by rfl, fun W hW => by go_simp⟩) hHeld ?_
        simp only [Act.put, List.setIfInBounds_toArray, List.set_cons_zero, List.set_cons_succ]
        refine take_val (i := 11) (v := .pointer (some ⟨sb, 0, none⟩)) rfl (by kernel_rfl) (by kernel_rfl) (by kernel_rfl) (some 96) rfl (fun _ _ _ h => h) (Or.inl ⟨by rfl, fun W hW => by go_simp⟩) hHeld ?_
        simp only [Act.put, List.setIfInBounds_toArray, List.set_cons_zero, List.set_cons_succ]
        refine take_load (i := 14) rfl (by kernel_rfl) (by kernel_rfl) (by kernel_rfl) (some 99) rfl (by rfl) 26 (.tmp 11) rfl g rfl cg _ (fun _ _ _ h => h) (fun W h => h.2) hu26 rfl hi26 hHeld ?_
        simp only [Act.put, List.setIfInBounds_toArray, List.set_cons_zero, List.set_cons_succ]
        refine wpAnyH_ready (rs := [12]) (by kernel_rfl) (by simp) ?_
        refine AllReadyH.cons rfl (fun K hK => ?_) AllReadyH.nil
        go_simp
        refine (HSUM2.out _ hG).mono ?_
        rintro e' W3 ⟨rfl, hG⟩
        refine hK.out _ _ (keep _ hG) (fun hHeld => ?_)
        clear hK K
        refine wpAnyH_ready (rs := [13]) (by kernel_rfl) (by simp) ?_
        refine AllReadyH.cons rfl (fun K hK => ?_) AllReadyH.nil
        go_simp
        refine (HTX2.out _ hG).mono ?_
        rintro e' W3 ⟨rfl, hG⟩
        refine hK.out _ _ (keep _ hG) (fun hHeld => ?_)
        clear hK K
        refine wpAnyH_ready (rs := [15]) (by kernel_rfl) (by simp) ?_
        refine AllReadyH.cons rfl (fun K hK => ?_) AllReadyH.nil
        go_simp
        refine (HTX2.out _ hG).mono ?_
        rintro e' W3 ⟨rfl, hG⟩
        refine hK.out _ _ (keep _ hG) (fun hHeld => ?_)
        clear hK K
        refine take_val (i := 16) (v := .bool true) rfl (by kernel_rfl) (by kernel_rfl) (by kernel_rfl) (some 101) rfl (fun _ _ _ h => h) (Or.inl ⟨by rfl, fun W hW => by go_simp⟩) hHeld ?_
        simp only [Act.put, List.setIfInBounds_toArray, List.set_cons_zero, List.set_cons_succ]
        refine take_val (i := 17) (v := .bool true) rfl (by kernel_rfl) (by kernel_rfl) (by kernel_rfl) (some 102) rfl (fun _ _ _ h => h) (Or.inl ⟨by rfl, fun W hW => by go_simp⟩) hHeld ?_
        simp only [Act.put, List.setIfInBounds_toArray, List.set_cons_zero, List.set_cons_succ]
        refine take_val (i := 18) (v := .bool true) rfl (by kernel_rfl) (by kernel_rfl) (by kernel_rfl) (some 4) rfl (fun _ _ _ h => h) (Or.inl ⟨by rfl, fun W hW => by go_simp⟩) hHeld ?_
        simp only [Act.put, List.setIfInBounds_toArray, List.set_cons_zero, List.set_cons_succ]
        refine wpAnyH_done (by kernel_rfl) ?_ _
        go_wp2
        go_ret
        exact ⟨rfl, HB1.out.trans ((HGW.out.mono (by omega)).trans (hG.mono (by omega)))⟩
    · have hld : (b.drop p).length = l - p := by rw [List.length_drop, HL.out]
      have hw := fun (A : Option Addr) (C : Nat) (h1 : l - p ≤ C) (h2 : SrcX wr sb A (b.drop p)) => write_any sb (b.take p) (b.drop p) A C wr (by rw [hld]; exact h1) (by rw [hld, List.length_take, HL.out]; omega) h2 hS.out (HT1.out.below hb.out (by omega) (by omega)) (by omega)
      rw [List.take_append_drop, hld] at hw
      have HW := hidden hw
      have hXX : SrcX wr sb ao b := fun hp => by
        obtain ⟨bk', off', e1, e2, e3⟩ := HX.out hp
        exact ⟨bk', off', e1, by omega, by omega, (e3.below HB1.out e2).below hb.out (by omega)⟩
      have hcut := srcx_cut hXX (by rw [HL.out]; exact hcap) p
      have hsl := slice_from ao l cap p hp hcap
      generalize (if cap = p then ao else ao.map fun a => a.add p) = A2 at hcut hsl
      have HSX := hidden hcut
      clear hcut
      clear hw hld hXX
      go_wp2_with (go_at_call 18; refine (HW.out _ _ (by omega) HSX.out).mono ?_; rintro e' w5 ⟨rfl, hS5, hb5⟩)
      have hsz5 := hb5.size
      have hb15 := hb5.below hb.out (Nat.le_refl _) (by omega)
      have hT5 := HT1.out.below hb15 (by omega) (by omega)
      have hX5 : Src w5 ao b := fun hp => by
        obtain ⟨bk', off', e1, e2, e3⟩ := HX.out hp
        exact ⟨bk', off', e1, by omega, ((e3.below HB1.out e2).below hb15 (by omega))⟩
      have hSum : ∀ W, Below w5.heap.size w5 W → Calls Tryd.prog 19 #[.pointer (some ⟨sb, 0, none⟩)] W fun e' W' => e' = .returned (.agg (bcells (digest b))) ∧ Below W.heap.size W W' := fun W h =>
        sum_any sb b W (by rw [HL.out]; omega) (hS5.below h (by omega)) (hT5.below h (by omega) (by omega)) (by omega)
      have hOf : ∀ W, Below w5.heap.size w5 W → Calls Tryd.prog 10 #[.slice ao l cap] W fun e' W' => e' = .returned (.agg (bcells (digest b))) ∧ Below W.heap.size W W' := fun W h => by
        have hh := of_any ao cap b W (by rw [HL.out]; exact hcap) (by rw [HL.out]; omega) (fun hp => by
          obtain ⟨bk', off', e1, e2, e3⟩ := hX5 hp
          exact ⟨bk', off', e1, by have := h.size; omega, e3.below h e2⟩) (hT5.below h (by omega) (by omega)) (by have := h.size; omega)
        rwa [HL.out] at hh
      have hdl := digest_len b
      generalize digest b = dg at hSum hOf hdl
      have hTx : ∀ W, Below w5.heap.size w5 W → Calls Tryd.prog 9 #[.agg (bcells dg)] W fun e' W' => e' = .returned (.string ⟨(hexT dg).toArray⟩) ∧ Below W.heap.size W W' := fun W _ => text_any dg hdl W
      have hPa : ∀ W, Below w5.heap.size w5 W → Calls Tryd.prog 7 #[.string ⟨(hexT dg).toArray⟩] W fun e' W' => e' = .returned (.tuple #[.agg (bcells dg), .nilIface]) ∧ Below W.heap.size W W' := fun W _ => parse_back dg hdl W
      have hcs := bcells_size dg
      rw [hdl] at hcs
      have hone := bcells_one dg _ rfl
      generalize bcells dg = cg at hSum hOf hTx hPa hcs hone
      generalize hexT dg = hx at hTx hPa
      have HSUM0 := hidden hSum
      have HOF0 := hidden hOf
      have HTX0 := hidden hTx
      have HSUM := hidden (rebase (Below.refl _ _) hSum)
      have HTX := hidden (rebase (Below.refl _ _) hTx)
      have HPA := hidden (rebase (Below.refl _ _) hPa)
      have HB15 := hidden hb15
      have hG := Below.refl w5.heap.size w5
      clear hSum hOf hTx hPa hS5 hb5 hb15 hT5 hdl HW hS hb hX5
      go_wp2_with (first | (go_at_call 19; refine (HSUM.out _ (by first | exact hG | exact hG.drew | exact hG.drew.drew | exact hG.drew.drew.drew)).mono ?_; rintro e' W1 ⟨rfl, hG⟩) | (go_at_call 9; refine (HTX.out _ (by first | exact hG | exact hG.drew | exact hG.drew.drew | exact hG.drew.drew.drew)).mono ?_; rintro e' W1 ⟨rfl, hG⟩) | (go_at_call 7; refine (HPA.out _ (by first | exact hG | exact hG.drew | exact hG.drew.drew | exact hG.drew.drew.drew)).mono ?_; rintro e' W1 ⟨rfl, hG⟩))
      have hst : ∀ z : Array Value, z.size = 32 → (storeCells ⟨W1.heap.size, 0, none⟩ cg.toList 0).run Tryd.prog (W1.alloc (.cells z 26)) = .ok () (W1.alloc (.cells cg 26)) := fun z hz => run_storeCells_new (P := Tryd.prog) W1 26 z cg (by rw [hcs]; exact hinfo2) (by omega) hone
      rw [hst]
      rotate_left
      · rfl
      clear hst
      have hG2 := hG.alloc hG.size (.cells cg 26)
      have hg11 : (W1.alloc (.cells cg 26)).heap[W1.heap.size]? = some (.cells cg 26 (0, 0)) := heap_alloc_new _ _
      have hsW := hG.size
      obtain ⟨g, hg⟩ : ∃ g, W1.heap.size = g := ⟨_, rfl⟩
      rw [hg] at hg11 hsW ⊢
      have hsg : (W1.alloc (.cells cg 26)).heap.size = g + 1 := by simp [hg]
      generalize W1.alloc (.cells cg 26) = W2 at hG2 hg11 hsg ⊢
      have HSUM2 := hidden (rebase hG2 HSUM0.out)
      have HTX2 := hidden (rebase hG2 HTX0.out)
      have HOF2 := hidden (rebase hG2 HOF0.out)
      have HG11 := hidden hg11
      have HGW := hidden (HB15.out.trans (hG2.mono (by omega)))
      have hG := Below.refl W2.heap.size W2
      clear HSUM HTX HPA HSUM0 HTX0 HOF0 hG2 hg11 hG
      have hG := Below.refl W2.heap.size W2
      have hkr : W2.rangeAt g 0 cg.toList := range_of HG11.out
      have hgl : g < W2.heap.size := by omega
      have keep : ∀ W, Below W2.heap.size W2 W → (Below W2.heap.size W2 W ∧ W.rangeAt g 0 cg.toList) := fun W h => ⟨h, range_below hkr h hgl⟩
      have hu26 := Tryd.underlying26
      have hi26 : (Tryd.prog.info? 26).map (·.size) = some cg.toList.length := by rw [Array.length_toList, hcs]; exact hinfo2
      go_wp2_with fail
      refine wp_region_held_drew (S := fun W => Below W2.heap.size W2 W ∧ W.rangeAt g 0 cg.toList) (by kernel_rfl) (keep _ (Below.refl _ _).drew) (fun hHeld => ?_)
      refine take_val (i := 0) (v := .nilIface) rfl (by kernel_rfl) (by kernel_rfl) (by kernel_rfl) (some 85) rfl (fun _ _ _ h => h) (Or.inl ⟨by rfl, fun W hW => by go_simp⟩) hHeld ?_
      simp only [Act.put, List.setIfInBounds_toArray, List.set_cons_zero, List.set_cons_succ]
      refine take_val (i := 1) (v := .bool true) rfl (by kernel_rfl) (by kernel_rfl) (by kernel_rfl) (some 86) rfl (fun _ _ _ h => h) (Or.inl ⟨by rfl, fun W hW => by go_simp⟩) hHeld ?_
      simp only [Act.put, List.setIfInBounds_toArray, List.set_cons_zero, List.set_cons_succ]
      refine take_val (i := 2) (v := .bool true) rfl (by kernel_rfl) (by kernel_rfl) (by kernel_rfl) (some 87) rfl (fun _ _ _ h => h) (Or.inl ⟨by rfl, fun W hW => by go_simp⟩) hHeld ?_
      simp only [Act.put, List.setIfInBounds_toArray, List.set_cons_zero, List.set_cons_succ]
      refine take_load (i := 3) rfl (by kernel_rfl) (by kernel_rfl) (by kernel_rfl) (some 88) rfl (by rfl) 26 (.tmp 11) rfl g rfl cg _ (fun _ _ _ h => h) (fun W h => h.2) hu26 rfl hi26 hHeld ?_
      simp only [Act.put, List.setIfInBounds_toArray, List.set_cons_zero, List.set_cons_succ]
      refine take_val (i := 5) (v := .slice ao l cap) rfl (by kernel_rfl) (by kernel_rfl) (by kernel_rfl) (some 90) rfl (fun _ _ _ h => h) (Or.inl ⟨by rfl, fun W hW => by go_simp⟩) hHeld ?_
      simp only [Act.put, List.setIfInBounds_toArray, List.set_cons_zero, List.set_cons_succ]
      refine wpAnyH_ready (rs := [4]) (by kernel_rfl) (by simp) ?_
      refine AllReadyH.cons rfl (fun K hK => ?_) AllReadyH.nil
      go_simp
      refine (HTX2.out _ (Below.refl _ _).drew).mono ?_
      rintro e' W3 ⟨rfl, hG⟩
      refine hK.out _ _ (keep _ hG) (fun hHeld => ?_)
      clear hK K
      refine wpAnyH_ready (rs := [6]) (by kernel_rfl) (by simp) ?_
      refine AllReadyH.cons rfl (fun K hK => ?_) AllReadyH.nil
      go_simp
      refine (HOF2.out _ hG).mono ?_
      rintro e' W3 ⟨rfl, hG⟩
      refine hK.out _ _ (keep _ hG) (fun hHeld => ?_)
      clear hK K
      refine wpAnyH_ready (rs := [7]) (by kernel_rfl) (by simp) ?_
      refine AllReadyH.cons rfl (fun K hK => ?_) AllReadyH.nil
      go_simp
      refine (HTX2.out _ hG).mono ?_
      rintro e' W3 ⟨rfl, hG⟩
      refine hK.out _ _ (keep _ hG) (fun hHeld => ?_)
      clear hK K
      refine take_val (i := 8) (v := .bool true) rfl (by kernel_rfl) (by kernel_rfl) (by kernel_rfl) (some 93) rfl (fun _ _ _ h => h) (Or.inl ⟨by rfl, fun W hW => by go_simp⟩) hHeld ?_
      simp only [Act.put, List.setIfInBounds_toArray, List.set_cons_zero, List.set_cons_succ]
      refine take_val (i := 9) (v := .bool true) rfl (by kernel_rfl) (by kernel_rfl) (by kernel_rfl) (some 94) rfl (fun _ _ _ h => h) (Or.inl ⟨by rfl, fun W hW => by go_simp⟩) hHeld ?_
      simp only [Act.put, List.setIfInBounds_toArray, List.set_cons_zero, List.set_cons_succ]
      refine take_val (i := 10) (v := .bool true) rfl (by kernel_rfl) (by kernel_rfl) (by kernel_rfl) (some 95) rfl (fun _ _ _ h => h) (Or.inl ⟨by rfl, fun W hW => by go_simp⟩) hHeld ?_
      simp only [Act.put, List.setIfInBounds_toArray, List.set_cons_zero, List.set_cons_succ]
      refine take_val (i := 11) (v := .pointer (some ⟨sb, 0, none⟩)) rfl (by kernel_rfl) (by kernel_rfl) (by kernel_rfl) (some 96) rfl (fun _ _ _ h => h) (Or.inl ⟨by rfl, fun W hW => by go_simp⟩) hHeld ?_
      simp only [Act.put, List.setIfInBounds_toArray, List.set_cons_zero, List.set_cons_succ]
      refine take_load (i := 14) rfl (by kernel_rfl) (by kernel_rfl) (by kernel_rfl) (some 99) rfl (by rfl) 26 (.tmp 11) rfl g rfl cg _ (fun _ _ _ h => h) (fun W h => h.2) hu26 rfl hi26 hHeld ?_
      simp only [Act.put, List.setIfInBounds_toArray, List.set_cons_zero, List.set_cons_succ]
      refine wpAnyH_ready (rs := [12]) (by kernel_rfl) (by simp) ?_
      refine AllReadyH.cons rfl (fun K hK => ?_) AllReadyH.nil
      go_simp
      refine (HSUM2.out _ hG).mono ?_
      rintro e' W3 ⟨rfl, hG⟩
      refine hK.out _ _ (keep _ hG) (fun hHeld => ?_)
      clear hK K
      refine wpAnyH_ready (rs := [13]) (by kernel_rfl) (by simp) ?_
      refine AllReadyH.cons rfl (fun K hK => ?_) AllReadyH.nil
      go_simp
      refine (HTX2.out _ hG).mono ?_
      rintro e' W3 ⟨rfl, hG⟩
      refine hK.out _ _ (keep _ hG) (fun hHeld => ?_)
      clear hK K
      refine wpAnyH_ready (rs := [15]) (by kernel_rfl) (by simp) ?_
      refine AllReadyH.cons rfl (fun K hK => ?_) AllReadyH.nil
      go_simp
      refine (HTX2.out _ hG).mono ?_
      rintro e' W3 ⟨rfl, hG⟩
      refine hK.out _ _ (keep _ hG) (fun hHeld => ?_)
      clear hK K
      refine take_val (i := 16) (v := .bool true) rfl (by kernel_rfl) (by kernel_rfl) (by kernel_rfl) (some 101) rfl (fun _ _ _ h => h) (Or.inl ⟨by rfl, fun W hW => by go_simp⟩) hHeld ?_
      simp only [Act.put, List.setIfInBounds_toArray, List.set_cons_zero, List.set_cons_succ]
      refine take_val (i := 17) (v := .bool true) rfl (by kernel_rfl) (by kernel_rfl) (by kernel_rfl) (some 102) rfl (fun _ _ _ h => h) (Or.inl ⟨by rfl, fun W hW => by go_simp⟩) hHeld ?_
      simp only [Act.put, List.setIfInBounds_toArray, List.set_cons_zero, List.set_cons_succ]
      refine take_val (i := 18) (v := .bool true) rfl (by kernel_rfl) (by kernel_rfl) (by kernel_rfl) (some 4) rfl (fun _ _ _ h => h) (Or.inl ⟨by rfl, fun W hW => by go_simp⟩) hHeld ?_
      simp only [Act.put, List.setIfInBounds_toArray, List.set_cons_zero, List.set_cons_succ]
      refine wpAnyH_done (by kernel_rfl) ?_ _
      go_wp2
      go_ret
      exact ⟨rfl, HB1.out.trans ((HGW.out.mono (by omega)).trans (hG.mono (by omega)))⟩
end Go.Proofs.YtpkkdnpejbbejaaDoor
