/- The laws' first answer: the chapter's examples. Conditions: the table of internal/strconv as the program's text lays it. -/
import Derived.Test.YtapdkibiegeijaaDoorNumI
import Derived.Test.YtapdkibiegeijaaDoorNumX
namespace Go.Proofs.YtapdkibiegeijaaDoor
open Go.RowKit
namespace Nm

theorem text_is {x : Int} {l : List UInt8} (h : txt x = l) (a : Value) (k : Nat) (w : World) (hN : NumAt w a x k) (hk : k < 100000000) (hT : Tab w) : Calls Tryd.prog 15 #[a] w fun e w' => e = .returned (.string ⟨l.toArray⟩) ∧ Below w.heap.size w w' := by
  rw [← h]; exact text_any a x k w hN hk hT
set_option maxRecDepth 100000 in
set_option maxHeartbeats 3200000 in
theorem first_any (w : World) (hT : Tab w) : Calls Tryd.prog 7 #[] w fun e w' => e = .returned (.bool true) ∧ Below w.heap.size w w' := by
  have HT := hidden hT
  have HB := hidden (Below.refl w.heap.size w)
  clear hT
  go_enter Tryd.func7, Tryd.ntmps7
  go_wp2_with fail
  refine (of_any (-7) _ (by omega) (by omega)).mono ?_
  rintro e w1 ⟨vx, rfl, hx, hb⟩
  replace HB := hidden (HB.out.trans (hb.mono HB.out.size))
  replace HT := hidden (HT.out.below hb)
  clear hb
  have Nx := hidden hx
  clear hx
  go_wp2_with fail
  refine (of_any (2) _ (by omega) (by omega)).mono ?_
  rintro e w2 ⟨vy, rfl, hy, hb⟩
  replace Nx := hidden (Nx.out.below hb)
  replace HB := hidden (HB.out.trans (hb.mono HB.out.size))
  replace HT := hidden (HT.out.below hb)
  clear hb
  have Ny := hidden hy
  clear hy
  go_wp2_with fail
  refine (div_any vx vy (-7) (2) 3 3 _ Nx.out Ny.out (by omega) (by omega) (by omega)).mono ?_
  rintro e w3 ⟨va, q, r, rfl, hv, hdm, hb⟩
  clear Nx
  clear Ny
  obtain ⟨hq, hr⟩ := dm_unique hdm (show DM (-7) (2) (-4) (1) from by unfold DM; omega)
  subst hq hr
  clear hdm
  replace HB := hidden (HB.out.trans (hb.mono HB.out.size))
  replace HT := hidden (HT.out.below hb)
  clear hb
  have Na := hidden hv
  obtain ⟨na, aa, ca, la, rfl, _⟩ := hv
  have hbw := (Below.refl w3.heap.size w3).alloc (Nat.le_refl _) (.cells #[(.bool na), (.slice aa la.length ca)] 25)
  replace Na := hidden (Na.out.below hbw)
  have Ka := hidden (blk_new w3 (.bool na) (.slice aa la.length ca))
  replace HB := hidden (HB.out.alloc HB.out.size (.cells #[(.bool na), (.slice aa la.length ca)] 25))
  replace HT := hidden (HT.out.below hbw)
  clear hbw
  have fa0 := Ka.out.facts.1
  have fa1 := Ka.out.facts.2.1
  go_wp2_with fail
  generalize w3.alloc (.cells #[(.bool na), (.slice aa la.length ca)] 25) = w4 at Na Ka HB HT fa0 fa1 ⊢
  generalize w3.heap.size = ia at Ka fa0 fa1 ⊢
  refine (of_any (-7) _ (by omega) (by omega)).mono ?_
  rintro e w5 ⟨vx, rfl, hx, hb⟩
  clear fa0 fa1
  replace Na := hidden (Na.out.below hb)
  replace Ka := hidden (Ka.out.below hb Ka.out.lt)
  replace HB := hidden (HB.out.trans (hb.mono HB.out.size))
  replace HT := hidden (HT.out.below hb)
  clear hb
  have fa0 := Ka.out.facts.1
  have fa1 := Ka.out.facts.2.1
  have Nx := hidden hx
  clear hx
  go_wp2_with fail
  refine (of_any (2) _ (by omega) (by omega)).mono ?_
  rintro e w6 ⟨vy, rfl, hy, hb⟩
  clear fa0 fa1
  replace Na := hidden (Na.out.below hb)
  replace Nx := hidden (Nx.out.below hb)
  replace Ka := hidden (Ka.out.below hb Ka.out.lt)
  replace HB := hidden (HB.out.trans (hb.mono HB.out.size))
  replace HT := hidden (HT.out.below hb)
  clear hb
  have fa0 := Ka.out.facts.1
  have fa1 := Ka.out.facts.2.1
  have Ny := hidden hy
  clear hy
  go_wp2_with fail
  refine (mod_any vx vy (-7) (2) 3 3 _ Nx.out Ny.out (by omega) (by omega) (by omega)).mono ?_
  rintro e w7 ⟨vb, q, r, rfl, hv, hdm, hb⟩
  clear Nx
  clear Ny
  obtain ⟨hq, hr⟩ := dm_unique hdm (show DM (-7) (2) (-4) (1) from by unfold DM; omega)
  subst hq hr
  clear hdm
  clear fa0 fa1
  replace Na := hidden (Na.out.below hb)
  replace Ka := hidden (Ka.out.below hb Ka.out.lt)
  replace HB := hidden (HB.out.trans (hb.mono HB.out.size))
  replace HT := hidden (HT.out.below hb)
  clear hb
  have fa0 := Ka.out.facts.1
  have fa1 := Ka.out.facts.2.1
  have Nb := hidden hv
  obtain ⟨nb, ab, cb, lb, rfl, _⟩ := hv
  have hbw := (Below.refl w7.heap.size w7).alloc (Nat.le_refl _) (.cells #[(.bool nb), (.slice ab lb.length cb)] 25)
  clear fa0 fa1
  replace Na := hidden (Na.out.below hbw)
  replace Nb := hidden (Nb.out.below hbw)
  replace Ka := hidden (Ka.out.below hbw Ka.out.lt)
  have Kb := hidden (blk_new w7 (.bool nb) (.slice ab lb.length cb))
  replace HB := hidden (HB.out.alloc HB.out.size (.cells #[(.bool nb), (.slice ab lb.length cb)] 25))
  replace HT := hidden (HT.out.below hbw)
  clear hbw
  have fa0 := Ka.out.facts.1
  have fa1 := Ka.out.facts.2.1
  have fb0 := Kb.out.facts.1
  have fb1 := Kb.out.facts.2.1
  go_wp2_with fail
  generalize w7.alloc (.cells #[(.bool nb), (.slice ab lb.length cb)] 25) = w8 at Na Nb Ka Kb HB HT fa0 fa1 fb0 fb1 ⊢
  generalize w7.heap.size = ib at Kb fb0 fb1 ⊢
  refine (of_any (7) _ (by omega) (by omega)).mono ?_
  rintro e w9 ⟨vx, rfl, hx, hb⟩
  clear fa0 fa1 fb0 fb1
  replace Na := hidden (Na.out.below hb)
  replace Nb := hidden (Nb.out.below hb)
  replace Ka := hidden (Ka.out.below hb Ka.out.lt)
  replace Kb := hidden (Kb.out.below hb Kb.out.lt)
  replace HB := hidden (HB.out.trans (hb.mono HB.out.size))
  replace HT := hidden (HT.out.below hb)
  clear hb
  have fa0 := Ka.out.facts.1
  have fa1 := Ka.out.facts.2.1
  have fb0 := Kb.out.facts.1
  have fb1 := Kb.out.facts.2.1
  have Nx := hidden hx
  clear hx
  go_wp2_with fail
  refine (of_any (-2) _ (by omega) (by omega)).mono ?_
  rintro e w10 ⟨vy, rfl, hy, hb⟩
  clear fa0 fa1 fb0 fb1
  replace Na := hidden (Na.out.below hb)
  replace Nb := hidden (Nb.out.below hb)
  replace Nx := hidden (Nx.out.below hb)
  replace Ka := hidden (Ka.out.below hb Ka.out.lt)
  replace Kb := hidden (Kb.out.below hb Kb.out.lt)
  replace HB := hidden (HB.out.trans (hb.mono HB.out.size))
  replace HT := hidden (HT.out.below hb)
  clear hb
  have fa0 := Ka.out.facts.1
  have fa1 := Ka.out.facts.2.1
  have fb0 := Kb.out.facts.1
  have fb1 := Kb.out.facts.2.1
  have Ny := hidden hy
  clear hy
  go_wp2_with fail
  refine (mod_any vx vy (7) (-2) 3 3 _ Nx.out Ny.out (by omega) (by omega) (by omega)).mono ?_
  rintro e w11 ⟨vc, q, r, rfl, hv, hdm, hb⟩
  clear Nx
  clear Ny
  obtain ⟨hq, hr⟩ := dm_unique hdm (show DM (7) (-2) (-4) (-1) from by unfold DM; omega)
  subst hq hr
  clear hdm
  clear fa0 fa1 fb0 fb1
  replace Na := hidden (Na.out.below hb)
  replace Nb := hidden (Nb.out.below hb)
  replace Ka := hidden (Ka.out.below hb Ka.out.lt)
  replace Kb := hidden (Kb.out.below hb Kb.out.lt)
  replace HB := hidden (HB.out.trans (hb.mono HB.out.size))
  replace HT := hidden (HT.out.below hb)
  clear hb
  have fa0 := Ka.out.facts.1
  have fa1 := Ka.out.facts.2.1
  have fb0 := Kb.out.facts.1
  have fb1 := Kb.out.facts.2.1
  have Nc := hidden hv
  obtain ⟨nc, ac, cc, lc, rfl, _⟩ := hv
  have hbw := (Below.refl w11.heap.size w11).alloc (Nat.le_refl _) (.cells #[(.bool nc), (.slice ac lc.length cc)] 25)
  clear fa0 fa1 fb0 fb1
  replace Na := hidden (Na.out.below hbw)
  replace Nb := hidden (Nb.out.below hbw)
  replace Nc := hidden (Nc.out.below hbw)
  replace Ka := hidden (Ka.out.below hbw Ka.out.lt)
  replace Kb := hidden (Kb.out.below hbw Kb.out.lt)
  have Kc := hidden (blk_new w11 (.bool nc) (.slice ac lc.length cc))
  replace HB := hidden (HB.out.alloc HB.out.size (.cells #[(.bool nc), (.slice ac lc.length cc)] 25))
  replace HT := hidden (HT.out.below hbw)
  clear hbw
  have fa0 := Ka.out.facts.1
  have fa1 := Ka.out.facts.2.1
  have fb0 := Kb.out.facts.1
  have fb1 := Kb.out.facts.2.1
  have fc0 := Kc.out.facts.1
  have fc1 := Kc.out.facts.2.1
  go_wp2_with fail
  generalize w11.alloc (.cells #[(.bool nc), (.slice ac lc.length cc)] 25) = w12 at Na Nb Nc Ka Kb Kc HB HT fa0 fa1 fb0 fb1 fc0 fc1 ⊢
  generalize w11.heap.size = ic at Kc fc0 fc1 ⊢
  refine (text_is (l := [45, 52]) (by decide +kernel) _ _ _ Na.out (by omega) HT.out).mono ?_
  rintro e w13 ⟨rfl, hb⟩
  clear fa0 fa1 fb0 fb1 fc0 fc1
  replace Na := hidden (Na.out.below hb)
  replace Nb := hidden (Nb.out.below hb)
  replace Nc := hidden (Nc.out.below hb)
  replace Ka := hidden (Ka.out.below hb Ka.out.lt)
  replace Kb := hidden (Kb.out.below hb Kb.out.lt)
  replace Kc := hidden (Kc.out.below hb Kc.out.lt)
  replace HB := hidden (HB.out.trans (hb.mono HB.out.size))
  replace HT := hidden (HT.out.below hb)
  clear hb
  have fa0 := Ka.out.facts.1
  have fa1 := Ka.out.facts.2.1
  have fb0 := Kb.out.facts.1
  have fb1 := Kb.out.facts.2.1
  have fc0 := Kc.out.facts.1
  have fc1 := Kc.out.facts.2.1
  go_wp2_with fail
  refine (text_is (l := [49]) (by decide +kernel) _ _ _ Nb.out (by omega) HT.out).mono ?_
  rintro e w14 ⟨rfl, hb⟩
  clear fa0 fa1 fb0 fb1 fc0 fc1
  replace Na := hidden (Na.out.below hb)
  replace Nb := hidden (Nb.out.below hb)
  replace Nc := hidden (Nc.out.below hb)
  replace Ka := hidden (Ka.out.below hb Ka.out.lt)
  replace Kb := hidden (Kb.out.below hb Kb.out.lt)
  replace Kc := hidden (Kc.out.below hb Kc.out.lt)
  replace HB := hidden (HB.out.trans (hb.mono HB.out.size))
  replace HT := hidden (HT.out.below hb)
  clear hb
  have fa0 := Ka.out.facts.1
  have fa1 := Ka.out.facts.2.1
  have fb0 := Kb.out.facts.1
  have fb1 := Kb.out.facts.2.1
  have fc0 := Kc.out.facts.1
  have fc1 := Kc.out.facts.2.1
  go_wp2_with fail
  refine (text_is (l := [45, 49]) (by decide +kernel) _ _ _ Nc.out (by omega) HT.out).mono ?_
  rintro e w15 ⟨rfl, hb⟩
  clear fa0 fa1 fb0 fb1 fc0 fc1
  replace Na := hidden (Na.out.below hb)
  replace Nb := hidden (Nb.out.below hb)
  replace Nc := hidden (Nc.out.below hb)
  replace Ka := hidden (Ka.out.below hb Ka.out.lt)
  replace Kb := hidden (Kb.out.below hb Kb.out.lt)
  replace Kc := hidden (Kc.out.below hb Kc.out.lt)
  replace HB := hidden (HB.out.trans (hb.mono HB.out.size))
  replace HT := hidden (HT.out.below hb)
  clear hb
  have fa0 := Ka.out.facts.1
  have fa1 := Ka.out.facts.2.1
  have fb0 := Kb.out.facts.1
  have fb1 := Kb.out.facts.2.1
  have fc0 := Kc.out.facts.1
  have fc1 := Kc.out.facts.2.1
  go_wp2
  go_ret
  exact ⟨rfl, HB.out⟩
end Nm
end Go.Proofs.YtapdkibiegeijaaDoor
