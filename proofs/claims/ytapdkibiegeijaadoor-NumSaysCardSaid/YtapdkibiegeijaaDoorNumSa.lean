/- What the law NumSays answers. Conditions: the table of internal/strconv as the program's text lays it; api's errors lie in their variables. -/
import Derived.Test.YtapdkibiegeijaaDoorNumSx
import Derived.Test.YtapdkibiegeijaaDoorNumFi
import Derived.Test.YtapdkibiegeijaaDoorErrIs
import Derived.Test.YtapdkibiegeijaaDoorNumRg
import Derived.Deep.Cut
namespace Go.Proofs.YtapdkibiegeijaaDoor
open Go.RowKit
namespace Nm

theorem is_shape2 {A : Nat → Addr} (w : World) (h : Sent A w) : Calls Tryd.prog 11 #[.iface 129 (.pointer (some (A 12))), .int .i64 113] w fun e w' => e = .returned (.bool true) ∧ Below w.heap.size w w' :=
  Is_bare (c := 113) 113 (.inr ⟨12, by omega, rfl, rfl⟩) w h
theorem is_none {A : Nat → Addr} (w : World) (h : Sent A w) : Calls Tryd.prog 11 #[.nilIface, .int .i64 0] w fun e w' => e = .returned (.bool true) ∧ Below w.heap.size w w' :=
  Is_bare (c := 0) 0 (.inl ⟨rfl, rfl⟩) w h
/-- A text is that of its number. -/
theorem says_text {s : ByteArray} {z : Int} (h : says s.data.toList = some z) : (⟨(txt z).toArray⟩ : ByteArray) = s := by
  apply ByteArray.ext
  apply Array.ext'
  rw [← says_txt h]
set_option maxRecDepth 100000 in
set_option maxHeartbeats 51200000 in
theorem numSays_any (s t : ByteArray) (A : Nat → Addr) (w : World) (hT : Tab w) (hS : Sent A w) :
    Calls Tryd.prog 3 #[.string s, .string t] w fun e w' => e = .returned (.bool true) ∧ Below w.heap.size w w' := by
  have HT := hidden hT
  have HB := hidden (Below.refl w.heap.size w)
  have HE := hidden hS
  clear hT hS
  go_enter Tryd.func3, Tryd.ntmps3
  go_wp2_with fail
  refine (first_any _ HT.out).mono ?_
  rintro e w1 ⟨rfl, hb⟩
  replace HE := hidden (HE.out.below hb)
  replace HB := hidden (HB.out.trans (hb.mono HB.out.size))
  replace HT := hidden (HT.out.below hb)
  clear hb
  by_cases hs : 300 < s.size
  · go_wp2
    go_ret
    exact ⟨rfl, HB.out⟩
  by_cases ht : 300 < t.size
  · go_wp2
    go_ret
    exact ⟨rfl, HB.out⟩
  cases hs0 : says s.data.toList with
  | none =>
    go_wp2_with fail
    refine (parsed_both s (A 12) _ (by omega) HE.out.g12).mono ?_
    rintro e w2 ⟨na, nx, aa, ax, ma, mx, ca, cx, rfl, hb, hv⟩
    rw [hs0]
    replace HE := hidden (HE.out.below hb)
    replace HB := hidden (HB.out.trans (hb.mono HB.out.size))
    replace HT := hidden (HT.out.below hb)
    clear hb
    clear hv
    have hbw := (Below.refl w2.heap.size w2).alloc (Nat.le_refl _) (.cells #[(.bool na), (.slice aa ma ca)] 25)
    have Ka := hidden (blk_new w2 (.bool na) (.slice aa ma ca))
    replace HB := hidden (HB.out.alloc HB.out.size (.cells #[(.bool na), (.slice aa ma ca)] 25))
    replace HT := hidden (HT.out.below hbw)
    replace HE := hidden (HE.out.below hbw)
    clear hbw
    have fa0 := Ka.out.facts.1
    have fa1 := Ka.out.facts.2.1
    obtain ⟨w3, hw3⟩ : ∃ W, (w2.alloc (.cells #[(.bool na), (.slice aa ma ca)] 25)) = W := ⟨_, rfl⟩
    rw [hw3] at Ka HB HT HE fa0 fa1
    have hzw3 := hidden (show w3.heap.size = w2.heap.size + 1 from by rw [← hw3]; exact World.size_alloc _ _)
    have Hw3 := hidden hw3
    clear hw3
    have hbw := (Below.refl w3.heap.size w3).alloc (Nat.le_refl _) (.cells #[(.bool nx), (.slice ax mx cx)] 28)
    clear fa0 fa1
    replace Ka := hidden (Ka.out.below hbw Ka.out.lt)
    have Kx := hidden (Rv.blk_new w3 (.bool nx) (.slice ax mx cx))
    replace HB := hidden (HB.out.alloc HB.out.size (.cells #[(.bool nx), (.slice ax mx cx)] 28))
    replace HT := hidden (HT.out.below hbw)
    replace HE := hidden (HE.out.below hbw)
    clear hbw
    have fa0 := Ka.out.facts.1
    have fa1 := Ka.out.facts.2.1
    have fx0 := Kx.out.facts.1
    have fx1 := Kx.out.facts.2.1
    obtain ⟨w4, hw4⟩ : ∃ W, (w3.alloc (.cells #[(.bool nx), (.slice ax mx cx)] 28)) = W := ⟨_, rfl⟩
    rw [hw4] at Ka Kx HB HT HE fa0 fa1 fx0 fx1
    have hzw4 := hidden (show w4.heap.size = w3.heap.size + 1 from by rw [← hw4]; exact World.size_alloc _ _)
    have Hw4 := hidden hw4
    clear hw4
    go_wp2_with fail
    rw [Hw3.out]
    rw [Hw4.out]
    clear Hw3
    clear Hw4
    rw [hzw3.out] at Kx fx0 fx1
    generalize w2.heap.size = ia at Ka fa0 fa1 Kx fx0 fx1 ⊢
    obtain ⟨ix, hi⟩ : ∃ i, ia + 1 = i := ⟨_, rfl⟩
    rw [hi] at Kx fx0 fx1 ⊢
    clear hi
    clear hzw3
    clear hzw4
    refine (parsed_both t (A 12) _ (by omega) HE.out.g12).mono ?_
    rintro e w5 ⟨nb, ny, ab, ay, mb, my, cb, cy, rfl, hb, hv⟩
    obtain ⟨ot, hot⟩ : ∃ o, (says t.data.toList).isSome = o := ⟨_, rfl⟩
    rw [hot]
    clear hot
    replace HE := hidden (HE.out.below hb)
    clear fa0 fa1 fx0 fx1
    replace Ka := hidden (Ka.out.below hb Ka.out.lt)
    replace Kx := hidden (Kx.out.below hb Kx.out.lt)
    replace HB := hidden (HB.out.trans (hb.mono HB.out.size))
    replace HT := hidden (HT.out.below hb)
    clear hb
    have fa0 := Ka.out.facts.1
    have fa1 := Ka.out.facts.2.1
    have fx0 := Kx.out.facts.1
    have fx1 := Kx.out.facts.2.1
    clear hv
    have hbw := (Below.refl w5.heap.size w5).alloc (Nat.le_refl _) (.cells #[(.bool nb), (.slice ab mb cb)] 25)
    clear fa0 fa1 fx0 fx1
    replace Ka := hidden (Ka.out.below hbw Ka.out.lt)
    replace Kx := hidden (Kx.out.below hbw Kx.out.lt)
    have Kb := hidden (blk_new w5 (.bool nb) (.slice ab mb cb))
    replace HB := hidden (HB.out.alloc HB.out.size (.cells #[(.bool nb), (.slice ab mb cb)] 25))
    replace HT := hidden (HT.out.below hbw)
    replace HE := hidden (HE.out.below hbw)
    clear hbw
    have fa0 := Ka.out.facts.1
    have fa1 := Ka.out.facts.2.1
    have fx0 := Kx.out.facts.1
    have fx1 := Kx.out.facts.2.1
    have fb0 := Kb.out.facts.1
    have fb1 := Kb.out.facts.2.1
    obtain ⟨w6, hw6⟩ : ∃ W, (w5.alloc (.cells #[(.bool nb), (.slice ab mb cb)] 25)) = W := ⟨_, rfl⟩
    rw [hw6] at Ka Kx Kb HB HT HE fa0 fa1 fx0 fx1 fb0 fb1
    have hzw6 := hidden (show w6.heap.size = w5.heap.size + 1 from by rw [← hw6]; exact World.size_alloc _ _)
    have Hw6 := hidden hw6
    clear hw6
    have hbw := (Below.refl w6.heap.size w6).alloc (Nat.le_refl _) (.cells #[(.bool ny), (.slice ay my cy)] 28)
    clear fa0 fa1 fx0 fx1 fb0 fb1
    replace Ka := hidden (Ka.out.below hbw Ka.out.lt)
    replace Kx := hidden (Kx.out.below hbw Kx.out.lt)
    replace Kb := hidden (Kb.out.below hbw Kb.out.lt)
    have Ky := hidden (Rv.blk_new w6 (.bool ny) (.slice ay my cy))
    replace HB := hidden (HB.out.alloc HB.out.size (.cells #[(.bool ny), (.slice ay my cy)] 28))
    replace HT := hidden (HT.out.below hbw)
    replace HE := hidden (HE.out.below hbw)
    clear hbw
    have fa0 := Ka.out.facts.1
    have fa1 := Ka.out.facts.2.1
    have fx0 := Kx.out.facts.1
    have fx1 := Kx.out.facts.2.1
    have fb0 := Kb.out.facts.1
    have fb1 := Kb.out.facts.2.1
    have fy0 := Ky.out.facts.1
    have fy1 := Ky.out.facts.2.1
    obtain ⟨w7, hw7⟩ : ∃ W, (w6.alloc (.cells #[(.bool ny), (.slice ay my cy)] 28)) = W := ⟨_, rfl⟩
    rw [hw7] at Ka Kx Kb Ky HB HT HE fa0 fa1 fx0 fx1 fb0 fb1 fy0 fy1
    have hzw7 := hidden (show w7.heap.size = w6.heap.size + 1 from by rw [← hw7]; exact World.size_alloc _ _)
    have Hw7 := hidden hw7
    clear hw7
    go_wp2_with fail
    rw [Hw6.out]
    rw [Hw7.out]
    clear Hw6
    clear Hw7
    rw [hzw6.out] at Ky fy0 fy1
    generalize w5.heap.size = ib at Kb fb0 fb1 Ky fy0 fy1 ⊢
    obtain ⟨iy, hi⟩ : ∃ i, ib + 1 = i := ⟨_, rfl⟩
    rw [hi] at Ky fy0 fy1 ⊢
    clear hi
    clear hzw6
    clear hzw7
    refine (parse_any s (A 12) _ (by omega) HE.out.g12).mono ?_
    rintro e w8 ⟨v, u, rfl, hb, hno, hyes⟩
    obtain ⟨rfl, rfl⟩ := hno hs0
    clear hno hyes
    replace HE := hidden (HE.out.below hb)
    clear fa0 fa1 fx0 fx1 fb0 fb1 fy0 fy1
    replace Ka := hidden (Ka.out.below hb Ka.out.lt)
    replace Kx := hidden (Kx.out.below hb Kx.out.lt)
    replace Kb := hidden (Kb.out.below hb Kb.out.lt)
    replace Ky := hidden (Ky.out.below hb Ky.out.lt)
    replace HB := hidden (HB.out.trans (hb.mono HB.out.size))
    replace HT := hidden (HT.out.below hb)
    clear hb
    have fa0 := Ka.out.facts.1
    have fa1 := Ka.out.facts.2.1
    have fx0 := Kx.out.facts.1
    have fx1 := Kx.out.facts.2.1
    have fb0 := Kb.out.facts.1
    have fb1 := Kb.out.facts.2.1
    have fy0 := Ky.out.facts.1
    have fy1 := Ky.out.facts.2.1
    have hbw := (Below.refl w8.heap.size w8).alloc (Nat.le_refl _) (.cells #[(.bool false), (.slice none 0 0)] 25)
    clear fa0 fa1 fx0 fx1 fb0 fb1 fy0 fy1
    replace Ka := hidden (Ka.out.below hbw Ka.out.lt)
    replace Kx := hidden (Kx.out.below hbw Kx.out.lt)
    replace Kb := hidden (Kb.out.below hbw Kb.out.lt)
    replace Ky := hidden (Ky.out.below hbw Ky.out.lt)
    have Ku := hidden (blk_new w8 (.bool false) (.slice none 0 0))
    replace HB := hidden (HB.out.alloc HB.out.size (.cells #[(.bool false), (.slice none 0 0)] 25))
    replace HT := hidden (HT.out.below hbw)
    replace HE := hidden (HE.out.below hbw)
    clear hbw
    have fa0 := Ka.out.facts.1
    have fa1 := Ka.out.facts.2.1
    have fx0 := Kx.out.facts.1
    have fx1 := Kx.out.facts.2.1
    have fb0 := Kb.out.facts.1
    have fb1 := Kb.out.facts.2.1
    have fy0 := Ky.out.facts.1
    have fy1 := Ky.out.facts.2.1
    have fu0 := Ku.out.facts.1
    have fu1 := Ku.out.facts.2.1
    obtain ⟨w9, hw9⟩ : ∃ W, (w8.alloc (.cells #[(.bool false), (.slice none 0 0)] 25)) = W := ⟨_, rfl⟩
    rw [hw9] at Ka Kx Kb Ky Ku HB HT HE fa0 fa1 fx0 fx1 fb0 fb1 fy0 fy1 fu0 fu1
    have hzw9 := hidden (show w9.heap.size = w8.heap.size + 1 from by rw [← hw9]; exact World.size_alloc _ _)
    have Hw9 := hidden hw9
    clear hw9
    go_wp2_with fail
    rw [Hw9.out]
    clear Hw9
    generalize w8.heap.size = iu at Ku fu0 fu1 ⊢
    clear hzw9
    refine (Rv.parse_any s _ (by omega)).mono ?_
    rintro e w10 ⟨v, rfl, hb, hno, hyes⟩
    obtain rfl := hno hs0
    rw [hs0]
    clear hno hyes
    replace HE := hidden (HE.out.below hb)
    clear fa0 fa1 fx0 fx1 fb0 fb1 fy0 fy1 fu0 fu1
    replace Ka := hidden (Ka.out.below hb Ka.out.lt)
    replace Kx := hidden (Kx.out.below hb Kx.out.lt)
    replace Kb := hidden (Kb.out.below hb Kb.out.lt)
    replace Ky := hidden (Ky.out.below hb Ky.out.lt)
    replace Ku := hidden (Ku.out.below hb Ku.out.lt)
    replace HB := hidden (HB.out.trans (hb.mono HB.out.size))
    replace HT := hidden (HT.out.below hb)
    clear hb
    have fa0 := Ka.out.facts.1
    have fa1 := Ka.out.facts.2.1
    have fx0 := Kx.out.facts.1
    have fx1 := Kx.out.facts.2.1
    have fb0 := Kb.out.facts.1
    have fb1 := Kb.out.facts.2.1
    have fy0 := Ky.out.facts.1
    have fy1 := Ky.out.facts.2.1
    have fu0 := Ku.out.facts.1
    have fu1 := Ku.out.facts.2.1
    have hbw := (Below.refl w10.heap.size w10).alloc (Nat.le_refl _) (.cells #[(.bool false), (.slice none 0 0)] 28)
    clear fa0 fa1 fx0 fx1 fb0 fb1 fy0 fy1 fu0 fu1
    replace Ka := hidden (Ka.out.below hbw Ka.out.lt)
    replace Kx := hidden (Kx.out.below hbw Kx.out.lt)
    replace Kb := hidden (Kb.out.below hbw Kb.out.lt)
    replace Ky := hidden (Ky.out.below hbw Ky.out.lt)
    replace Ku := hidden (Ku.out.below hbw Ku.out.lt)
    have Kv := hidden (Rv.blk_new w10 (.bool false) (.slice none 0 0))
    replace HB := hidden (HB.out.alloc HB.out.size (.cells #[(.bool false), (.slice none 0 0)] 28))
    replace HT := hidden (HT.out.below hbw)
    replace HE := hidden (HE.out.below hbw)
    clear hbw
    have fa0 := Ka.out.facts.1
    have fa1 := Ka.out.facts.2.1
    have fx0 := Kx.out.facts.1
    have fx1 := Kx.out.facts.2.1
    have fb0 := Kb.out.facts.1
    have fb1 := Kb.out.facts.2.1
    have fy0 := Ky.out.facts.1
    have fy1 := Ky.out.facts.2.1
    have fu0 := Ku.out.facts.1
    have fu1 := Ku.out.facts.2.1
    have fv0 := Kv.out.facts.1
    have fv1 := Kv.out.facts.2.1
    obtain ⟨w11, hw11⟩ : ∃ W, (w10.alloc (.cells #[(.bool false), (.slice none 0 0)] 28)) = W := ⟨_, rfl⟩
    rw [hw11] at Ka Kx Kb Ky Ku Kv HB HT HE fa0 fa1 fx0 fx1 fb0 fb1 fy0 fy1 fu0 fu1 fv0 fv1
    have hzw11 := hidden (show w11.heap.size = w10.heap.size + 1 from by rw [← hw11]; exact World.size_alloc _ _)
    have Hw11 := hidden hw11
    clear hw11
    go_wp2_with fail
    rw [Hw11.out]
    clear Hw11
    generalize w10.heap.size = iv at Kv fv0 fv1 ⊢
    clear hzw11
    refine (is_shape2 _ HE.out).mono ?_
    rintro e w12 ⟨rfl, hb⟩
    replace HE := hidden (HE.out.below hb)
    clear fa0 fa1 fx0 fx1 fb0 fb1 fy0 fy1 fu0 fu1 fv0 fv1
    replace Ka := hidden (Ka.out.below hb Ka.out.lt)
    replace Kx := hidden (Kx.out.below hb Kx.out.lt)
    replace Kb := hidden (Kb.out.below hb Kb.out.lt)
    replace Ky := hidden (Ky.out.below hb Ky.out.lt)
    replace Ku := hidden (Ku.out.below hb Ku.out.lt)
    replace Kv := hidden (Kv.out.below hb Kv.out.lt)
    replace HB := hidden (HB.out.trans (hb.mono HB.out.size))
    replace HT := hidden (HT.out.below hb)
    clear hb
    have fa0 := Ka.out.facts.1
    have fa1 := Ka.out.facts.2.1
    have fx0 := Kx.out.facts.1
    have fx1 := Kx.out.facts.2.1
    have fb0 := Kb.out.facts.1
    have fb1 := Kb.out.facts.2.1
    have fy0 := Ky.out.facts.1
    have fy1 := Ky.out.facts.2.1
    have fu0 := Ku.out.facts.1
    have fu1 := Ku.out.facts.2.1
    have fv0 := Kv.out.facts.1
    have fv1 := Kv.out.facts.2.1
    go_wp2_with fail
    refine (is_shape2 _ HE.out).mono ?_
    rintro e w13 ⟨rfl, hb⟩
    replace HE := hidden (HE.out.below hb)
    clear fa0 fa1 fx0 fx1 fb0 fb1 fy0 fy1 fu0 fu1 fv0 fv1
    replace Ka := hidden (Ka.out.below hb Ka.out.lt)
    replace Kx := hidden (Kx.out.below hb Kx.out.lt)
    replace Kb := hidden (Kb.out.below hb Kb.out.lt)
    replace Ky := hidden (Ky.out.below hb Ky.out.lt)
    replace Ku := hidden (Ku.out.below hb Ku.out.lt)
    replace Kv := hidden (Kv.out.below hb Kv.out.lt)
    replace HB := hidden (HB.out.trans (hb.mono HB.out.size))
    replace HT := hidden (HT.out.below hb)
    clear hb
    have fa0 := Ka.out.facts.1
    have fa1 := Ka.out.facts.2.1
    have fx0 := Kx.out.facts.1
    have fx1 := Kx.out.facts.2.1
    have fb0 := Kb.out.facts.1
    have fb1 := Kb.out.facts.2.1
    have fy0 := Ky.out.facts.1
    have fy1 := Ky.out.facts.2.1
    have fu0 := Ku.out.facts.1
    have fu1 := Ku.out.facts.2.1
    have fv0 := Kv.out.facts.1
    have fv1 := Kv.out.facts.2.1
    go_wp2
    go_ret
    exact ⟨rfl, HB.out⟩
  | some za =>
    go_wp2_with fail
    refine (parsed_both s (A 12) _ (by omega) HE.out.g12).mono ?_
    rintro e w14 ⟨na, nx, aa, ax, ma, mx, ca, cx, rfl, hb, hv⟩
    obtain ⟨hv1, hv2⟩ := hv _ hs0
    rw [hs0]
    replace HE := hidden (HE.out.below hb)
    replace HB := hidden (HB.out.trans (hb.mono HB.out.size))
    replace HT := hidden (HT.out.below hb)
    clear hb
    have Na := hidden hv1
    have Nx := hidden hv2
    clear hv1 hv2
    clear hv
    have hbw := (Below.refl w14.heap.size w14).alloc (Nat.le_refl _) (.cells #[(.bool na), (.slice aa ma ca)] 25)
    replace Na := hidden (Na.out.below hbw)
    replace Nx := hidden (Nx.out.below hbw)
    have Ka := hidden (blk_new w14 (.bool na) (.slice aa ma ca))
    replace HB := hidden (HB.out.alloc HB.out.size (.cells #[(.bool na), (.slice aa ma ca)] 25))
    replace HT := hidden (HT.out.below hbw)
    replace HE := hidden (HE.out.below hbw)
    clear hbw
    have fa0 := Ka.out.facts.1
    have fa1 := Ka.out.facts.2.1
    obtain ⟨w15, hw15⟩ : ∃ W, (w14.alloc (.cells #[(.bool na), (.slice aa ma ca)] 25)) = W := ⟨_, rfl⟩
    rw [hw15] at Na Nx Ka HB HT HE fa0 fa1
    have hzw15 := hidden (show w15.heap.size = w14.heap.size + 1 from by rw [← hw15]; exact World.size_alloc _ _)
    have Hw15 := hidden hw15
    clear hw15
    have hbw := (Below.refl w15.heap.size w15).alloc (Nat.le_refl _) (.cells #[(.bool nx), (.slice ax mx cx)] 28)
    clear fa0 fa1
    replace Na := hidden (Na.out.below hbw)
    replace Nx := hidden (Nx.out.below hbw)
    replace Ka := hidden (Ka.out.below hbw Ka.out.lt)
    have Kx := hidden (Rv.blk_new w15 (.bool nx) (.slice ax mx cx))
    replace HB := hidden (HB.out.alloc HB.out.size (.cells #[(.bool nx), (.slice ax mx cx)] 28))
    replace HT := hidden (HT.out.below hbw)
    replace HE := hidden (HE.out.below hbw)
    clear hbw
    have fa0 := Ka.out.facts.1
    have fa1 := Ka.out.facts.2.1
    have fx0 := Kx.out.facts.1
    have fx1 := Kx.out.facts.2.1
    obtain ⟨w16, hw16⟩ : ∃ W, (w15.alloc (.cells #[(.bool nx), (.slice ax mx cx)] 28)) = W := ⟨_, rfl⟩
    rw [hw16] at Na Nx Ka Kx HB HT HE fa0 fa1 fx0 fx1
    have hzw16 := hidden (show w16.heap.size = w15.heap.size + 1 from by rw [← hw16]; exact World.size_alloc _ _)
    have Hw16 := hidden hw16
    clear hw16
    cases ht0 : says t.data.toList with
    | none =>
      go_wp2_with fail
      rw [Hw15.out]
      rw [Hw16.out]
      clear Hw15
      clear Hw16
      rw [hzw15.out] at Kx fx0 fx1
      generalize w14.heap.size = ia at Ka fa0 fa1 Kx fx0 fx1 ⊢
      obtain ⟨ix, hi⟩ : ∃ i, ia + 1 = i := ⟨_, rfl⟩
      rw [hi] at Kx fx0 fx1 ⊢
      clear hi
      clear hzw15
      clear hzw16
      refine (parsed_both t (A 12) _ (by omega) HE.out.g12).mono ?_
      rintro e w17 ⟨nb, ny, ab, ay, mb, my, cb, cy, rfl, hb, hv⟩
      rw [ht0]
      replace HE := hidden (HE.out.below hb)
      clear fa0 fa1 fx0 fx1
      replace Na := hidden (Na.out.below hb)
      replace Nx := hidden (Nx.out.below hb)
      replace Ka := hidden (Ka.out.below hb Ka.out.lt)
      replace Kx := hidden (Kx.out.below hb Kx.out.lt)
      replace HB := hidden (HB.out.trans (hb.mono HB.out.size))
      replace HT := hidden (HT.out.below hb)
      clear hb
      have fa0 := Ka.out.facts.1
      have fa1 := Ka.out.facts.2.1
      have fx0 := Kx.out.facts.1
      have fx1 := Kx.out.facts.2.1
      clear hv
      have hbw := (Below.refl w17.heap.size w17).alloc (Nat.le_refl _) (.cells #[(.bool nb), (.slice ab mb cb)] 25)
      clear fa0 fa1 fx0 fx1
      replace Na := hidden (Na.out.below hbw)
      replace Nx := hidden (Nx.out.below hbw)
      replace Ka := hidden (Ka.out.below hbw Ka.out.lt)
      replace Kx := hidden (Kx.out.below hbw Kx.out.lt)
      have Kb := hidden (blk_new w17 (.bool nb) (.slice ab mb cb))
      replace HB := hidden (HB.out.alloc HB.out.size (.cells #[(.bool nb), (.slice ab mb cb)] 25))
      replace HT := hidden (HT.out.below hbw)
      replace HE := hidden (HE.out.below hbw)
      clear hbw
      have fa0 := Ka.out.facts.1
      have fa1 := Ka.out.facts.2.1
      have fx0 := Kx.out.facts.1
      have fx1 := Kx.out.facts.2.1
      have fb0 := Kb.out.facts.1
      have fb1 := Kb.out.facts.2.1
      obtain ⟨w18, hw18⟩ : ∃ W, (w17.alloc (.cells #[(.bool nb), (.slice ab mb cb)] 25)) = W := ⟨_, rfl⟩
      rw [hw18] at Na Nx Ka Kx Kb HB HT HE fa0 fa1 fx0 fx1 fb0 fb1
      have hzw18 := hidden (show w18.heap.size = w17.heap.size + 1 from by rw [← hw18]; exact World.size_alloc _ _)
      have Hw18 := hidden hw18
      clear hw18
      have hbw := (Below.refl w18.heap.size w18).alloc (Nat.le_refl _) (.cells #[(.bool ny), (.slice ay my cy)] 28)
      clear fa0 fa1 fx0 fx1 fb0 fb1
      replace Na := hidden (Na.out.below hbw)
      replace Nx := hidden (Nx.out.below hbw)
      replace Ka := hidden (Ka.out.below hbw Ka.out.lt)
      replace Kx := hidden (Kx.out.below hbw Kx.out.lt)
      replace Kb := hidden (Kb.out.below hbw Kb.out.lt)
      have Ky := hidden (Rv.blk_new w18 (.bool ny) (.slice ay my cy))
      replace HB := hidden (HB.out.alloc HB.out.size (.cells #[(.bool ny), (.slice ay my cy)] 28))
      replace HT := hidden (HT.out.below hbw)
      replace HE := hidden (HE.out.below hbw)
      clear hbw
      have fa0 := Ka.out.facts.1
      have fa1 := Ka.out.facts.2.1
      have fx0 := Kx.out.facts.1
      have fx1 := Kx.out.facts.2.1
      have fb0 := Kb.out.facts.1
      have fb1 := Kb.out.facts.2.1
      have fy0 := Ky.out.facts.1
      have fy1 := Ky.out.facts.2.1
      obtain ⟨w19, hw19⟩ : ∃ W, (w18.alloc (.cells #[(.bool ny), (.slice ay my cy)] 28)) = W := ⟨_, rfl⟩
      rw [hw19] at Na Nx Ka Kx Kb Ky HB HT HE fa0 fa1 fx0 fx1 fb0 fb1 fy0 fy1
      have hzw19 := hidden (show w19.heap.size = w18.heap.size + 1 from by rw [← hw19]; exact World.size_alloc _ _)
      have Hw19 := hidden hw19
      clear hw19
      go_wp2_with fail
      rw [Hw18.out]
      rw [Hw19.out]
      clear Hw18
      clear Hw19
      rw [hzw18.out] at Ky fy0 fy1
      generalize w17.heap.size = ib at Kb fb0 fb1 Ky fy0 fy1 ⊢
      obtain ⟨iy, hi⟩ : ∃ i, ib + 1 = i := ⟨_, rfl⟩
      rw [hi] at Ky fy0 fy1 ⊢
      clear hi
      clear hzw18
      clear hzw19
      refine (parse_any s (A 12) _ (by omega) HE.out.g12).mono ?_
      rintro e w20 ⟨v, u, rfl, hb, hno, hyes⟩
      obtain ⟨rfl, hv⟩ := hyes _ hs0
      obtain ⟨nu, au, cu, lu, rfl, _⟩ := hv
      clear hno hyes
      replace HE := hidden (HE.out.below hb)
      clear fa0 fa1 fx0 fx1 fb0 fb1 fy0 fy1
      replace Na := hidden (Na.out.below hb)
      replace Nx := hidden (Nx.out.below hb)
      replace Ka := hidden (Ka.out.below hb Ka.out.lt)
      replace Kx := hidden (Kx.out.below hb Kx.out.lt)
      replace Kb := hidden (Kb.out.below hb Kb.out.lt)
      replace Ky := hidden (Ky.out.below hb Ky.out.lt)
      replace HB := hidden (HB.out.trans (hb.mono HB.out.size))
      replace HT := hidden (HT.out.below hb)
      clear hb
      have fa0 := Ka.out.facts.1
      have fa1 := Ka.out.facts.2.1
      have fx0 := Kx.out.facts.1
      have fx1 := Kx.out.facts.2.1
      have fb0 := Kb.out.facts.1
      have fb1 := Kb.out.facts.2.1
      have fy0 := Ky.out.facts.1
      have fy1 := Ky.out.facts.2.1
      have hbw := (Below.refl w20.heap.size w20).alloc (Nat.le_refl _) (.cells #[(.bool nu), (.slice au lu.length cu)] 25)
      clear fa0 fa1 fx0 fx1 fb0 fb1 fy0 fy1
      replace Na := hidden (Na.out.below hbw)
      replace Nx := hidden (Nx.out.below hbw)
      replace Ka := hidden (Ka.out.below hbw Ka.out.lt)
      replace Kx := hidden (Kx.out.below hbw Kx.out.lt)
      replace Kb := hidden (Kb.out.below hbw Kb.out.lt)
      replace Ky := hidden (Ky.out.below hbw Ky.out.lt)
      have Ku := hidden (blk_new w20 (.bool nu) (.slice au lu.length cu))
      replace HB := hidden (HB.out.alloc HB.out.size (.cells #[(.bool nu), (.slice au lu.length cu)] 25))
      replace HT := hidden (HT.out.below hbw)
      replace HE := hidden (HE.out.below hbw)
      clear hbw
      have fa0 := Ka.out.facts.1
      have fa1 := Ka.out.facts.2.1
      have fx0 := Kx.out.facts.1
      have fx1 := Kx.out.facts.2.1
      have fb0 := Kb.out.facts.1
      have fb1 := Kb.out.facts.2.1
      have fy0 := Ky.out.facts.1
      have fy1 := Ky.out.facts.2.1
      have fu0 := Ku.out.facts.1
      have fu1 := Ku.out.facts.2.1
      obtain ⟨w21, hw21⟩ : ∃ W, (w20.alloc (.cells #[(.bool nu), (.slice au lu.length cu)] 25)) = W := ⟨_, rfl⟩
      rw [hw21] at Na Nx Ka Kx Kb Ky Ku HB HT HE fa0 fa1 fx0 fx1 fb0 fb1 fy0 fy1 fu0 fu1
      have hzw21 := hidden (show w21.heap.size = w20.heap.size + 1 from by rw [← hw21]; exact World.size_alloc _ _)
      have Hw21 := hidden hw21
      clear hw21
      go_wp2_with fail
      rw [Hw21.out]
      clear Hw21
      generalize w20.heap.size = iu at Ku fu0 fu1 ⊢
      clear hzw21
      refine (Rv.parse_any s _ (by omega)).mono ?_
      rintro e w22 ⟨v, rfl, hb, hno, hyes⟩
      have hv := hyes _ hs0
      obtain ⟨nv, av, cv, lv, rfl, _⟩ := hv
      rw [hs0]
      clear hno hyes
      replace HE := hidden (HE.out.below hb)
      clear fa0 fa1 fx0 fx1 fb0 fb1 fy0 fy1 fu0 fu1
      replace Na := hidden (Na.out.below hb)
      replace Nx := hidden (Nx.out.below hb)
      replace Ka := hidden (Ka.out.below hb Ka.out.lt)
      replace Kx := hidden (Kx.out.below hb Kx.out.lt)
      replace Kb := hidden (Kb.out.below hb Kb.out.lt)
      replace Ky := hidden (Ky.out.below hb Ky.out.lt)
      replace Ku := hidden (Ku.out.below hb Ku.out.lt)
      replace HB := hidden (HB.out.trans (hb.mono HB.out.size))
      replace HT := hidden (HT.out.below hb)
      clear hb
      have fa0 := Ka.out.facts.1
      have fa1 := Ka.out.facts.2.1
      have fx0 := Kx.out.facts.1
      have fx1 := Kx.out.facts.2.1
      have fb0 := Kb.out.facts.1
      have fb1 := Kb.out.facts.2.1
      have fy0 := Ky.out.facts.1
      have fy1 := Ky.out.facts.2.1
      have fu0 := Ku.out.facts.1
      have fu1 := Ku.out.facts.2.1
      have hbw := (Below.refl w22.heap.size w22).alloc (Nat.le_refl _) (.cells #[(.bool nv), (.slice av lv.length cv)] 28)
      clear fa0 fa1 fx0 fx1 fb0 fb1 fy0 fy1 fu0 fu1
      replace Na := hidden (Na.out.below hbw)
      replace Nx := hidden (Nx.out.below hbw)
      replace Ka := hidden (Ka.out.below hbw Ka.out.lt)
      replace Kx := hidden (Kx.out.below hbw Kx.out.lt)
      replace Kb := hidden (Kb.out.below hbw Kb.out.lt)
      replace Ky := hidden (Ky.out.below hbw Ky.out.lt)
      replace Ku := hidden (Ku.out.below hbw Ku.out.lt)
      have Kv := hidden (Rv.blk_new w22 (.bool nv) (.slice av lv.length cv))
      replace HB := hidden (HB.out.alloc HB.out.size (.cells #[(.bool nv), (.slice av lv.length cv)] 28))
      replace HT := hidden (HT.out.below hbw)
      replace HE := hidden (HE.out.below hbw)
      clear hbw
      have fa0 := Ka.out.facts.1
      have fa1 := Ka.out.facts.2.1
      have fx0 := Kx.out.facts.1
      have fx1 := Kx.out.facts.2.1
      have fb0 := Kb.out.facts.1
      have fb1 := Kb.out.facts.2.1
      have fy0 := Ky.out.facts.1
      have fy1 := Ky.out.facts.2.1
      have fu0 := Ku.out.facts.1
      have fu1 := Ku.out.facts.2.1
      have fv0 := Kv.out.facts.1
      have fv1 := Kv.out.facts.2.1
      obtain ⟨w23, hw23⟩ : ∃ W, (w22.alloc (.cells #[(.bool nv), (.slice av lv.length cv)] 28)) = W := ⟨_, rfl⟩
      rw [hw23] at Na Nx Ka Kx Kb Ky Ku Kv HB HT HE fa0 fa1 fx0 fx1 fb0 fb1 fy0 fy1 fu0 fu1 fv0 fv1
      have hzw23 := hidden (show w23.heap.size = w22.heap.size + 1 from by rw [← hw23]; exact World.size_alloc _ _)
      have Hw23 := hidden hw23
      clear hw23
      go_wp2_with fail
      rw [Hw23.out]
      clear Hw23
      generalize w22.heap.size = iv at Kv fv0 fv1 ⊢
      clear hzw23
      refine (is_none _ HE.out).mono ?_
      rintro e w24 ⟨rfl, hb⟩
      replace HE := hidden (HE.out.below hb)
      clear fa0 fa1 fx0 fx1 fb0 fb1 fy0 fy1 fu0 fu1 fv0 fv1
      replace Na := hidden (Na.out.below hb)
      replace Nx := hidden (Nx.out.below hb)
      replace Ka := hidden (Ka.out.below hb Ka.out.lt)
      replace Kx := hidden (Kx.out.below hb Kx.out.lt)
      replace Kb := hidden (Kb.out.below hb Kb.out.lt)
      replace Ky := hidden (Ky.out.below hb Ky.out.lt)
      replace Ku := hidden (Ku.out.below hb Ku.out.lt)
      replace Kv := hidden (Kv.out.below hb Kv.out.lt)
      replace HB := hidden (HB.out.trans (hb.mono HB.out.size))
      replace HT := hidden (HT.out.below hb)
      clear hb
      have fa0 := Ka.out.facts.1
      have fa1 := Ka.out.facts.2.1
      have fx0 := Kx.out.facts.1
      have fx1 := Kx.out.facts.2.1
      have fb0 := Kb.out.facts.1
      have fb1 := Kb.out.facts.2.1
      have fy0 := Ky.out.facts.1
      have fy1 := Ky.out.facts.2.1
      have fu0 := Ku.out.facts.1
      have fu1 := Ku.out.facts.2.1
      have fv0 := Kv.out.facts.1
      have fv1 := Kv.out.facts.2.1
      go_wp2_with fail
      refine (is_none _ HE.out).mono ?_
      rintro e w25 ⟨rfl, hb⟩
      replace HE := hidden (HE.out.below hb)
      clear fa0 fa1 fx0 fx1 fb0 fb1 fy0 fy1 fu0 fu1 fv0 fv1
      replace Na := hidden (Na.out.below hb)
      replace Nx := hidden (Nx.out.below hb)
      replace Ka := hidden (Ka.out.below hb Ka.out.lt)
      replace Kx := hidden (Kx.out.below hb Kx.out.lt)
      replace Kb := hidden (Kb.out.below hb Kb.out.lt)
      replace Ky := hidden (Ky.out.below hb Ky.out.lt)
      replace Ku := hidden (Ku.out.below hb Ku.out.lt)
      replace Kv := hidden (Kv.out.below hb Kv.out.lt)
      replace HB := hidden (HB.out.trans (hb.mono HB.out.size))
      replace HT := hidden (HT.out.below hb)
      clear hb
      have fa0 := Ka.out.facts.1
      have fa1 := Ka.out.facts.2.1
      have fx0 := Kx.out.facts.1
      have fx1 := Kx.out.facts.2.1
      have fb0 := Kb.out.facts.1
      have fb1 := Kb.out.facts.2.1
      have fy0 := Ky.out.facts.1
      have fy1 := Ky.out.facts.2.1
      have fu0 := Ku.out.facts.1
      have fu1 := Ku.out.facts.2.1
      have fv0 := Kv.out.facts.1
      have fv1 := Kv.out.facts.2.1
      go_wp2
      go_ret
      exact ⟨rfl, HB.out⟩
    | some zb =>
      go_wp2_with fail
      rw [Hw15.out]
      rw [Hw16.out]
      clear Hw15
      clear Hw16
      rw [hzw15.out] at Kx fx0 fx1
      generalize w14.heap.size = ia at Ka fa0 fa1 Kx fx0 fx1 ⊢
      obtain ⟨ix, hi⟩ : ∃ i, ia + 1 = i := ⟨_, rfl⟩
      rw [hi] at Kx fx0 fx1 ⊢
      clear hi
      clear hzw15
      clear hzw16
      refine (parsed_both t (A 12) _ (by omega) HE.out.g12).mono ?_
      rintro e w26 ⟨nb, ny, ab, ay, mb, my, cb, cy, rfl, hb, hv⟩
      obtain ⟨hv1, hv2⟩ := hv _ ht0
      rw [ht0]
      replace HE := hidden (HE.out.below hb)
      clear fa0 fa1 fx0 fx1
      replace Na := hidden (Na.out.below hb)
      replace Nx := hidden (Nx.out.below hb)
      replace Ka := hidden (Ka.out.below hb Ka.out.lt)
      replace Kx := hidden (Kx.out.below hb Kx.out.lt)
      replace HB := hidden (HB.out.trans (hb.mono HB.out.size))
      replace HT := hidden (HT.out.below hb)
      clear hb
      have fa0 := Ka.out.facts.1
      have fa1 := Ka.out.facts.2.1
      have fx0 := Kx.out.facts.1
      have fx1 := Kx.out.facts.2.1
      have Nb := hidden hv1
      have Ny := hidden hv2
      clear hv1 hv2
      clear hv
      have hbw := (Below.refl w26.heap.size w26).alloc (Nat.le_refl _) (.cells #[(.bool nb), (.slice ab mb cb)] 25)
      clear fa0 fa1 fx0 fx1
      replace Na := hidden (Na.out.below hbw)
      replace Nx := hidden (Nx.out.below hbw)
      replace Nb := hidden (Nb.out.below hbw)
      replace Ny := hidden (Ny.out.below hbw)
      replace Ka := hidden (Ka.out.below hbw Ka.out.lt)
      replace Kx := hidden (Kx.out.below hbw Kx.out.lt)
      have Kb := hidden (blk_new w26 (.bool nb) (.slice ab mb cb))
      replace HB := hidden (HB.out.alloc HB.out.size (.cells #[(.bool nb), (.slice ab mb cb)] 25))
      replace HT := hidden (HT.out.below hbw)
      replace HE := hidden (HE.out.below hbw)
      clear hbw
      have fa0 := Ka.out.facts.1
      have fa1 := Ka.out.facts.2.1
      have fx0 := Kx.out.facts.1
      have fx1 := Kx.out.facts.2.1
      have fb0 := Kb.out.facts.1
      have fb1 := Kb.out.facts.2.1
      obtain ⟨w27, hw27⟩ : ∃ W, (w26.alloc (.cells #[(.bool nb), (.slice ab mb cb)] 25)) = W := ⟨_, rfl⟩
      rw [hw27] at Na Nx Nb Ny Ka Kx Kb HB HT HE fa0 fa1 fx0 fx1 fb0 fb1
      have hzw27 := hidden (show w27.heap.size = w26.heap.size + 1 from by rw [← hw27]; exact World.size_alloc _ _)
      have Hw27 := hidden hw27
      clear hw27
      have hbw := (Below.refl w27.heap.size w27).alloc (Nat.le_refl _) (.cells #[(.bool ny), (.slice ay my cy)] 28)
      clear fa0 fa1 fx0 fx1 fb0 fb1
      replace Na := hidden (Na.out.below hbw)
      replace Nx := hidden (Nx.out.below hbw)
      replace Nb := hidden (Nb.out.below hbw)
      replace Ny := hidden (Ny.out.below hbw)
      replace Ka := hidden (Ka.out.below hbw Ka.out.lt)
      replace Kx := hidden (Kx.out.below hbw Kx.out.lt)
      replace Kb := hidden (Kb.out.below hbw Kb.out.lt)
      have Ky := hidden (Rv.blk_new w27 (.bool ny) (.slice ay my cy))
      replace HB := hidden (HB.out.alloc HB.out.size (.cells #[(.bool ny), (.slice ay my cy)] 28))
      replace HT := hidden (HT.out.below hbw)
      replace HE := hidden (HE.out.below hbw)
      clear hbw
      have fa0 := Ka.out.facts.1
      have fa1 := Ka.out.facts.2.1
      have fx0 := Kx.out.facts.1
      have fx1 := Kx.out.facts.2.1
      have fb0 := Kb.out.facts.1
      have fb1 := Kb.out.facts.2.1
      have fy0 := Ky.out.facts.1
      have fy1 := Ky.out.facts.2.1
      obtain ⟨w28, hw28⟩ : ∃ W, (w27.alloc (.cells #[(.bool ny), (.slice ay my cy)] 28)) = W := ⟨_, rfl⟩
      rw [hw28] at Na Nx Nb Ny Ka Kx Kb Ky HB HT HE fa0 fa1 fx0 fx1 fb0 fb1 fy0 fy1
      have hzw28 := hidden (show w28.heap.size = w27.heap.size + 1 from by rw [← hw28]; exact World.size_alloc _ _)
      have Hw28 := hidden hw28
      clear hw28
      go_wp2_with fail
      rw [Hw27.out]
      rw [Hw28.out]
      clear Hw27
      clear Hw28
      rw [hzw27.out] at Ky fy0 fy1
      generalize w26.heap.size = ib at Kb fb0 fb1 Ky fy0 fy1 ⊢
      obtain ⟨iy, hi⟩ : ∃ i, ib + 1 = i := ⟨_, rfl⟩
      rw [hi] at Ky fy0 fy1 ⊢
      clear hi
      clear hzw27
      clear hzw28
      refine (parse_any s (A 12) _ (by omega) HE.out.g12).mono ?_
      rintro e w29 ⟨v, u, rfl, hb, hno, hyes⟩
      obtain ⟨rfl, hv⟩ := hyes _ hs0
      obtain ⟨nu, au, cu, lu, rfl, _⟩ := hv
      clear hno hyes
      replace HE := hidden (HE.out.below hb)
      clear fa0 fa1 fx0 fx1 fb0 fb1 fy0 fy1
      replace Na := hidden (Na.out.below hb)
      replace Nx := hidden (Nx.out.below hb)
      replace Nb := hidden (Nb.out.below hb)
      replace Ny := hidden (Ny.out.below hb)
      replace Ka := hidden (Ka.out.below hb Ka.out.lt)
      replace Kx := hidden (Kx.out.below hb Kx.out.lt)
      replace Kb := hidden (Kb.out.below hb Kb.out.lt)
      replace Ky := hidden (Ky.out.below hb Ky.out.lt)
      replace HB := hidden (HB.out.trans (hb.mono HB.out.size))
      replace HT := hidden (HT.out.below hb)
      clear hb
      have fa0 := Ka.out.facts.1
      have fa1 := Ka.out.facts.2.1
      have fx0 := Kx.out.facts.1
      have fx1 := Kx.out.facts.2.1
      have fb0 := Kb.out.facts.1
      have fb1 := Kb.out.facts.2.1
      have fy0 := Ky.out.facts.1
      have fy1 := Ky.out.facts.2.1
      have hbw := (Below.refl w29.heap.size w29).alloc (Nat.le_refl _) (.cells #[(.bool nu), (.slice au lu.length cu)] 25)
      clear fa0 fa1 fx0 fx1 fb0 fb1 fy0 fy1
      replace Na := hidden (Na.out.below hbw)
      replace Nx := hidden (Nx.out.below hbw)
      replace Nb := hidden (Nb.out.below hbw)
      replace Ny := hidden (Ny.out.below hbw)
      replace Ka := hidden (Ka.out.below hbw Ka.out.lt)
      replace Kx := hidden (Kx.out.below hbw Kx.out.lt)
      replace Kb := hidden (Kb.out.below hbw Kb.out.lt)
      replace Ky := hidden (Ky.out.below hbw Ky.out.lt)
      have Ku := hidden (blk_new w29 (.bool nu) (.slice au lu.length cu))
      replace HB := hidden (HB.out.alloc HB.out.size (.cells #[(.bool nu), (.slice au lu.length cu)] 25))
      replace HT := hidden (HT.out.below hbw)
      replace HE := hidden (HE.out.below hbw)
      clear hbw
      have fa0 := Ka.out.facts.1
      have fa1 := Ka.out.facts.2.1
      have fx0 := Kx.out.facts.1
      have fx1 := Kx.out.facts.2.1
      have fb0 := Kb.out.facts.1
      have fb1 := Kb.out.facts.2.1
      have fy0 := Ky.out.facts.1
      have fy1 := Ky.out.facts.2.1
      have fu0 := Ku.out.facts.1
      have fu1 := Ku.out.facts.2.1
      obtain ⟨w30, hw30⟩ : ∃ W, (w29.alloc (.cells #[(.bool nu), (.slice au lu.length cu)] 25)) = W := ⟨_, rfl⟩
      rw [hw30] at Na Nx Nb Ny Ka Kx Kb Ky Ku HB HT HE fa0 fa1 fx0 fx1 fb0 fb1 fy0 fy1 fu0 fu1
      have hzw30 := hidden (show w30.heap.size = w29.heap.size + 1 from by rw [← hw30]; exact World.size_alloc _ _)
      have Hw30 := hidden hw30
      clear hw30
      go_wp2_with fail
      rw [Hw30.out]
      clear Hw30
      generalize w29.heap.size = iu at Ku fu0 fu1 ⊢
      clear hzw30
      refine (Rv.parse_any s _ (by omega)).mono ?_
      rintro e w31 ⟨v, rfl, hb, hno, hyes⟩
      have hv := hyes _ hs0
      obtain ⟨nv, av, cv, lv, rfl, _⟩ := hv
      rw [hs0]
      clear hno hyes
      replace HE := hidden (HE.out.below hb)
      clear fa0 fa1 fx0 fx1 fb0 fb1 fy0 fy1 fu0 fu1
      replace Na := hidden (Na.out.below hb)
      replace Nx := hidden (Nx.out.below hb)
      replace Nb := hidden (Nb.out.below hb)
      replace Ny := hidden (Ny.out.below hb)
      replace Ka := hidden (Ka.out.below hb Ka.out.lt)
      replace Kx := hidden (Kx.out.below hb Kx.out.lt)
      replace Kb := hidden (Kb.out.below hb Kb.out.lt)
      replace Ky := hidden (Ky.out.below hb Ky.out.lt)
      replace Ku := hidden (Ku.out.below hb Ku.out.lt)
      replace HB := hidden (HB.out.trans (hb.mono HB.out.size))
      replace HT := hidden (HT.out.below hb)
      clear hb
      have fa0 := Ka.out.facts.1
      have fa1 := Ka.out.facts.2.1
      have fx0 := Kx.out.facts.1
      have fx1 := Kx.out.facts.2.1
      have fb0 := Kb.out.facts.1
      have fb1 := Kb.out.facts.2.1
      have fy0 := Ky.out.facts.1
      have fy1 := Ky.out.facts.2.1
      have fu0 := Ku.out.facts.1
      have fu1 := Ku.out.facts.2.1
      have hbw := (Below.refl w31.heap.size w31).alloc (Nat.le_refl _) (.cells #[(.bool nv), (.slice av lv.length cv)] 28)
      clear fa0 fa1 fx0 fx1 fb0 fb1 fy0 fy1 fu0 fu1
      replace Na := hidden (Na.out.below hbw)
      replace Nx := hidden (Nx.out.below hbw)
      replace Nb := hidden (Nb.out.below hbw)
      replace Ny := hidden (Ny.out.below hbw)
      replace Ka := hidden (Ka.out.below hbw Ka.out.lt)
      replace Kx := hidden (Kx.out.below hbw Kx.out.lt)
      replace Kb := hidden (Kb.out.below hbw Kb.out.lt)
      replace Ky := hidden (Ky.out.below hbw Ky.out.lt)
      replace Ku := hidden (Ku.out.below hbw Ku.out.lt)
      have Kv := hidden (Rv.blk_new w31 (.bool nv) (.slice av lv.length cv))
      replace HB := hidden (HB.out.alloc HB.out.size (.cells #[(.bool nv), (.slice av lv.length cv)] 28))
      replace HT := hidden (HT.out.below hbw)
      replace HE := hidden (HE.out.below hbw)
      clear hbw
      have fa0 := Ka.out.facts.1
      have fa1 := Ka.out.facts.2.1
      have fx0 := Kx.out.facts.1
      have fx1 := Kx.out.facts.2.1
      have fb0 := Kb.out.facts.1
      have fb1 := Kb.out.facts.2.1
      have fy0 := Ky.out.facts.1
      have fy1 := Ky.out.facts.2.1
      have fu0 := Ku.out.facts.1
      have fu1 := Ku.out.facts.2.1
      have fv0 := Kv.out.facts.1
      have fv1 := Kv.out.facts.2.1
      obtain ⟨w32, hw32⟩ : ∃ W, (w31.alloc (.cells #[(.bool nv), (.slice av lv.length cv)] 28)) = W := ⟨_, rfl⟩
      rw [hw32] at Na Nx Nb Ny Ka Kx Kb Ky Ku Kv HB HT HE fa0 fa1 fx0 fx1 fb0 fb1 fy0 fy1 fu0 fu1 fv0 fv1
      have hzw32 := hidden (show w32.heap.size = w31.heap.size + 1 from by rw [← hw32]; exact World.size_alloc _ _)
      have Hw32 := hidden hw32
      clear hw32
      go_wp2_with fail
      rw [Hw32.out]
      clear Hw32
      generalize w31.heap.size = iv at Kv fv0 fv1 ⊢
      clear hzw32
      refine (is_none _ HE.out).mono ?_
      rintro e w33 ⟨rfl, hb⟩
      replace HE := hidden (HE.out.below hb)
      clear fa0 fa1 fx0 fx1 fb0 fb1 fy0 fy1 fu0 fu1 fv0 fv1
      replace Na := hidden (Na.out.below hb)
      replace Nx := hidden (Nx.out.below hb)
      replace Nb := hidden (Nb.out.below hb)
      replace Ny := hidden (Ny.out.below hb)
      replace Ka := hidden (Ka.out.below hb Ka.out.lt)
      replace Kx := hidden (Kx.out.below hb Kx.out.lt)
      replace Kb := hidden (Kb.out.below hb Kb.out.lt)
      replace Ky := hidden (Ky.out.below hb Ky.out.lt)
      replace Ku := hidden (Ku.out.below hb Ku.out.lt)
      replace Kv := hidden (Kv.out.below hb Kv.out.lt)
      replace HB := hidden (HB.out.trans (hb.mono HB.out.size))
      replace HT := hidden (HT.out.below hb)
      clear hb
      have fa0 := Ka.out.facts.1
      have fa1 := Ka.out.facts.2.1
      have fx0 := Kx.out.facts.1
      have fx1 := Kx.out.facts.2.1
      have fb0 := Kb.out.facts.1
      have fb1 := Kb.out.facts.2.1
      have fy0 := Ky.out.facts.1
      have fy1 := Ky.out.facts.2.1
      have fu0 := Ku.out.facts.1
      have fu1 := Ku.out.facts.2.1
      have fv0 := Kv.out.facts.1
      have fv1 := Kv.out.facts.2.1
      go_wp2_with fail
      refine (divmod_both _ _ za zb _ Nx.out Ny.out).mono ?_
      rintro e w34 ⟨vq, vr, zq, zr, cn, rfl, hv1, hv2, hdm, hb⟩
      have HDM := hidden hdm
      clear hdm
      replace HE := hidden (HE.out.below hb)
      clear fa0 fa1 fx0 fx1 fb0 fb1 fy0 fy1 fu0 fu1 fv0 fv1
      replace Na := hidden (Na.out.below hb)
      replace Nx := hidden (Nx.out.below hb)
      replace Nb := hidden (Nb.out.below hb)
      replace Ny := hidden (Ny.out.below hb)
      replace Ka := hidden (Ka.out.below hb Ka.out.lt)
      replace Kx := hidden (Kx.out.below hb Kx.out.lt)
      replace Kb := hidden (Kb.out.below hb Kb.out.lt)
      replace Ky := hidden (Ky.out.below hb Ky.out.lt)
      replace Ku := hidden (Ku.out.below hb Ku.out.lt)
      replace Kv := hidden (Kv.out.below hb Kv.out.lt)
      replace HB := hidden (HB.out.trans (hb.mono HB.out.size))
      replace HT := hidden (HT.out.below hb)
      clear hb
      have fa0 := Ka.out.facts.1
      have fa1 := Ka.out.facts.2.1
      have fx0 := Kx.out.facts.1
      have fx1 := Kx.out.facts.2.1
      have fb0 := Kb.out.facts.1
      have fb1 := Kb.out.facts.2.1
      have fy0 := Ky.out.facts.1
      have fy1 := Ky.out.facts.2.1
      have fu0 := Ku.out.facts.1
      have fu1 := Ku.out.facts.2.1
      have fv0 := Kv.out.facts.1
      have fv1 := Kv.out.facts.2.1
      have Nq := hidden hv1
      have Nr := hidden hv2
      obtain ⟨nq, aq, cq, lq, rfl, _⟩ := hv1
      obtain ⟨nr, ar, cr, lr, rfl, _⟩ := hv2
      have hbw := (Below.refl w34.heap.size w34).alloc (Nat.le_refl _) (.cells #[(.bool nq), (.slice aq lq.length cq)] 28)
      clear fa0 fa1 fx0 fx1 fb0 fb1 fy0 fy1 fu0 fu1 fv0 fv1
      replace Na := hidden (Na.out.below hbw)
      replace Nx := hidden (Nx.out.below hbw)
      replace Nb := hidden (Nb.out.below hbw)
      replace Ny := hidden (Ny.out.below hbw)
      replace Nq := hidden (Nq.out.below hbw)
      replace Nr := hidden (Nr.out.below hbw)
      replace Ka := hidden (Ka.out.below hbw Ka.out.lt)
      replace Kx := hidden (Kx.out.below hbw Kx.out.lt)
      replace Kb := hidden (Kb.out.below hbw Kb.out.lt)
      replace Ky := hidden (Ky.out.below hbw Ky.out.lt)
      replace Ku := hidden (Ku.out.below hbw Ku.out.lt)
      replace Kv := hidden (Kv.out.below hbw Kv.out.lt)
      have Kq := hidden (Rv.blk_new w34 (.bool nq) (.slice aq lq.length cq))
      replace HB := hidden (HB.out.alloc HB.out.size (.cells #[(.bool nq), (.slice aq lq.length cq)] 28))
      replace HT := hidden (HT.out.below hbw)
      replace HE := hidden (HE.out.below hbw)
      clear hbw
      have fa0 := Ka.out.facts.1
      have fa1 := Ka.out.facts.2.1
      have fx0 := Kx.out.facts.1
      have fx1 := Kx.out.facts.2.1
      have fb0 := Kb.out.facts.1
      have fb1 := Kb.out.facts.2.1
      have fy0 := Ky.out.facts.1
      have fy1 := Ky.out.facts.2.1
      have fu0 := Ku.out.facts.1
      have fu1 := Ku.out.facts.2.1
      have fv0 := Kv.out.facts.1
      have fv1 := Kv.out.facts.2.1
      have fq0 := Kq.out.facts.1
      have fq1 := Kq.out.facts.2.1
      obtain ⟨w35, hw35⟩ : ∃ W, (w34.alloc (.cells #[(.bool nq), (.slice aq lq.length cq)] 28)) = W := ⟨_, rfl⟩
      rw [hw35] at Na Nx Nb Ny Nq Nr Ka Kx Kb Ky Ku Kv Kq HB HT HE fa0 fa1 fx0 fx1 fb0 fb1 fy0 fy1 fu0 fu1 fv0 fv1 fq0 fq1
      have hzw35 := hidden (show w35.heap.size = w34.heap.size + 1 from by rw [← hw35]; exact World.size_alloc _ _)
      have Hw35 := hidden hw35
      clear hw35
      have hbw := (Below.refl w35.heap.size w35).alloc (Nat.le_refl _) (.cells #[(.bool nr), (.slice ar lr.length cr)] 28)
      clear fa0 fa1 fx0 fx1 fb0 fb1 fy0 fy1 fu0 fu1 fv0 fv1 fq0 fq1
      replace Na := hidden (Na.out.below hbw)
      replace Nx := hidden (Nx.out.below hbw)
      replace Nb := hidden (Nb.out.below hbw)
      replace Ny := hidden (Ny.out.below hbw)
      replace Nq := hidden (Nq.out.below hbw)
      replace Nr := hidden (Nr.out.below hbw)
      replace Ka := hidden (Ka.out.below hbw Ka.out.lt)
      replace Kx := hidden (Kx.out.below hbw Kx.out.lt)
      replace Kb := hidden (Kb.out.below hbw Kb.out.lt)
      replace Ky := hidden (Ky.out.below hbw Ky.out.lt)
      replace Ku := hidden (Ku.out.below hbw Ku.out.lt)
      replace Kv := hidden (Kv.out.below hbw Kv.out.lt)
      replace Kq := hidden (Kq.out.below hbw Kq.out.lt)
      have Kr := hidden (Rv.blk_new w35 (.bool nr) (.slice ar lr.length cr))
      replace HB := hidden (HB.out.alloc HB.out.size (.cells #[(.bool nr), (.slice ar lr.length cr)] 28))
      replace HT := hidden (HT.out.below hbw)
      replace HE := hidden (HE.out.below hbw)
      clear hbw
      have fa0 := Ka.out.facts.1
      have fa1 := Ka.out.facts.2.1
      have fx0 := Kx.out.facts.1
      have fx1 := Kx.out.facts.2.1
      have fb0 := Kb.out.facts.1
      have fb1 := Kb.out.facts.2.1
      have fy0 := Ky.out.facts.1
      have fy1 := Ky.out.facts.2.1
      have fu0 := Ku.out.facts.1
      have fu1 := Ku.out.facts.2.1
      have fv0 := Kv.out.facts.1
      have fv1 := Kv.out.facts.2.1
      have fq0 := Kq.out.facts.1
      have fq1 := Kq.out.facts.2.1
      have fr0 := Kr.out.facts.1
      have fr1 := Kr.out.facts.2.1
      obtain ⟨w36, hw36⟩ : ∃ W, (w35.alloc (.cells #[(.bool nr), (.slice ar lr.length cr)] 28)) = W := ⟨_, rfl⟩
      rw [hw36] at Na Nx Nb Ny Nq Nr Ka Kx Kb Ky Ku Kv Kq Kr HB HT HE fa0 fa1 fx0 fx1 fb0 fb1 fy0 fy1 fu0 fu1 fv0 fv1 fq0 fq1 fr0 fr1
      have hzw36 := hidden (show w36.heap.size = w35.heap.size + 1 from by rw [← hw36]; exact World.size_alloc _ _)
      have Hw36 := hidden hw36
      clear hw36
      go_upto_region 16 with fail
      rw [Hw35.out]
      rw [Hw36.out]
      clear Hw35
      clear Hw36
      rw [hzw35.out] at Kr fr0 fr1
      generalize w34.heap.size = iq at Kq fq0 fq1 Kr fr0 fr1 ⊢
      obtain ⟨ir, hi⟩ : ∃ i, iq + 1 = i := ⟨_, rfl⟩
      rw [hi] at Kr fr0 fr1 ⊢
      clear hi
      clear hzw35
      clear hzw36
      go_wp2_with fail
      refine (div_both _ _ za zb _ Na.out Nb.out).mono ?_
      rintro e w37 ⟨vd, z3, z4, c2, rfl, hv, hdm, hb⟩
      obtain ⟨e1, e2, e3⟩ := dmo_unique hdm HDM.out
      replace e1 := e1.symm
      replace e2 := e2.symm
      replace e3 := e3.symm
      subst e1
      subst e2
      subst e3
      clear hdm
      replace HE := hidden (HE.out.below hb)
      clear fa0 fa1 fx0 fx1 fb0 fb1 fy0 fy1 fu0 fu1 fv0 fv1 fq0 fq1 fr0 fr1
      replace Na := hidden (Na.out.below hb)
      replace Nx := hidden (Nx.out.below hb)
      replace Nb := hidden (Nb.out.below hb)
      replace Ny := hidden (Ny.out.below hb)
      replace Nq := hidden (Nq.out.below hb)
      replace Nr := hidden (Nr.out.below hb)
      replace Ka := hidden (Ka.out.below hb Ka.out.lt)
      replace Kx := hidden (Kx.out.below hb Kx.out.lt)
      replace Kb := hidden (Kb.out.below hb Kb.out.lt)
      replace Ky := hidden (Ky.out.below hb Ky.out.lt)
      replace Ku := hidden (Ku.out.below hb Ku.out.lt)
      replace Kv := hidden (Kv.out.below hb Kv.out.lt)
      replace Kq := hidden (Kq.out.below hb Kq.out.lt)
      replace Kr := hidden (Kr.out.below hb Kr.out.lt)
      replace HB := hidden (HB.out.trans (hb.mono HB.out.size))
      replace HT := hidden (HT.out.below hb)
      clear hb
      have fa0 := Ka.out.facts.1
      have fa1 := Ka.out.facts.2.1
      have fx0 := Kx.out.facts.1
      have fx1 := Kx.out.facts.2.1
      have fb0 := Kb.out.facts.1
      have fb1 := Kb.out.facts.2.1
      have fy0 := Ky.out.facts.1
      have fy1 := Ky.out.facts.2.1
      have fu0 := Ku.out.facts.1
      have fu1 := Ku.out.facts.2.1
      have fv0 := Kv.out.facts.1
      have fv1 := Kv.out.facts.2.1
      have fq0 := Kq.out.facts.1
      have fq1 := Kq.out.facts.2.1
      have fr0 := Kr.out.facts.1
      have fr1 := Kr.out.facts.2.1
      have Nd := hidden hv
      obtain ⟨nd, ad, cd, ld, rfl, _⟩ := hv
      have hbw := (Below.refl w37.heap.size w37).alloc (Nat.le_refl _) (.cells #[(.bool nd), (.slice ad ld.length cd)] 25)
      clear fa0 fa1 fx0 fx1 fb0 fb1 fy0 fy1 fu0 fu1 fv0 fv1 fq0 fq1 fr0 fr1
      replace Na := hidden (Na.out.below hbw)
      replace Nx := hidden (Nx.out.below hbw)
      replace Nb := hidden (Nb.out.below hbw)
      replace Ny := hidden (Ny.out.below hbw)
      replace Nq := hidden (Nq.out.below hbw)
      replace Nr := hidden (Nr.out.below hbw)
      replace Nd := hidden (Nd.out.below hbw)
      replace Ka := hidden (Ka.out.below hbw Ka.out.lt)
      replace Kx := hidden (Kx.out.below hbw Kx.out.lt)
      replace Kb := hidden (Kb.out.below hbw Kb.out.lt)
      replace Ky := hidden (Ky.out.below hbw Ky.out.lt)
      replace Ku := hidden (Ku.out.below hbw Ku.out.lt)
      replace Kv := hidden (Kv.out.below hbw Kv.out.lt)
      replace Kq := hidden (Kq.out.below hbw Kq.out.lt)
      replace Kr := hidden (Kr.out.below hbw Kr.out.lt)
      have Kd := hidden (blk_new w37 (.bool nd) (.slice ad ld.length cd))
      replace HB := hidden (HB.out.alloc HB.out.size (.cells #[(.bool nd), (.slice ad ld.length cd)] 25))
      replace HT := hidden (HT.out.below hbw)
      replace HE := hidden (HE.out.below hbw)
      clear hbw
      have fa0 := Ka.out.facts.1
      have fa1 := Ka.out.facts.2.1
      have fx0 := Kx.out.facts.1
      have fx1 := Kx.out.facts.2.1
      have fb0 := Kb.out.facts.1
      have fb1 := Kb.out.facts.2.1
      have fy0 := Ky.out.facts.1
      have fy1 := Ky.out.facts.2.1
      have fu0 := Ku.out.facts.1
      have fu1 := Ku.out.facts.2.1
      have fv0 := Kv.out.facts.1
      have fv1 := Kv.out.facts.2.1
      have fq0 := Kq.out.facts.1
      have fq1 := Kq.out.facts.2.1
      have fr0 := Kr.out.facts.1
      have fr1 := Kr.out.facts.2.1
      have fd0 := Kd.out.facts.1
      have fd1 := Kd.out.facts.2.1
      obtain ⟨w38, hw38⟩ : ∃ W, (w37.alloc (.cells #[(.bool nd), (.slice ad ld.length cd)] 25)) = W := ⟨_, rfl⟩
      rw [hw38] at Na Nx Nb Ny Nq Nr Nd Ka Kx Kb Ky Ku Kv Kq Kr Kd HB HT HE fa0 fa1 fx0 fx1 fb0 fb1 fy0 fy1 fu0 fu1 fv0 fv1 fq0 fq1 fr0 fr1 fd0 fd1
      have hzw38 := hidden (show w38.heap.size = w37.heap.size + 1 from by rw [← hw38]; exact World.size_alloc _ _)
      have Hw38 := hidden hw38
      clear hw38
      go_upto_region 17 with fail
      rw [Hw38.out]
      clear Hw38
      generalize w37.heap.size = id at Kd fd0 fd1 ⊢
      clear hzw38
      go_wp2_with fail
      refine (mod_both _ _ za zb _ Na.out Nb.out).mono ?_
      rintro e w39 ⟨vd, z3, z4, c2, rfl, hv, hdm, hb⟩
      obtain ⟨e1, e2, e3⟩ := dmo_unique hdm HDM.out
      replace e1 := e1.symm
      replace e2 := e2.symm
      replace e3 := e3.symm
      subst e1
      subst e2
      subst e3
      clear hdm
      replace HE := hidden (HE.out.below hb)
      clear fa0 fa1 fx0 fx1 fb0 fb1 fy0 fy1 fu0 fu1 fv0 fv1 fq0 fq1 fr0 fr1 fd0 fd1
      replace Na := hidden (Na.out.below hb)
      replace Nx := hidden (Nx.out.below hb)
      replace Nb := hidden (Nb.out.below hb)
      replace Ny := hidden (Ny.out.below hb)
      replace Nq := hidden (Nq.out.below hb)
      replace Nr := hidden (Nr.out.below hb)
      replace Nd := hidden (Nd.out.below hb)
      replace Ka := hidden (Ka.out.below hb Ka.out.lt)
      replace Kx := hidden (Kx.out.below hb Kx.out.lt)
      replace Kb := hidden (Kb.out.below hb Kb.out.lt)
      replace Ky := hidden (Ky.out.below hb Ky.out.lt)
      replace Ku := hidden (Ku.out.below hb Ku.out.lt)
      replace Kv := hidden (Kv.out.below hb Kv.out.lt)
      replace Kq := hidden (Kq.out.below hb Kq.out.lt)
      replace Kr := hidden (Kr.out.below hb Kr.out.lt)
      replace Kd := hidden (Kd.out.below hb Kd.out.lt)
      replace HB := hidden (HB.out.trans (hb.mono HB.out.size))
      replace HT := hidden (HT.out.below hb)
      clear hb
      have fa0 := Ka.out.facts.1
      have fa1 := Ka.out.facts.2.1
      have fx0 := Kx.out.facts.1
      have fx1 := Kx.out.facts.2.1
      have fb0 := Kb.out.facts.1
      have fb1 := Kb.out.facts.2.1
      have fy0 := Ky.out.facts.1
      have fy1 := Ky.out.facts.2.1
      have fu0 := Ku.out.facts.1
      have fu1 := Ku.out.facts.2.1
      have fv0 := Kv.out.facts.1
      have fv1 := Kv.out.facts.2.1
      have fq0 := Kq.out.facts.1
      have fq1 := Kq.out.facts.2.1
      have fr0 := Kr.out.facts.1
      have fr1 := Kr.out.facts.2.1
      have fd0 := Kd.out.facts.1
      have fd1 := Kd.out.facts.2.1
      have Ne := hidden hv
      obtain ⟨ne, ae, ce, le, rfl, _⟩ := hv
      have hbw := (Below.refl w39.heap.size w39).alloc (Nat.le_refl _) (.cells #[(.bool ne), (.slice ae le.length ce)] 25)
      clear fa0 fa1 fx0 fx1 fb0 fb1 fy0 fy1 fu0 fu1 fv0 fv1 fq0 fq1 fr0 fr1 fd0 fd1
      replace Na := hidden (Na.out.below hbw)
      replace Nx := hidden (Nx.out.below hbw)
      replace Nb := hidden (Nb.out.below hbw)
      replace Ny := hidden (Ny.out.below hbw)
      replace Nq := hidden (Nq.out.below hbw)
      replace Nr := hidden (Nr.out.below hbw)
      replace Nd := hidden (Nd.out.below hbw)
      replace Ne := hidden (Ne.out.below hbw)
      replace Ka := hidden (Ka.out.below hbw Ka.out.lt)
      replace Kx := hidden (Kx.out.below hbw Kx.out.lt)
      replace Kb := hidden (Kb.out.below hbw Kb.out.lt)
      replace Ky := hidden (Ky.out.below hbw Ky.out.lt)
      replace Ku := hidden (Ku.out.below hbw Ku.out.lt)
      replace Kv := hidden (Kv.out.below hbw Kv.out.lt)
      replace Kq := hidden (Kq.out.below hbw Kq.out.lt)
      replace Kr := hidden (Kr.out.below hbw Kr.out.lt)
      replace Kd := hidden (Kd.out.below hbw Kd.out.lt)
      have Ke := hidden (blk_new w39 (.bool ne) (.slice ae le.length ce))
      replace HB := hidden (HB.out.alloc HB.out.size (.cells #[(.bool ne), (.slice ae le.length ce)] 25))
      replace HT := hidden (HT.out.below hbw)
      replace HE := hidden (HE.out.below hbw)
      clear hbw
      have fa0 := Ka.out.facts.1
      have fa1 := Ka.out.facts.2.1
      have fx0 := Kx.out.facts.1
      have fx1 := Kx.out.facts.2.1
      have fb0 := Kb.out.facts.1
      have fb1 := Kb.out.facts.2.1
      have fy0 := Ky.out.facts.1
      have fy1 := Ky.out.facts.2.1
      have fu0 := Ku.out.facts.1
      have fu1 := Ku.out.facts.2.1
      have fv0 := Kv.out.facts.1
      have fv1 := Kv.out.facts.2.1
      have fq0 := Kq.out.facts.1
      have fq1 := Kq.out.facts.2.1
      have fr0 := Kr.out.facts.1
      have fr1 := Kr.out.facts.2.1
      have fd0 := Kd.out.facts.1
      have fd1 := Kd.out.facts.2.1
      have fe0 := Ke.out.facts.1
      have fe1 := Ke.out.facts.2.1
      obtain ⟨w40, hw40⟩ : ∃ W, (w39.alloc (.cells #[(.bool ne), (.slice ae le.length ce)] 25)) = W := ⟨_, rfl⟩
      rw [hw40] at Na Nx Nb Ny Nq Nr Nd Ne Ka Kx Kb Ky Ku Kv Kq Kr Kd Ke HB HT HE fa0 fa1 fx0 fx1 fb0 fb1 fy0 fy1 fu0 fu1 fv0 fv1 fq0 fq1 fr0 fr1 fd0 fd1 fe0 fe1
      have hzw40 := hidden (show w40.heap.size = w39.heap.size + 1 from by rw [← hw40]; exact World.size_alloc _ _)
      have Hw40 := hidden hw40
      clear hw40
      go_upto_region 18 with fail
      rw [Hw40.out]
      clear Hw40
      generalize w39.heap.size = ie at Ke fe0 fe1 ⊢
      clear hzw40
      obtain ⟨L1, hL1⟩ : ∃ l, txt zq = l := ⟨_, rfl⟩
      obtain ⟨L2, hL2⟩ : ∃ l, txt zr = l := ⟨_, rfl⟩
      have H1 := hidden hL1
      have H2 := hidden hL2
      clear hL1 hL2
      have hcc : (cn != cn) = false := by cases cn <;> rfl
      refine wp_region_held_drew (S := fun W => Below w40.heap.size w40 W) (by kernel_rfl) (Below.refl _ _).drew (fun hH0 => ?_)
      have HS := hidden (show Below w40.heap.size w40 w40.drew from (Below.refl _ _).drew)
      refine take_val' (i := 0) (v := .bool cn) rfl (by kernel_rfl) (by kernel_rfl) (by kernel_rfl) (some 101) rfl (fun _ _ _ h => h) (Or.inl ⟨by rfl, fun W hW => by go_simp⟩) hH0 ?_
      try simp only [Act.put, List.setIfInBounds_toArray, List.set_cons_zero, List.set_cons_succ]
      refine take_val' (i := 1) (v := .bool cn) rfl (by kernel_rfl) (by kernel_rfl) (by kernel_rfl) (some 102) rfl (fun _ _ _ h => h) (Or.inl ⟨by rfl, fun W hW => by go_simp⟩) hH0 ?_
      try simp only [Act.put, List.setIfInBounds_toArray, List.set_cons_zero, List.set_cons_succ]
      refine take_val' (i := 2) (v := .bool false) rfl (by kernel_rfl) (by kernel_rfl) (by kernel_rfl) (some 103) rfl (fun _ _ _ h => h) (Or.inl ⟨by rfl, fun W hW => by go_simp⟩) hH0 ?_
      try simp only [Act.put, List.setIfInBounds_toArray, List.set_cons_zero, List.set_cons_succ]
      refine take_val' (i := 3) (v := .bool false) rfl (by kernel_rfl) (by kernel_rfl) (by kernel_rfl) (some 104) rfl (fun _ _ _ h => h) (Or.inl ⟨by rfl, fun W hW => by go_simp⟩) hH0 ?_
      try simp only [Act.put, List.setIfInBounds_toArray, List.set_cons_zero, List.set_cons_succ]
      refine take_val' (i := 4) (v := .bool cn) rfl (by kernel_rfl) (by kernel_rfl) (by kernel_rfl) (some 105) rfl (fun _ _ _ h => h) (Or.inl ⟨by rfl, fun W hW => by go_simp⟩) hH0 ?_
      try simp only [Act.put, List.setIfInBounds_toArray, List.set_cons_zero, List.set_cons_succ]
      refine take_val' (i := 5) (v := .bool cn) rfl (by kernel_rfl) (by kernel_rfl) (by kernel_rfl) (some 106) rfl (fun _ _ _ h => h) (Or.inl ⟨by rfl, fun W hW => by go_simp⟩) hH0 ?_
      try simp only [Act.put, List.setIfInBounds_toArray, List.set_cons_zero, List.set_cons_succ]
      refine take_val' (i := 6) (v := .bool false) rfl (by kernel_rfl) (by kernel_rfl) (by kernel_rfl) (some 107) rfl (fun _ _ _ h => h) (Or.inl ⟨by rfl, fun W hW => by go_simp⟩) hH0 ?_
      try simp only [Act.put, List.setIfInBounds_toArray, List.set_cons_zero, List.set_cons_succ]
      refine take_val' (i := 7) (v := .bool false) rfl (by kernel_rfl) (by kernel_rfl) (by kernel_rfl) (some 108) rfl (fun _ _ _ h => h) (Or.inl ⟨by rfl, fun W hW => by go_simp⟩) hH0 ?_
      try simp only [Act.put, List.setIfInBounds_toArray, List.set_cons_zero, List.set_cons_succ]
      refine take_val' (i := 8) (v := .bool false) rfl (by kernel_rfl) (by kernel_rfl) (by kernel_rfl) (some 109) rfl (fun _ _ _ h => h) (Or.inl ⟨by rfl, fun W hW => by go_simp⟩) hH0 ?_
      try simp only [Act.put, List.setIfInBounds_toArray, List.set_cons_zero, List.set_cons_succ]
      refine take_val' (i := 9) (v := .agg #[.bool nd, .slice ad ld.length cd]) rfl (by kernel_rfl) (by kernel_rfl) (by kernel_rfl) (some 110) rfl (fun _ _ _ h => h) (Or.inl ⟨by rfl, fun W hW => by obtain ⟨k0, k1⟩ := Kd.out.held W hW; go_simp⟩) hH0 ?_
      try simp only [Act.put, List.setIfInBounds_toArray, List.set_cons_zero, List.set_cons_succ]
      refine take_val' (i := 11) (v := .agg #[.bool nq, .slice aq lq.length cq]) rfl (by kernel_rfl) (by kernel_rfl) (by kernel_rfl) (some 112) rfl (fun _ _ _ h => h) (Or.inl ⟨by rfl, fun W hW => by obtain ⟨k0, k1⟩ := Kq.out.held W hW; go_simp⟩) hH0 ?_
      try simp only [Act.put, List.setIfInBounds_toArray, List.set_cons_zero, List.set_cons_succ]
      refine wpAnyH_ready (rs := [10]) (by kernel_rfl) (by simp) ?_
      refine AllReadyH.cons rfl (fun K hK => ?_) AllReadyH.nil
      go_simp
      refine (text_is (l := L1) H1.out _ 268 _ (Nd.out.below HS.out) (by omega) (HT.out.below HS.out)).mono ?_
      rintro e w41 ⟨rfl, hb⟩
      replace HS := hidden (HS.out.trans (hb.mono HS.out.size))
      clear hb
      refine hK.out _ _ HS.out (fun hH1 => ?_)
      clear hK K
      try simp only [Act.put, List.setIfInBounds_toArray, List.set_cons_zero, List.set_cons_succ]
      refine wpAnyH_ready (rs := [12]) (by kernel_rfl) (by simp) ?_
      refine AllReadyH.cons rfl (fun K hK => ?_) AllReadyH.nil
      go_simp
      refine (text9_is (l := L1) H1.out _ 602 _ (Nq.out.below HS.out) (by omega)).mono ?_
      rintro e w42 ⟨rfl, hb⟩
      replace HS := hidden (HS.out.trans (hb.mono HS.out.size))
      clear hb
      refine hK.out _ _ HS.out (fun hH2 => ?_)
      clear hK K
      try simp only [Act.put, List.setIfInBounds_toArray, List.set_cons_zero, List.set_cons_succ]
      refine take_val' (i := 13) (v := .bool false) rfl (by kernel_rfl) (by kernel_rfl) (by kernel_rfl) (some 114) rfl (fun _ _ _ h => h) (Or.inl ⟨by rfl, fun W hW => by go_simp⟩) hH2 ?_
      try simp only [Act.put, List.setIfInBounds_toArray, List.set_cons_zero, List.set_cons_succ]
      refine take_val' (i := 14) (v := .bool false) rfl (by kernel_rfl) (by kernel_rfl) (by kernel_rfl) (some 115) rfl (fun _ _ _ h => h) (Or.inl ⟨by rfl, fun W hW => by go_simp⟩) hH2 ?_
      try simp only [Act.put, List.setIfInBounds_toArray, List.set_cons_zero, List.set_cons_succ]
      refine take_val' (i := 15) (v := .bool false) rfl (by kernel_rfl) (by kernel_rfl) (by kernel_rfl) (some 116) rfl (fun _ _ _ h => h) (Or.inl ⟨by rfl, fun W hW => by go_simp⟩) hH2 ?_
      try simp only [Act.put, List.setIfInBounds_toArray, List.set_cons_zero, List.set_cons_succ]
      refine take_val' (i := 16) (v := .agg #[.bool ne, .slice ae le.length ce]) rfl (by kernel_rfl) (by kernel_rfl) (by kernel_rfl) (some 117) rfl (fun _ _ _ h => h) (Or.inl ⟨by rfl, fun W hW => by obtain ⟨k0, k1⟩ := Ke.out.held W hW; go_simp⟩) hH2 ?_
      try simp only [Act.put, List.setIfInBounds_toArray, List.set_cons_zero, List.set_cons_succ]
      refine take_val' (i := 18) (v := .agg #[.bool nr, .slice ar lr.length cr]) rfl (by kernel_rfl) (by kernel_rfl) (by kernel_rfl) (some 119) rfl (fun _ _ _ h => h) (Or.inl ⟨by rfl, fun W hW => by obtain ⟨k0, k1⟩ := Kr.out.held W hW; go_simp⟩) hH2 ?_
      try simp only [Act.put, List.setIfInBounds_toArray, List.set_cons_zero, List.set_cons_succ]
      refine wpAnyH_ready (rs := [17]) (by kernel_rfl) (by simp) ?_
      refine AllReadyH.cons rfl (fun K hK => ?_) AllReadyH.nil
      go_simp
      refine (text_is (l := L2) H2.out _ 268 _ (Ne.out.below HS.out) (by omega) (HT.out.below HS.out)).mono ?_
      rintro e w43 ⟨rfl, hb⟩
      replace HS := hidden (HS.out.trans (hb.mono HS.out.size))
      clear hb
      refine hK.out _ _ HS.out (fun hH3 => ?_)
      clear hK K
      try simp only [Act.put, List.setIfInBounds_toArray, List.set_cons_zero, List.set_cons_succ]
      refine wpAnyH_ready (rs := [19]) (by kernel_rfl) (by simp) ?_
      refine AllReadyH.cons rfl (fun K hK => ?_) AllReadyH.nil
      go_simp
      refine (text9_is (l := L2) H2.out _ 602 _ (Nr.out.below HS.out) (by omega)).mono ?_
      rintro e w44 ⟨rfl, hb⟩
      replace HS := hidden (HS.out.trans (hb.mono HS.out.size))
      clear hb
      refine hK.out _ _ HS.out (fun hH4 => ?_)
      clear hK K
      try simp only [Act.put, List.setIfInBounds_toArray, List.set_cons_zero, List.set_cons_succ]
      refine take_val' (i := 20) (v := .bool false) rfl (by kernel_rfl) (by kernel_rfl) (by kernel_rfl) (some 121) rfl (fun _ _ _ h => h) (Or.inl ⟨by rfl, fun W hW => by go_simp⟩) hH4 ?_
      try simp only [Act.put, List.setIfInBounds_toArray, List.set_cons_zero, List.set_cons_succ]
      refine take_val' (i := 21) (v := .bool false) rfl (by kernel_rfl) (by kernel_rfl) (by kernel_rfl) (some 122) rfl (fun _ _ _ h => h) (Or.inl ⟨by rfl, fun W hW => by go_simp⟩) hH4 ?_
      try simp only [Act.put, List.setIfInBounds_toArray, List.set_cons_zero, List.set_cons_succ]
      replace HE := hidden (HE.out.below HS.out)
      refine wpAnyH_done (by kernel_rfl) ?_ _
      clear fa0 fa1 fx0 fx1 fb0 fb1 fy0 fy1 fu0 fu1 fv0 fv1 fq0 fq1 fr0 fr1 fd0 fd1 fe0 fe1
      replace Na := hidden (Na.out.below HS.out)
      replace Nx := hidden (Nx.out.below HS.out)
      replace Nb := hidden (Nb.out.below HS.out)
      replace Ny := hidden (Ny.out.below HS.out)
      replace Nq := hidden (Nq.out.below HS.out)
      replace Nr := hidden (Nr.out.below HS.out)
      replace Nd := hidden (Nd.out.below HS.out)
      replace Ne := hidden (Ne.out.below HS.out)
      replace Ka := hidden (Ka.out.below HS.out Ka.out.lt)
      replace Kx := hidden (Kx.out.below HS.out Kx.out.lt)
      replace Kb := hidden (Kb.out.below HS.out Kb.out.lt)
      replace Ky := hidden (Ky.out.below HS.out Ky.out.lt)
      replace Ku := hidden (Ku.out.below HS.out Ku.out.lt)
      replace Kv := hidden (Kv.out.below HS.out Kv.out.lt)
      replace Kq := hidden (Kq.out.below HS.out Kq.out.lt)
      replace Kr := hidden (Kr.out.below HS.out Kr.out.lt)
      replace Kd := hidden (Kd.out.below HS.out Kd.out.lt)
      replace Ke := hidden (Ke.out.below HS.out Ke.out.lt)
      replace HB := hidden (HB.out.trans (HS.out.mono HB.out.size))
      replace HT := hidden (HT.out.below HS.out)
      clear HS
      have fa0 := Ka.out.facts.1
      have fa1 := Ka.out.facts.2.1
      have fx0 := Kx.out.facts.1
      have fx1 := Kx.out.facts.2.1
      have fb0 := Kb.out.facts.1
      have fb1 := Kb.out.facts.2.1
      have fy0 := Ky.out.facts.1
      have fy1 := Ky.out.facts.2.1
      have fu0 := Ku.out.facts.1
      have fu1 := Ku.out.facts.2.1
      have fv0 := Kv.out.facts.1
      have fv1 := Kv.out.facts.2.1
      have fq0 := Kq.out.facts.1
      have fq1 := Kq.out.facts.2.1
      have fr0 := Kr.out.facts.1
      have fr1 := Kr.out.facts.2.1
      have fd0 := Kd.out.facts.1
      have fd1 := Kd.out.facts.2.1
      have fe0 := Ke.out.facts.1
      have fe1 := Ke.out.facts.2.1
      clear H1 H2 hcc
      clear Nq
      clear Nr
      clear Nd
      clear Ne
      clear fu0 fu1 fv0 fv1 fq0 fq1 fr0 fr1 fd0 fd1 fe0 fe1
      clear Ku Kv Kq Kr Kd Ke
      obtain ⟨vi, hvi⟩ : ∃ v, inV za = v := ⟨_, rfl⟩
      obtain ⟨fi, hfi⟩ : ∃ v, inR za = v := ⟨_, rfl⟩
      have HVI := hidden hvi
      have HFI := hidden hfi
      clear hvi hfi
      go_wp2_with fail
      refine (int_both _ za _ Na.out).mono ?_
      rintro e w45 ⟨rfl, hb⟩
      rw [HVI.out, HFI.out]
      replace HE := hidden (HE.out.below hb)
      clear fa0 fa1 fx0 fx1 fb0 fb1 fy0 fy1
      replace Na := hidden (Na.out.below hb)
      replace Nx := hidden (Nx.out.below hb)
      replace Nb := hidden (Nb.out.below hb)
      replace Ny := hidden (Ny.out.below hb)
      replace Ka := hidden (Ka.out.below hb Ka.out.lt)
      replace Kx := hidden (Kx.out.below hb Kx.out.lt)
      replace Kb := hidden (Kb.out.below hb Kb.out.lt)
      replace Ky := hidden (Ky.out.below hb Ky.out.lt)
      replace HB := hidden (HB.out.trans (hb.mono HB.out.size))
      replace HT := hidden (HT.out.below hb)
      clear hb
      have fa0 := Ka.out.facts.1
      have fa1 := Ka.out.facts.2.1
      have fx0 := Kx.out.facts.1
      have fx1 := Kx.out.facts.2.1
      have fb0 := Kb.out.facts.1
      have fb1 := Kb.out.facts.2.1
      have fy0 := Ky.out.facts.1
      have fy1 := Ky.out.facts.2.1
      go_wp2_with fail
      refine (int_both9 _ za _ Nx.out).mono ?_
      rintro e w46 ⟨rfl, hb⟩
      rw [HVI.out, HFI.out]
      replace HE := hidden (HE.out.below hb)
      clear fa0 fa1 fx0 fx1 fb0 fb1 fy0 fy1
      replace Na := hidden (Na.out.below hb)
      replace Nx := hidden (Nx.out.below hb)
      replace Nb := hidden (Nb.out.below hb)
      replace Ny := hidden (Ny.out.below hb)
      replace Ka := hidden (Ka.out.below hb Ka.out.lt)
      replace Kx := hidden (Kx.out.below hb Kx.out.lt)
      replace Kb := hidden (Kb.out.below hb Kb.out.lt)
      replace Ky := hidden (Ky.out.below hb Ky.out.lt)
      replace HB := hidden (HB.out.trans (hb.mono HB.out.size))
      replace HT := hidden (HT.out.below hb)
      clear hb
      have fa0 := Ka.out.facts.1
      have fa1 := Ka.out.facts.2.1
      have fx0 := Kx.out.facts.1
      have fx1 := Kx.out.facts.2.1
      have fb0 := Kb.out.facts.1
      have fb1 := Kb.out.facts.2.1
      have fy0 := Ky.out.facts.1
      have fy1 := Ky.out.facts.2.1
      go_upto_region 22 with fail
      try simp only [List.cons_append, List.nil_append]
      obtain ⟨M1, hM1⟩ : ∃ l, txt (za + zb) = l := ⟨_, rfl⟩
      have HM1 := hidden hM1
      clear hM1
      obtain ⟨M2, hM2⟩ : ∃ l, txt (za - zb) = l := ⟨_, rfl⟩
      have HM2 := hidden hM2
      clear hM2
      obtain ⟨M3, hM3⟩ : ∃ l, txt (za * zb) = l := ⟨_, rfl⟩
      have HM3 := hidden hM3
      clear hM3
      obtain ⟨M4, hM4⟩ : ∃ l, txt (-za) = l := ⟨_, rfl⟩
      have HM4 := hidden hM4
      clear hM4
      obtain ⟨sg1, hsg⟩ : ∃ l, sgz za zb = l := ⟨_, rfl⟩
      have HSG := hidden hsg
      clear hsg
      have HLZ := hidden (show (txt za).length < 4000000 from by rw [← says_txt hs0]; simp; omega)
      obtain ⟨dg, hdg⟩ : ∃ l, digs za = l := ⟨_, rfl⟩
      have HDG := hidden hdg
      clear hdg
      have HSS := hidden (says_text hs0)
      have HST := hidden (says_text ht0)
      have hff : (fi == fi) = true := beq_self_eq_true fi
      refine wp_region_held_drew (S := fun W => Below w46.heap.size w46 W) (by kernel_rfl) (Below.refl _ _).drew (fun hH0 => ?_)
      have HS := hidden (show Below w46.heap.size w46 w46.drew from (Below.refl _ _).drew)
      refine take_val' (i := 0) (v := .agg #[.bool na, .slice aa ma ca]) rfl (by kernel_rfl) (by kernel_rfl) (by kernel_rfl) (some 133) rfl (fun _ _ _ h => h) (Or.inl ⟨by rfl, fun W hW => by obtain ⟨k0, k1⟩ := Ka.out.held W hW; go_simp⟩) hH0 ?_
      try simp only [Act.put, List.setIfInBounds_toArray, List.set_cons_zero, List.set_cons_succ]
      refine take_val' (i := 1) (v := .agg #[.bool nb, .slice ab mb cb]) rfl (by kernel_rfl) (by kernel_rfl) (by kernel_rfl) (some 134) rfl (fun _ _ _ h => h) (Or.inl ⟨by rfl, fun W hW => by obtain ⟨k0, k1⟩ := Kb.out.held W hW; go_simp⟩) hH0 ?_
      try simp only [Act.put, List.setIfInBounds_toArray, List.set_cons_zero, List.set_cons_succ]
      refine take_val' (i := 4) (v := .agg #[.bool nx, .slice ax mx cx]) rfl (by kernel_rfl) (by kernel_rfl) (by kernel_rfl) (some 137) rfl (fun _ _ _ h => h) (Or.inl ⟨by rfl, fun W hW => by obtain ⟨k0, k1⟩ := Kx.out.held W hW; go_simp⟩) hH0 ?_
      try simp only [Act.put, List.setIfInBounds_toArray, List.set_cons_zero, List.set_cons_succ]
      refine take_val' (i := 5) (v := .agg #[.bool ny, .slice ay my cy]) rfl (by kernel_rfl) (by kernel_rfl) (by kernel_rfl) (some 138) rfl (fun _ _ _ h => h) (Or.inl ⟨by rfl, fun W hW => by obtain ⟨k0, k1⟩ := Ky.out.held W hW; go_simp⟩) hH0 ?_
      try simp only [Act.put, List.setIfInBounds_toArray, List.set_cons_zero, List.set_cons_succ]
      refine wpAnyH_ready (rs := [2]) (by kernel_rfl) (by simp) ?_
      refine AllReadyH.cons rfl (fun K hK => ?_) AllReadyH.nil
      go_simp
      refine (add_any _ _ za zb 267 267 _ (Na.out.below HS.out) (Nb.out.below HS.out) (by omega) (by omega)).mono ?_
      rintro e w47 ⟨v1, rfl, hv, hb⟩
      replace HS := hidden (HS.out.trans (hb.mono HS.out.size))
      clear hb
      have m1 := hidden hv
      clear hv
      refine hK.out _ _ HS.out (fun hH1 => ?_)
      clear hK K
      try simp only [Act.put, List.setIfInBounds_toArray, List.set_cons_zero, List.set_cons_succ]
      refine wpAnyH_ready (rs := [3]) (by kernel_rfl) (by simp) ?_
      refine AllReadyH.cons rfl (fun K hK => ?_) AllReadyH.nil
      go_simp
      refine (text_is (l := M1) HM1.out _ (max 267 267 + 1) _ m1.out (by omega) (HT.out.below HS.out)).mono ?_
      rintro e w48 ⟨rfl, hb⟩
      replace m1 := hidden (m1.out.below hb)
      replace HS := hidden (HS.out.trans (hb.mono HS.out.size))
      clear hb
      refine hK.out _ _ HS.out (fun hH2 => ?_)
      clear hK K
      try simp only [Act.put, List.setIfInBounds_toArray, List.set_cons_zero, List.set_cons_succ]
      clear m1
      refine wpAnyH_ready (rs := [6]) (by kernel_rfl) (by simp) ?_
      refine AllReadyH.cons rfl (fun K hK => ?_) AllReadyH.nil
      go_simp
      refine (Rv.add_any _ _ za zb 601 601 _ (Nx.out.below HS.out) (Ny.out.below HS.out) (by omega) (by omega)).mono ?_
      rintro e w49 ⟨v2, rfl, hv, hb⟩
      replace HS := hidden (HS.out.trans (hb.mono HS.out.size))
      clear hb
      have m1 := hidden hv
      clear hv
      refine hK.out _ _ HS.out (fun hH3 => ?_)
      clear hK K
      try simp only [Act.put, List.setIfInBounds_toArray, List.set_cons_zero, List.set_cons_succ]
      refine wpAnyH_ready (rs := [7]) (by kernel_rfl) (by simp) ?_
      refine AllReadyH.cons rfl (fun K hK => ?_) AllReadyH.nil
      go_simp
      refine (text9_is (l := M1) HM1.out _ (max 601 601 + 1) _ m1.out (by omega)).mono ?_
      rintro e w50 ⟨rfl, hb⟩
      replace m1 := hidden (m1.out.below hb)
      replace HS := hidden (HS.out.trans (hb.mono HS.out.size))
      clear hb
      refine hK.out _ _ HS.out (fun hH4 => ?_)
      clear hK K
      try simp only [Act.put, List.setIfInBounds_toArray, List.set_cons_zero, List.set_cons_succ]
      clear m1
      refine take_val' (i := 8) (v := .bool true) rfl (by kernel_rfl) (by kernel_rfl) (by kernel_rfl) (some 141) rfl (fun _ _ _ h => h) (Or.inl ⟨by rfl, fun W hW => by go_simp⟩) hH4 ?_
      try simp only [Act.put, List.setIfInBounds_toArray, List.set_cons_zero, List.set_cons_succ]
      refine take_val' (i := 9) (v := .bool true) rfl (by kernel_rfl) (by kernel_rfl) (by kernel_rfl) (some 142) rfl (fun _ _ _ h => h) (Or.inl ⟨by rfl, fun W hW => by go_simp⟩) hH4 ?_
      try simp only [Act.put, List.setIfInBounds_toArray, List.set_cons_zero, List.set_cons_succ]
      refine take_val' (i := 10) (v := .agg #[.bool na, .slice aa ma ca]) rfl (by kernel_rfl) (by kernel_rfl) (by kernel_rfl) (some 143) rfl (fun _ _ _ h => h) (Or.inl ⟨by rfl, fun W hW => by obtain ⟨k0, k1⟩ := Ka.out.held W hW; go_simp⟩) hH4 ?_
      try simp only [Act.put, List.setIfInBounds_toArray, List.set_cons_zero, List.set_cons_succ]
      refine take_val' (i := 11) (v := .agg #[.bool nb, .slice ab mb cb]) rfl (by kernel_rfl) (by kernel_rfl) (by kernel_rfl) (some 144) rfl (fun _ _ _ h => h) (Or.inl ⟨by rfl, fun W hW => by obtain ⟨k0, k1⟩ := Kb.out.held W hW; go_simp⟩) hH4 ?_
      try simp only [Act.put, List.setIfInBounds_toArray, List.set_cons_zero, List.set_cons_succ]
      refine take_val' (i := 14) (v := .agg #[.bool nx, .slice ax mx cx]) rfl (by kernel_rfl) (by kernel_rfl) (by kernel_rfl) (some 147) rfl (fun _ _ _ h => h) (Or.inl ⟨by rfl, fun W hW => by obtain ⟨k0, k1⟩ := Kx.out.held W hW; go_simp⟩) hH4 ?_
      try simp only [Act.put, List.setIfInBounds_toArray, List.set_cons_zero, List.set_cons_succ]
      refine take_val' (i := 15) (v := .agg #[.bool ny, .slice ay my cy]) rfl (by kernel_rfl) (by kernel_rfl) (by kernel_rfl) (some 148) rfl (fun _ _ _ h => h) (Or.inl ⟨by rfl, fun W hW => by obtain ⟨k0, k1⟩ := Ky.out.held W hW; go_simp⟩) hH4 ?_
      try simp only [Act.put, List.setIfInBounds_toArray, List.set_cons_zero, List.set_cons_succ]
      refine wpAnyH_ready (rs := [12]) (by kernel_rfl) (by simp) ?_
      refine AllReadyH.cons rfl (fun K hK => ?_) AllReadyH.nil
      go_simp
      refine (sub_any _ _ za zb 267 267 _ (Na.out.below HS.out) (Nb.out.below HS.out) (by omega) (by omega)).mono ?_
      rintro e w51 ⟨v1, rfl, hv, hb⟩
      replace HS := hidden (HS.out.trans (hb.mono HS.out.size))
      clear hb
      have m1 := hidden hv
      clear hv
      refine hK.out _ _ HS.out (fun hH5 => ?_)
      clear hK K
      try simp only [Act.put, List.setIfInBounds_toArray, List.set_cons_zero, List.set_cons_succ]
      refine wpAnyH_ready (rs := [13]) (by kernel_rfl) (by simp) ?_
      refine AllReadyH.cons rfl (fun K hK => ?_) AllReadyH.nil
      go_simp
      refine (text_is (l := M2) HM2.out _ (max 267 267 + 1) _ m1.out (by omega) (HT.out.below HS.out)).mono ?_
      rintro e w52 ⟨rfl, hb⟩
      replace m1 := hidden (m1.out.below hb)
      replace HS := hidden (HS.out.trans (hb.mono HS.out.size))
      clear hb
      refine hK.out _ _ HS.out (fun hH6 => ?_)
      clear hK K
      try simp only [Act.put, List.setIfInBounds_toArray, List.set_cons_zero, List.set_cons_succ]
      clear m1
      refine wpAnyH_ready (rs := [16]) (by kernel_rfl) (by simp) ?_
      refine AllReadyH.cons rfl (fun K hK => ?_) AllReadyH.nil
      go_simp
      refine (Rv.sub_any _ _ za zb 601 601 _ (Nx.out.below HS.out) (Ny.out.below HS.out) (by omega) (by omega)).mono ?_
      rintro e w53 ⟨v2, rfl, hv, hb⟩
      replace HS := hidden (HS.out.trans (hb.mono HS.out.size))
      clear hb
      have m1 := hidden hv
      clear hv
      refine hK.out _ _ HS.out (fun hH7 => ?_)
      clear hK K
      try simp only [Act.put, List.setIfInBounds_toArray, List.set_cons_zero, List.set_cons_succ]
      refine wpAnyH_ready (rs := [17]) (by kernel_rfl) (by simp) ?_
      refine AllReadyH.cons rfl (fun K hK => ?_) AllReadyH.nil
      go_simp
      refine (text9_is (l := M2) HM2.out _ (max 601 601 + 1) _ m1.out (by omega)).mono ?_
      rintro e w54 ⟨rfl, hb⟩
      replace m1 := hidden (m1.out.below hb)
      replace HS := hidden (HS.out.trans (hb.mono HS.out.size))
      clear hb
      refine hK.out _ _ HS.out (fun hH8 => ?_)
      clear hK K
      try simp only [Act.put, List.setIfInBounds_toArray, List.set_cons_zero, List.set_cons_succ]
      clear m1
      refine take_val' (i := 18) (v := .bool true) rfl (by kernel_rfl) (by kernel_rfl) (by kernel_rfl) (some 151) rfl (fun _ _ _ h => h) (Or.inl ⟨by rfl, fun W hW => by go_simp⟩) hH8 ?_
      try simp only [Act.put, List.setIfInBounds_toArray, List.set_cons_zero, List.set_cons_succ]
      refine take_val' (i := 19) (v := .bool true) rfl (by kernel_rfl) (by kernel_rfl) (by kernel_rfl) (some 152) rfl (fun _ _ _ h => h) (Or.inl ⟨by rfl, fun W hW => by go_simp⟩) hH8 ?_
      try simp only [Act.put, List.setIfInBounds_toArray, List.set_cons_zero, List.set_cons_succ]
      refine take_val' (i := 20) (v := .bool true) rfl (by kernel_rfl) (by kernel_rfl) (by kernel_rfl) (some 153) rfl (fun _ _ _ h => h) (Or.inl ⟨by rfl, fun W hW => by go_simp⟩) hH8 ?_
      try simp only [Act.put, List.setIfInBounds_toArray, List.set_cons_zero, List.set_cons_succ]
      refine take_val' (i := 21) (v := .agg #[.bool na, .slice aa ma ca]) rfl (by kernel_rfl) (by kernel_rfl) (by kernel_rfl) (some 154) rfl (fun _ _ _ h => h) (Or.inl ⟨by rfl, fun W hW => by obtain ⟨k0, k1⟩ := Ka.out.held W hW; go_simp⟩) hH8 ?_
      try simp only [Act.put, List.setIfInBounds_toArray, List.set_cons_zero, List.set_cons_succ]
      refine take_val' (i := 22) (v := .agg #[.bool nb, .slice ab mb cb]) rfl (by kernel_rfl) (by kernel_rfl) (by kernel_rfl) (some 155) rfl (fun _ _ _ h => h) (Or.inl ⟨by rfl, fun W hW => by obtain ⟨k0, k1⟩ := Kb.out.held W hW; go_simp⟩) hH8 ?_
      try simp only [Act.put, List.setIfInBounds_toArray, List.set_cons_zero, List.set_cons_succ]
      refine take_val' (i := 25) (v := .agg #[.bool nx, .slice ax mx cx]) rfl (by kernel_rfl) (by kernel_rfl) (by kernel_rfl) (some 158) rfl (fun _ _ _ h => h) (Or.inl ⟨by rfl, fun W hW => by obtain ⟨k0, k1⟩ := Kx.out.held W hW; go_simp⟩) hH8 ?_
      try simp only [Act.put, List.setIfInBounds_toArray, List.set_cons_zero, List.set_cons_succ]
      refine take_val' (i := 26) (v := .agg #[.bool ny, .slice ay my cy]) rfl (by kernel_rfl) (by kernel_rfl) (by kernel_rfl) (some 159) rfl (fun _ _ _ h => h) (Or.inl ⟨by rfl, fun W hW => by obtain ⟨k0, k1⟩ := Ky.out.held W hW; go_simp⟩) hH8 ?_
      try simp only [Act.put, List.setIfInBounds_toArray, List.set_cons_zero, List.set_cons_succ]
      refine wpAnyH_ready (rs := [23]) (by kernel_rfl) (by simp) ?_
      refine AllReadyH.cons rfl (fun K hK => ?_) AllReadyH.nil
      go_simp
      refine (mul_any _ _ za zb 267 267 _ (Na.out.below HS.out) (Nb.out.below HS.out) (by omega) (by omega)).mono ?_
      rintro e w55 ⟨v1, rfl, hv, hb⟩
      replace HS := hidden (HS.out.trans (hb.mono HS.out.size))
      clear hb
      have m1 := hidden hv
      clear hv
      refine hK.out _ _ HS.out (fun hH9 => ?_)
      clear hK K
      try simp only [Act.put, List.setIfInBounds_toArray, List.set_cons_zero, List.set_cons_succ]
      refine wpAnyH_ready (rs := [24]) (by kernel_rfl) (by simp) ?_
      refine AllReadyH.cons rfl (fun K hK => ?_) AllReadyH.nil
      go_simp
      refine (text_is (l := M3) HM3.out _ (267 + 267) _ m1.out (by omega) (HT.out.below HS.out)).mono ?_
      rintro e w56 ⟨rfl, hb⟩
      replace m1 := hidden (m1.out.below hb)
      replace HS := hidden (HS.out.trans (hb.mono HS.out.size))
      clear hb
      refine hK.out _ _ HS.out (fun hH10 => ?_)
      clear hK K
      try simp only [Act.put, List.setIfInBounds_toArray, List.set_cons_zero, List.set_cons_succ]
      clear m1
      refine wpAnyH_ready (rs := [27]) (by kernel_rfl) (by simp) ?_
      refine AllReadyH.cons rfl (fun K hK => ?_) AllReadyH.nil
      go_simp
      refine (Rv.mul_any _ _ za zb 601 601 _ (Nx.out.below HS.out) (Ny.out.below HS.out) (by omega) (by omega)).mono ?_
      rintro e w57 ⟨v2, rfl, hv, hb⟩
      replace HS := hidden (HS.out.trans (hb.mono HS.out.size))
      clear hb
      have m1 := hidden hv
      clear hv
      refine hK.out _ _ HS.out (fun hH11 => ?_)
      clear hK K
      try simp only [Act.put, List.setIfInBounds_toArray, List.set_cons_zero, List.set_cons_succ]
      refine wpAnyH_ready (rs := [28]) (by kernel_rfl) (by simp) ?_
      refine AllReadyH.cons rfl (fun K hK => ?_) AllReadyH.nil
      go_simp
      refine (text9_is (l := M3) HM3.out _ (601 + 601 + 1) _ m1.out (by omega)).mono ?_
      rintro e w58 ⟨rfl, hb⟩
      replace m1 := hidden (m1.out.below hb)
      replace HS := hidden (HS.out.trans (hb.mono HS.out.size))
      clear hb
      refine hK.out _ _ HS.out (fun hH12 => ?_)
      clear hK K
      try simp only [Act.put, List.setIfInBounds_toArray, List.set_cons_zero, List.set_cons_succ]
      clear m1
      refine take_val' (i := 29) (v := .bool true) rfl (by kernel_rfl) (by kernel_rfl) (by kernel_rfl) (some 162) rfl (fun _ _ _ h => h) (Or.inl ⟨by rfl, fun W hW => by go_simp⟩) hH12 ?_
      try simp only [Act.put, List.setIfInBounds_toArray, List.set_cons_zero, List.set_cons_succ]
      refine take_val' (i := 30) (v := .bool true) rfl (by kernel_rfl) (by kernel_rfl) (by kernel_rfl) (some 163) rfl (fun _ _ _ h => h) (Or.inl ⟨by rfl, fun W hW => by go_simp⟩) hH12 ?_
      try simp only [Act.put, List.setIfInBounds_toArray, List.set_cons_zero, List.set_cons_succ]
      refine take_val' (i := 31) (v := .bool true) rfl (by kernel_rfl) (by kernel_rfl) (by kernel_rfl) (some 164) rfl (fun _ _ _ h => h) (Or.inl ⟨by rfl, fun W hW => by go_simp⟩) hH12 ?_
      try simp only [Act.put, List.setIfInBounds_toArray, List.set_cons_zero, List.set_cons_succ]
      refine take_val' (i := 32) (v := .agg #[.bool na, .slice aa ma ca]) rfl (by kernel_rfl) (by kernel_rfl) (by kernel_rfl) (some 165) rfl (fun _ _ _ h => h) (Or.inl ⟨by rfl, fun W hW => by obtain ⟨k0, k1⟩ := Ka.out.held W hW; go_simp⟩) hH12 ?_
      try simp only [Act.put, List.setIfInBounds_toArray, List.set_cons_zero, List.set_cons_succ]
      refine take_val' (i := 35) (v := .agg #[.bool nx, .slice ax mx cx]) rfl (by kernel_rfl) (by kernel_rfl) (by kernel_rfl) (some 168) rfl (fun _ _ _ h => h) (Or.inl ⟨by rfl, fun W hW => by obtain ⟨k0, k1⟩ := Kx.out.held W hW; go_simp⟩) hH12 ?_
      try simp only [Act.put, List.setIfInBounds_toArray, List.set_cons_zero, List.set_cons_succ]
      refine wpAnyH_ready (rs := [33]) (by kernel_rfl) (by simp) ?_
      refine AllReadyH.cons rfl (fun K hK => ?_) AllReadyH.nil
      go_simp
      refine (neg_any _ za 267 _ (Na.out.below HS.out) (by omega)).mono ?_
      rintro e w59 ⟨v1, rfl, hv, hb⟩
      replace HS := hidden (HS.out.trans (hb.mono HS.out.size))
      clear hb
      have m1 := hidden hv
      clear hv
      refine hK.out _ _ HS.out (fun hH13 => ?_)
      clear hK K
      try simp only [Act.put, List.setIfInBounds_toArray, List.set_cons_zero, List.set_cons_succ]
      refine wpAnyH_ready (rs := [34]) (by kernel_rfl) (by simp) ?_
      refine AllReadyH.cons rfl (fun K hK => ?_) AllReadyH.nil
      go_simp
      refine (text_is (l := M4) HM4.out _ 267 _ m1.out (by omega) (HT.out.below HS.out)).mono ?_
      rintro e w60 ⟨rfl, hb⟩
      replace m1 := hidden (m1.out.below hb)
      replace HS := hidden (HS.out.trans (hb.mono HS.out.size))
      clear hb
      refine hK.out _ _ HS.out (fun hH14 => ?_)
      clear hK K
      try simp only [Act.put, List.setIfInBounds_toArray, List.set_cons_zero, List.set_cons_succ]
      clear m1
      refine wpAnyH_ready (rs := [36]) (by kernel_rfl) (by simp) ?_
      refine AllReadyH.cons rfl (fun K hK => ?_) AllReadyH.nil
      go_simp
      refine (Rv.neg_any _ za 601 _ (Nx.out.below HS.out) (by omega)).mono ?_
      rintro e w61 ⟨v2, rfl, hv, hb⟩
      replace HS := hidden (HS.out.trans (hb.mono HS.out.size))
      clear hb
      have m1 := hidden hv
      clear hv
      refine hK.out _ _ HS.out (fun hH15 => ?_)
      clear hK K
      try simp only [Act.put, List.setIfInBounds_toArray, List.set_cons_zero, List.set_cons_succ]
      refine wpAnyH_ready (rs := [37]) (by kernel_rfl) (by simp) ?_
      refine AllReadyH.cons rfl (fun K hK => ?_) AllReadyH.nil
      go_simp
      refine (text9_is (l := M4) HM4.out _ 601 _ m1.out (by omega)).mono ?_
      rintro e w62 ⟨rfl, hb⟩
      replace m1 := hidden (m1.out.below hb)
      replace HS := hidden (HS.out.trans (hb.mono HS.out.size))
      clear hb
      refine hK.out _ _ HS.out (fun hH16 => ?_)
      clear hK K
      try simp only [Act.put, List.setIfInBounds_toArray, List.set_cons_zero, List.set_cons_succ]
      clear m1
      refine take_val' (i := 38) (v := .bool true) rfl (by kernel_rfl) (by kernel_rfl) (by kernel_rfl) (some 171) rfl (fun _ _ _ h => h) (Or.inl ⟨by rfl, fun W hW => by go_simp⟩) hH16 ?_
      try simp only [Act.put, List.setIfInBounds_toArray, List.set_cons_zero, List.set_cons_succ]
      refine take_val' (i := 39) (v := .bool true) rfl (by kernel_rfl) (by kernel_rfl) (by kernel_rfl) (some 172) rfl (fun _ _ _ h => h) (Or.inl ⟨by rfl, fun W hW => by go_simp⟩) hH16 ?_
      try simp only [Act.put, List.setIfInBounds_toArray, List.set_cons_zero, List.set_cons_succ]
      refine take_val' (i := 40) (v := .bool true) rfl (by kernel_rfl) (by kernel_rfl) (by kernel_rfl) (some 173) rfl (fun _ _ _ h => h) (Or.inl ⟨by rfl, fun W hW => by go_simp⟩) hH16 ?_
      try simp only [Act.put, List.setIfInBounds_toArray, List.set_cons_zero, List.set_cons_succ]
      refine take_val' (i := 41) (v := .agg #[.bool na, .slice aa ma ca]) rfl (by kernel_rfl) (by kernel_rfl) (by kernel_rfl) (some 174) rfl (fun _ _ _ h => h) (Or.inl ⟨by rfl, fun W hW => by obtain ⟨k0, k1⟩ := Ka.out.held W hW; go_simp⟩) hH16 ?_
      try simp only [Act.put, List.setIfInBounds_toArray, List.set_cons_zero, List.set_cons_succ]
      refine take_val' (i := 42) (v := .agg #[.bool nb, .slice ab mb cb]) rfl (by kernel_rfl) (by kernel_rfl) (by kernel_rfl) (some 175) rfl (fun _ _ _ h => h) (Or.inl ⟨by rfl, fun W hW => by obtain ⟨k0, k1⟩ := Kb.out.held W hW; go_simp⟩) hH16 ?_
      try simp only [Act.put, List.setIfInBounds_toArray, List.set_cons_zero, List.set_cons_succ]
      refine take_val' (i := 44) (v := .agg #[.bool nx, .slice ax mx cx]) rfl (by kernel_rfl) (by kernel_rfl) (by kernel_rfl) (some 177) rfl (fun _ _ _ h => h) (Or.inl ⟨by rfl, fun W hW => by obtain ⟨k0, k1⟩ := Kx.out.held W hW; go_simp⟩) hH16 ?_
      try simp only [Act.put, List.setIfInBounds_toArray, List.set_cons_zero, List.set_cons_succ]
      refine take_val' (i := 45) (v := .agg #[.bool ny, .slice ay my cy]) rfl (by kernel_rfl) (by kernel_rfl) (by kernel_rfl) (some 178) rfl (fun _ _ _ h => h) (Or.inl ⟨by rfl, fun W hW => by obtain ⟨k0, k1⟩ := Ky.out.held W hW; go_simp⟩) hH16 ?_
      try simp only [Act.put, List.setIfInBounds_toArray, List.set_cons_zero, List.set_cons_succ]
      refine wpAnyH_ready (rs := [43]) (by kernel_rfl) (by simp) ?_
      refine AllReadyH.cons rfl (fun K hK => ?_) AllReadyH.nil
      go_simp
      refine (cmp_any _ _ za zb 267 267 _ (Na.out.below HS.out) (Nb.out.below HS.out) (by omega) (by omega)).mono ?_
      rintro e w63 ⟨rfl, hb⟩
      replace HS := hidden (HS.out.trans (hb.mono HS.out.size))
      clear hb
      rw [HSG.out]
      refine hK.out _ _ HS.out (fun hH17 => ?_)
      clear hK K
      try simp only [Act.put, List.setIfInBounds_toArray, List.set_cons_zero, List.set_cons_succ]
      refine wpAnyH_ready (rs := [46]) (by kernel_rfl) (by simp) ?_
      refine AllReadyH.cons rfl (fun K hK => ?_) AllReadyH.nil
      go_simp
      refine (cmp_both9 _ _ za zb _ (Nx.out.below HS.out) (Ny.out.below HS.out)).mono ?_
      rintro e w64 ⟨rfl, hb⟩
      replace HS := hidden (HS.out.trans (hb.mono HS.out.size))
      clear hb
      rw [HSG.out]
      refine hK.out _ _ HS.out (fun hH18 => ?_)
      clear hK K
      try simp only [Act.put, List.setIfInBounds_toArray, List.set_cons_zero, List.set_cons_succ]
      refine take_val' (i := 47) (v := .bool true) rfl (by kernel_rfl) (by kernel_rfl) (by kernel_rfl) (some 180) rfl (fun _ _ _ h => h) (Or.inl ⟨by rfl, fun W hW => by go_simp⟩) hH18 ?_
      try simp only [Act.put, List.setIfInBounds_toArray, List.set_cons_zero, List.set_cons_succ]
      refine take_val' (i := 48) (v := .bool true) rfl (by kernel_rfl) (by kernel_rfl) (by kernel_rfl) (some 181) rfl (fun _ _ _ h => h) (Or.inl ⟨by rfl, fun W hW => by go_simp⟩) hH18 ?_
      try simp only [Act.put, List.setIfInBounds_toArray, List.set_cons_zero, List.set_cons_succ]
      refine take_val' (i := 49) (v := .bool true) rfl (by kernel_rfl) (by kernel_rfl) (by kernel_rfl) (some 182) rfl (fun _ _ _ h => h) (Or.inl ⟨by rfl, fun W hW => by go_simp⟩) hH18 ?_
      try simp only [Act.put, List.setIfInBounds_toArray, List.set_cons_zero, List.set_cons_succ]
      refine take_val' (i := 50) (v := .int .i64 vi) rfl (by kernel_rfl) (by kernel_rfl) (by kernel_rfl) (some 183) rfl (fun _ _ _ h => h) (Or.inl ⟨by rfl, fun W hW => by go_simp⟩) hH18 ?_
      try simp only [Act.put, List.setIfInBounds_toArray, List.set_cons_zero, List.set_cons_succ]
      refine take_val' (i := 51) (v := .int .i64 vi) rfl (by kernel_rfl) (by kernel_rfl) (by kernel_rfl) (some 184) rfl (fun _ _ _ h => h) (Or.inl ⟨by rfl, fun W hW => by go_simp⟩) hH18 ?_
      try simp only [Act.put, List.setIfInBounds_toArray, List.set_cons_zero, List.set_cons_succ]
      refine take_val' (i := 52) (v := .bool true) rfl (by kernel_rfl) (by kernel_rfl) (by kernel_rfl) (some 185) rfl (fun _ _ _ h => h) (Or.inl ⟨by rfl, fun W hW => by go_simp⟩) hH18 ?_
      try simp only [Act.put, List.setIfInBounds_toArray, List.set_cons_zero, List.set_cons_succ]
      refine take_val' (i := 53) (v := .bool true) rfl (by kernel_rfl) (by kernel_rfl) (by kernel_rfl) (some 186) rfl (fun _ _ _ h => h) (Or.inl ⟨by rfl, fun W hW => by go_simp⟩) hH18 ?_
      try simp only [Act.put, List.setIfInBounds_toArray, List.set_cons_zero, List.set_cons_succ]
      refine take_val' (i := 54) (v := .bool true) rfl (by kernel_rfl) (by kernel_rfl) (by kernel_rfl) (some 187) rfl (fun _ _ _ h => h) (Or.inl ⟨by rfl, fun W hW => by go_simp⟩) hH18 ?_
      try simp only [Act.put, List.setIfInBounds_toArray, List.set_cons_zero, List.set_cons_succ]
      refine take_val' (i := 55) (v := .bool fi) rfl (by kernel_rfl) (by kernel_rfl) (by kernel_rfl) (some 188) rfl (fun _ _ _ h => h) (Or.inl ⟨by rfl, fun W hW => by go_simp⟩) hH18 ?_
      try simp only [Act.put, List.setIfInBounds_toArray, List.set_cons_zero, List.set_cons_succ]
      refine take_val' (i := 56) (v := .bool fi) rfl (by kernel_rfl) (by kernel_rfl) (by kernel_rfl) (some 189) rfl (fun _ _ _ h => h) (Or.inl ⟨by rfl, fun W hW => by go_simp⟩) hH18 ?_
      try simp only [Act.put, List.setIfInBounds_toArray, List.set_cons_zero, List.set_cons_succ]
      refine take_val' (i := 57) (v := .bool true) rfl (by kernel_rfl) (by kernel_rfl) (by kernel_rfl) (some 190) rfl (fun _ _ _ h => h) (Or.inl ⟨by rfl, fun W hW => by go_simp⟩) hH18 ?_
      try simp only [Act.put, List.setIfInBounds_toArray, List.set_cons_zero, List.set_cons_succ]
      refine take_val' (i := 58) (v := .bool true) rfl (by kernel_rfl) (by kernel_rfl) (by kernel_rfl) (some 191) rfl (fun _ _ _ h => h) (Or.inl ⟨by rfl, fun W hW => by go_simp⟩) hH18 ?_
      try simp only [Act.put, List.setIfInBounds_toArray, List.set_cons_zero, List.set_cons_succ]
      refine take_val' (i := 59) (v := .bool true) rfl (by kernel_rfl) (by kernel_rfl) (by kernel_rfl) (some 192) rfl (fun _ _ _ h => h) (Or.inl ⟨by rfl, fun W hW => by go_simp⟩) hH18 ?_
      try simp only [Act.put, List.setIfInBounds_toArray, List.set_cons_zero, List.set_cons_succ]
      refine take_val' (i := 60) (v := .agg #[.bool na, .slice aa ma ca]) rfl (by kernel_rfl) (by kernel_rfl) (by kernel_rfl) (some 193) rfl (fun _ _ _ h => h) (Or.inl ⟨by rfl, fun W hW => by obtain ⟨k0, k1⟩ := Ka.out.held W hW; go_simp⟩) hH18 ?_
      try simp only [Act.put, List.setIfInBounds_toArray, List.set_cons_zero, List.set_cons_succ]
      refine take_val' (i := 62) (v := .agg #[.bool nx, .slice ax mx cx]) rfl (by kernel_rfl) (by kernel_rfl) (by kernel_rfl) (some 195) rfl (fun _ _ _ h => h) (Or.inl ⟨by rfl, fun W hW => by obtain ⟨k0, k1⟩ := Kx.out.held W hW; go_simp⟩) hH18 ?_
      try simp only [Act.put, List.setIfInBounds_toArray, List.set_cons_zero, List.set_cons_succ]
      refine wpAnyH_ready (rs := [61]) (by kernel_rfl) (by simp) ?_
      refine AllReadyH.cons rfl (fun K hK => ?_) AllReadyH.nil
      go_simp
      refine (digits_any _ za 267 _ (Na.out.below HS.out) (by omega)).mono ?_
      rintro e w65 ⟨rfl, hb⟩
      replace HS := hidden (HS.out.trans (hb.mono HS.out.size))
      clear hb
      rw [HDG.out]
      refine hK.out _ _ HS.out (fun hH19 => ?_)
      clear hK K
      try simp only [Act.put, List.setIfInBounds_toArray, List.set_cons_zero, List.set_cons_succ]
      refine wpAnyH_ready (rs := [63]) (by kernel_rfl) (by simp) ?_
      refine AllReadyH.cons rfl (fun K hK => ?_) AllReadyH.nil
      go_simp
      refine (Rv.digits_any _ za 601 _ (Nx.out.below HS.out) (by omega) HLZ.out).mono ?_
      rintro e w66 ⟨rfl, hb⟩
      replace HS := hidden (HS.out.trans (hb.mono HS.out.size))
      clear hb
      rw [HDG.out]
      refine hK.out _ _ HS.out (fun hH20 => ?_)
      clear hK K
      try simp only [Act.put, List.setIfInBounds_toArray, List.set_cons_zero, List.set_cons_succ]
      refine take_val' (i := 64) (v := .bool true) rfl (by kernel_rfl) (by kernel_rfl) (by kernel_rfl) (some 197) rfl (fun _ _ _ h => h) (Or.inl ⟨by rfl, fun W hW => by go_simp⟩) hH20 ?_
      try simp only [Act.put, List.setIfInBounds_toArray, List.set_cons_zero, List.set_cons_succ]
      refine take_val' (i := 65) (v := .bool true) rfl (by kernel_rfl) (by kernel_rfl) (by kernel_rfl) (some 198) rfl (fun _ _ _ h => h) (Or.inl ⟨by rfl, fun W hW => by go_simp⟩) hH20 ?_
      try simp only [Act.put, List.setIfInBounds_toArray, List.set_cons_zero, List.set_cons_succ]
      refine take_val' (i := 66) (v := .bool true) rfl (by kernel_rfl) (by kernel_rfl) (by kernel_rfl) (some 199) rfl (fun _ _ _ h => h) (Or.inl ⟨by rfl, fun W hW => by go_simp⟩) hH20 ?_
      try simp only [Act.put, List.setIfInBounds_toArray, List.set_cons_zero, List.set_cons_succ]
      refine take_val' (i := 67) (v := .agg #[.bool na, .slice aa ma ca]) rfl (by kernel_rfl) (by kernel_rfl) (by kernel_rfl) (some 200) rfl (fun _ _ _ h => h) (Or.inl ⟨by rfl, fun W hW => by obtain ⟨k0, k1⟩ := Ka.out.held W hW; go_simp⟩) hH20 ?_
      try simp only [Act.put, List.setIfInBounds_toArray, List.set_cons_zero, List.set_cons_succ]
      refine take_val' (i := 69) (v := .string s) rfl (by kernel_rfl) (by kernel_rfl) (by kernel_rfl) (some 202) rfl (fun _ _ _ h => h) (Or.inl ⟨by rfl, fun W hW => by go_simp⟩) hH20 ?_
      try simp only [Act.put, List.setIfInBounds_toArray, List.set_cons_zero, List.set_cons_succ]
      refine wpAnyH_ready (rs := [68]) (by kernel_rfl) (by simp) ?_
      refine AllReadyH.cons rfl (fun K hK => ?_) AllReadyH.nil
      go_simp
      refine (text_any _ za 267 _ (Na.out.below HS.out) (by omega) (HT.out.below HS.out)).mono ?_
      rintro e w67 ⟨rfl, hb⟩
      replace HS := hidden (HS.out.trans (hb.mono HS.out.size))
      clear hb
      rw [HSS.out]
      refine hK.out _ _ HS.out (fun hH21 => ?_)
      clear hK K
      try simp only [Act.put, List.setIfInBounds_toArray, List.set_cons_zero, List.set_cons_succ]
      refine take_val' (i := 70) (v := .bool true) rfl (by kernel_rfl) (by kernel_rfl) (by kernel_rfl) (some 203) rfl (fun _ _ _ h => h) (Or.inl ⟨by rfl, fun W hW => by go_simp⟩) hH21 ?_
      try simp only [Act.put, List.setIfInBounds_toArray, List.set_cons_zero, List.set_cons_succ]
      refine take_val' (i := 71) (v := .bool true) rfl (by kernel_rfl) (by kernel_rfl) (by kernel_rfl) (some 204) rfl (fun _ _ _ h => h) (Or.inl ⟨by rfl, fun W hW => by go_simp⟩) hH21 ?_
      try simp only [Act.put, List.setIfInBounds_toArray, List.set_cons_zero, List.set_cons_succ]
      refine take_val' (i := 72) (v := .bool true) rfl (by kernel_rfl) (by kernel_rfl) (by kernel_rfl) (some 205) rfl (fun _ _ _ h => h) (Or.inl ⟨by rfl, fun W hW => by go_simp⟩) hH21 ?_
      try simp only [Act.put, List.setIfInBounds_toArray, List.set_cons_zero, List.set_cons_succ]
      refine take_val' (i := 73) (v := .agg #[.bool nb, .slice ab mb cb]) rfl (by kernel_rfl) (by kernel_rfl) (by kernel_rfl) (some 206) rfl (fun _ _ _ h => h) (Or.inl ⟨by rfl, fun W hW => by obtain ⟨k0, k1⟩ := Kb.out.held W hW; go_simp⟩) hH21 ?_
      try simp only [Act.put, List.setIfInBounds_toArray, List.set_cons_zero, List.set_cons_succ]
      refine take_val' (i := 75) (v := .string t) rfl (by kernel_rfl) (by kernel_rfl) (by kernel_rfl) (some 208) rfl (fun _ _ _ h => h) (Or.inl ⟨by rfl, fun W hW => by go_simp⟩) hH21 ?_
      try simp only [Act.put, List.setIfInBounds_toArray, List.set_cons_zero, List.set_cons_succ]
      refine wpAnyH_ready (rs := [74]) (by kernel_rfl) (by simp) ?_
      refine AllReadyH.cons rfl (fun K hK => ?_) AllReadyH.nil
      go_simp
      refine (text_any _ zb 267 _ (Nb.out.below HS.out) (by omega) (HT.out.below HS.out)).mono ?_
      rintro e w68 ⟨rfl, hb⟩
      replace HS := hidden (HS.out.trans (hb.mono HS.out.size))
      clear hb
      rw [HST.out]
      refine hK.out _ _ HS.out (fun hH22 => ?_)
      clear hK K
      try simp only [Act.put, List.setIfInBounds_toArray, List.set_cons_zero, List.set_cons_succ]
      refine take_val' (i := 76) (v := .bool true) rfl (by kernel_rfl) (by kernel_rfl) (by kernel_rfl) (some 209) rfl (fun _ _ _ h => h) (Or.inl ⟨by rfl, fun W hW => by go_simp⟩) hH22 ?_
      try simp only [Act.put, List.setIfInBounds_toArray, List.set_cons_zero, List.set_cons_succ]
      refine take_val' (i := 77) (v := .bool true) rfl (by kernel_rfl) (by kernel_rfl) (by kernel_rfl) (some 210) rfl (fun _ _ _ h => h) (Or.inl ⟨by rfl, fun W hW => by go_simp⟩) hH22 ?_
      try simp only [Act.put, List.setIfInBounds_toArray, List.set_cons_zero, List.set_cons_succ]
      refine take_val' (i := 78) (v := .bool true) rfl (by kernel_rfl) (by kernel_rfl) (by kernel_rfl) (some 4) rfl (fun _ _ _ h => h) (Or.inl ⟨by rfl, fun W hW => by go_simp⟩) hH22 ?_
      try simp only [Act.put, List.setIfInBounds_toArray, List.set_cons_zero, List.set_cons_succ]
      refine wpAnyH_done (by kernel_rfl) ?_ _
      clear fa0 fa1 fx0 fx1 fb0 fb1 fy0 fy1
      replace Na := hidden (Na.out.below HS.out)
      replace Nx := hidden (Nx.out.below HS.out)
      replace Nb := hidden (Nb.out.below HS.out)
      replace Ny := hidden (Ny.out.below HS.out)
      replace Ka := hidden (Ka.out.below HS.out Ka.out.lt)
      replace Kx := hidden (Kx.out.below HS.out Kx.out.lt)
      replace Kb := hidden (Kb.out.below HS.out Kb.out.lt)
      replace Ky := hidden (Ky.out.below HS.out Ky.out.lt)
      replace HB := hidden (HB.out.trans (HS.out.mono HB.out.size))
      replace HT := hidden (HT.out.below HS.out)
      clear HS
      have fa0 := Ka.out.facts.1
      have fa1 := Ka.out.facts.2.1
      have fx0 := Kx.out.facts.1
      have fx1 := Kx.out.facts.2.1
      have fb0 := Kb.out.facts.1
      have fb1 := Kb.out.facts.2.1
      have fy0 := Ky.out.facts.1
      have fy1 := Ky.out.facts.2.1
      go_wp2
      go_ret
      exact ⟨rfl, HB.out⟩
end Nm
end Go.Proofs.YtapdkibiegeijaaDoor
