/- smithylaw1.PathMatches answers true at every two texts and every three lists of texts. Conditions: internal/bytealg.MaxLen holds some number, api's errors lie in their variables, each a pointer of its own. -/
import Derived.Test.YteokigpeaggemaaDoorRefGlob
import Derived.Test.YteokigpeaggemaaDoorSeePl
import Derived.Test.YteokigpeaggemaaDoorSaysLaw
namespace Go.Proofs.YteokigpeaggemaaDoor
open Go.RowKit

/-- What holds of every world on the way. -/
structure MCtx (A : Nat → Addr) (a1 a2 a3 : Option Addr) (c1 c2 c3 : Nat) (l but xs : List ByteArray) (w0 W : World) : Prop where
  ready : Ready (E A 11) W
  sent : Sent A W
  l1 : SliceOf W a1 c1 l
  l2 : SliceOf W a2 c2 but
  l3 : SliceOf W a3 c3 xs
  below : Below w0.heap.size w0 W
theorem MCtx.next {A : Nat → Addr} {a1 a2 a3 : Option Addr} {c1 c2 c3 : Nat} {l but xs : List ByteArray} {w0 W W' : World} (h : MCtx A a1 a2 a3 c1 c2 c3 l but xs w0 W) (hb : Below W.heap.size W W') : MCtx A a1 a2 a3 c1 c2 c3 l but xs w0 W' :=
  ⟨h.ready.below hb, h.sent.below hb, h.l1.below hb, h.l2.below hb, h.l3.below hb, h.below.trans (hb.mono h.below.size)⟩
theorem bad_one {ys : List ByteArray} {j k : Nat} (hj : badAt ys j) (hk : badAt ys k) : j = k := by
  obtain ⟨j1, j2, j3⟩ := hj
  obtain ⟨k1, k2, k3⟩ := hk
  rcases Nat.lt_trichotomy j k with h | h | h
  · rw [k2 j j1 h] at j3; cases j3
  · exact h
  · rw [j2 k k1 h] at k3; cases k3
theorem pl_eq (pos : Int) : pl (101 + ((11 : Nat) : Int)) pos = pl 112 pos := rfl
/-- path.Match and the document's, at one pattern and one text. -/
theorem match_both (A : Nat → Addr) (pat p : ByteArray) : ∃ (v : Value) (b : Bool), FaultOf A v (codeOf (Pth.splitOK Pth.patOK pat.data.toList)) ∧
    (∀ w e w', matchPost (E A 11) pat p w e w' → gives #[.bool b, v] w e w') ∧ (Pth.splitOK Pth.patOK pat.data.toList = true → (partsB (Pth.parts pat.data.toList) (Pth.parts p.data.toList) && Pth.splitOK Pth.partOK p.data.toList) = b) ∧ (Pth.splitOK Pth.patOK pat.data.toList = false → b = false) := by
  unfold matchPost
  cases h : Pth.splitOK Pth.patOK pat.data.toList with
  | true => exact ⟨.nilIface, matchB pat.data.toList p.data.toList, .inl ⟨rfl, rfl⟩, fun _ _ _ h => h, fun _ => by unfold matchB; rw [Bool.and_comm], fun h => by cases h⟩
  | false => exact ⟨E A 11, false, .inr ⟨11, by omega, rfl, rfl⟩, fun _ _ _ h => h, fun h => by (cases h), fun _ => rfl⟩

set_option maxRecDepth 100000 in
set_option maxHeartbeats 3000000 in
theorem PathMatches_any (A : Nat → Addr) (pat p : ByteArray) (a1 a2 a3 : Option Addr) (c1 c2 c3 : Nat) (l but xs : List ByteArray) (w : World) (hX : MCtx A a1 a2 a3 c1 c2 c3 l but xs w w) :
    Calls Tryd.prog 4 #[.string pat, .string p, .slice a1 l.length c1, .slice a2 but.length c2, .slice a3 xs.length c3] w (saysB w.heap.size w true) := by
  have HF := Lib.hid (first_any _ _ w hX.ready)
  by_cases hp1 : 210 < pat.size
  · go_enter Tryd.func4, Tryd.ntmps4
    go_wp2_with (go_at_call 9; refine HF.out.mono ?_; rintro e w1 ⟨rfl, hb1⟩)
    go_ret
    exact ⟨rfl, hb1⟩
  by_cases hp2 : 210 < p.size
  · go_enter Tryd.func4, Tryd.ntmps4
    go_wp2_with (go_at_call 9; refine HF.out.mono ?_; rintro e w1 ⟨rfl, hb1⟩)
    go_ret
    exact ⟨rfl, hb1⟩
  by_cases hl : 8 < l.length
  · go_enter Tryd.func4, Tryd.ntmps4
    go_wp2_with (go_at_call 9; refine HF.out.mono ?_; rintro e w1 ⟨rfl, hb1⟩)
    go_ret
    exact ⟨rfl, hb1⟩
  by_cases hbu : 8 < but.length
  · go_enter Tryd.func4, Tryd.ntmps4
    go_wp2_with (go_at_call 9; refine HF.out.mono ?_; rintro e w1 ⟨rfl, hb1⟩)
    go_ret
    exact ⟨rfl, hb1⟩
  by_cases hxs : 30 < xs.length
  · go_enter Tryd.func4, Tryd.ntmps4
    go_wp2_with (go_at_call 9; refine HF.out.mono ?_; rintro e w1 ⟨rfl, hb1⟩)
    go_ret
    exact ⟨rfl, hb1⟩
  go_enter Tryd.func4, Tryd.ntmps4
  go_wp2_with fail
  refine HF.out.mono ?_
  rintro e w1 ⟨rfl, hb1⟩
  have X1 := Lib.hid (hX.next hb1)
  clear HF hb1 hX
  go_wp2_with fail
  refine (Texts_any a1 c1 l w1 (by omega) X1.out.l1).mono ?_
  rintro e w2 ⟨v2, rfl, hown, hb⟩
  have hz2 := hb.size
  have B2 := Lib.hid hb
  have O2 := Lib.hid hown
  clear hb hown
  go_wp2_with (first
    | (at_builtin; refine append_texts w2 rfl (.tmp 53) (.tmp 54) rfl w1.heap.size _ l but rfl O2.out a2 c2 rfl (X1.out.l2.below B2.out) (by omega) hz2 ?_; intro v3 w3 hown3 hb3 hz3; have O3 := Lib.hid hown3; have B3 := Lib.hid (B2.out.trans hb3); clear hown3 hb3)
    | (at_builtin; refine append_texts w3 rfl (.tmp 55) (.tmp 56) rfl w1.heap.size _ (l ++ but) xs rfl O3.out a3 c3 rfl (X1.out.l3.below B3.out) (by simp; omega) (by omega) ?_; intro v4 w4 hown hb hz4; have X4 := Lib.hid (X1.out.next (B3.out.trans hb)); obtain ⟨a4, c4, rfl, hs4⟩ := Owned.slice hown; obtain ⟨ys, hys⟩ : ∃ ys, l ++ but ++ xs = ys := ⟨_, rfl⟩; rw [hys] at hs4 ⊢; have hyl : ys.length ≤ 46 := (by rw [← hys]; simp; omega); have HY := Lib.hid hys; have S4 := Lib.hid hs4; clear hb hown hs4 hys))
  go_loop [13] (fun i => ∃ k : Nat, k ≤ ys.length ∧ i = .int .i64 k ∧ Hid (∀ j (hj : j < ys.length), j < k → ys[j].size ≤ 210)) (fun i => ys.length - (intOf i).toNat)
  case atStart => exact ⟨0, Nat.zero_le _, rfl, Lib.hid fun _ _ h => absurd h (by omega)⟩
  case round =>
    obtain ⟨k, hk, rfl, hsm⟩ := hrel
    by_cases hlt : k < ys.length
    · rcases S4.out with h0 | ⟨bk, o, rfl, h2, h3, h4⟩
      · rw [h0] at hlt; exact absurd hlt (by simp)
      · have hcell := h4 k _ (List.getElem?_eq_getElem hlt)
        clear h4
        by_cases hbig : 210 < ys[k].size
        · go_wp2_with fail
          go_ret
          exact ⟨rfl, X4.out.below⟩
        · have hsm' : Hid (∀ j (hj : j < ys.length), j < k + 1 → ys[j].size ≤ 210) := Lib.hid fun j hj hjk => by
            by_cases e : j = k
            · subst e; omega
            · exact hsm.out j hj (by omega)
          clear hsm
          go_wp2_with fail
          go_round
          case rel => exact ⟨k + 1, by omega, by go_num, hsm'⟩
          case measure => simp [intOf]; omega
    · obtain rfl : k = ys.length := by omega
      have hall : ∀ x ∈ l ++ but ++ xs, x.size ≤ 210 := by
        rw [HY.out]
        intro x hx
        obtain ⟨j, hj, rfl⟩ := List.getElem_of_mem hx
        exact hsm.out j hj hj
      have S1 : Hid (∀ x ∈ l, x.size ≤ 210) := Lib.hid fun x hx => hall x (by simp [hx])
      have S2 : Hid (∀ x ∈ but, x.size ≤ 210) := Lib.hid fun x hx => hall x (by simp [hx])
      have S3 : Hid (∀ x ∈ xs, x.size ≤ 210) := Lib.hid fun x hx => hall x (by simp [hx])
      clear hsm hall
      obtain ⟨v, b, hf, hm1, hm2, hm3⟩ := match_both A pat p
      have HM := Lib.hid ((Match_any (E A 11) pat p w4 (by omega) (by omega) X4.out.ready).mono fun e w' h => hm1 w4 e w' h)
      have HRP := Lib.hid (fun W => refPattern_any pat W (by omega))
      have HRM := Lib.hid (fun W => refMatch_any pat p W (by omega) (by omega))
      have HI := Lib.hid (fun W (hW : Sent A W) => Is_bare (codeOf (Pth.splitOK Pth.patOK pat.data.toList)) hf W hW)
      have HM2 := Lib.hid hm2
      have HM3 := Lib.hid hm3
      have HGL := Lib.hid (fun W (hW : MCtx A a1 a2 a3 c1 c2 c3 l but xs w W) => Glob_any 145 (.pointer (some (A 11))) a1 a2 a3 c1 c2 c3 l but xs W (by omega) (by omega) (by omega) (fun x hx => by have := S1.out x hx; omega) (fun x hx => by have := S2.out x hx; omega) (fun x hx => by have := S3.out x hx; omega) hW.l1 hW.l2 hW.l3 hW.ready)
      have HRG := Lib.hid (fun W (hW : MCtx A a1 a2 a3 c1 c2 c3 l but xs w W) => refGlob_any a1 a2 a3 c1 c2 c3 l but xs W (by omega) (by omega) (by omega) (fun x hx => by have := S1.out x hx; omega) (fun x hx => by have := S2.out x hx; omega) (fun x hx => by have := S3.out x hx; omega) hW.l1 hW.l2 hW.l3)
      clear hf hm1 hm2 hm3
      generalize Pth.splitOK Pth.patOK pat.data.toList = g at HRP HI HM2 HM3
      go_wp2_with fail
      refine HM.out.mono ?_
      rintro e w5 ⟨rfl, hb⟩
      have X5 := Lib.hid (X4.out.next hb)
      clear hb HM
      go_wp2_with fail
      refine (HRP.out w5).mono ?_
      rintro e w6 ⟨rfl, hb⟩
      have X6 := Lib.hid (X5.out.next hb)
      clear hb
      go_wp2_with fail
      refine (code_any g w6).mono ?_
      rintro e w7 ⟨rfl, rfl⟩
      go_wp2_with fail
      refine (HI.out w6 X6.out.sent).mono ?_
      rintro e w7 ⟨rfl, hb⟩
      have X7 := Lib.hid (X6.out.next hb)
      clear hb
      rw [beq_self_eq_true]
      have rest : ∀ W : World, MCtx A a1 a2 a3 c1 c2 c3 l but xs w W → True := fun _ _ => trivial
      clear rest
      cases g
      · obtain rfl := HM3.out rfl
        go_wp2_with fail
        refine (HGL.out w7 X7.out).mono ?_
        rintro e wA (⟨ok1, ok2, ⟨aG, cG, rfl, hsG⟩, hb⟩ | ⟨k, hbad, ⟨vP, rfl, bP, rfl, hbw, hblk⟩, hb⟩)
        · have SG := Lib.hid hsG
          have OK12 := Lib.hid (patsOK_glue ok1 ok2)
          have XA := Lib.hid (X7.out.next hb)
          have hgl := glob_few (rfl : globB l but xs = globB l but xs)
          clear hsG ok1 ok2 hb
          go_wp2_with fail
          refine (HRG.out wA XA.out).mono ?_
          rintro e wB (⟨okb, ⟨vR, rfl, hownR⟩, hb⟩ | ⟨k, hbad, rfl, hb⟩)
          · obtain ⟨aR, cR, rfl, hsR⟩ := Owned.slice hownR
            have SR := Lib.hid hsR
            have SG2 := Lib.hid (SG.out.below hb)
            have XB := Lib.hid (XA.out.next hb)
            clear okb hownR hsR hb
            go_wp2_with fail
            refine (SameTexts_any aG aR cG cR (globB l but xs) (globB l but xs) wB (by omega) (by omega) SG2.out SR.out rfl).mono ?_
            rintro e wC ⟨rfl, hb⟩
            have XC := Lib.hid (XB.out.next hb)
            clear hb
            go_wp2
            go_ret
            exact ⟨rfl, XC.out.below⟩
          · exact absurd OK12.out (bad_not hbad)
        · have PL : Hid (PlAt wA bP (k : Int) (E A 11)) := Lib.hid hblk
          have KB := Lib.hid hbad
          have XA := Lib.hid (X7.out.next hb)
          clear hbad hblk hb hbw
          go_wp2_with fail
          refine (HRG.out wA XA.out).mono ?_
          rintro e wB (⟨okb, _, _⟩ | ⟨k2, hbad2, rfl, hb⟩)
          · exact absurd okb (bad_not KB.out)
          · obtain rfl := bad_one KB.out hbad2
            have PL2 := Lib.hid (PL.out.below hb)
            have XB := Lib.hid (XA.out.next hb)
            clear hbad2 hb
            go_wp2_with fail
            refine (Placed_any 112 (k : Int) (by decide) wB).mono ?_
            rintro e wC ⟨rfl, hb⟩
            have XC := Lib.hid (XB.out.next hb)
            have hsp := Same_pl A 11 bP (k : Int) wC (by omega) XC.out.sent (PL2.out.below hb)
            rw [pl_eq] at hsp
            have HSP := Lib.hid hsp
            clear hb hsp
            go_wp2_with fail
            refine HSP.out.mono ?_
            rintro e wD ⟨rfl, hb⟩
            have XD := Lib.hid (XC.out.next hb)
            clear hb
            go_wp2
            go_ret
            exact ⟨rfl, XD.out.below⟩
      · have HB := HM2.out rfl
        rw [HB] at HRM
        clear HB
        go_wp2_with fail
        refine (HRM.out w7).mono ?_
        rintro e w8 ⟨rfl, hb⟩
        have X8 := Lib.hid (X7.out.next hb)
        clear hb
        cases b
        · go_wp2_with fail
          refine (HGL.out w8 X8.out).mono ?_
          rintro e wA (⟨ok1, ok2, ⟨aG, cG, rfl, hsG⟩, hb⟩ | ⟨k, hbad, ⟨vP, rfl, bP, rfl, hbw, hblk⟩, hb⟩)
          · have SG := Lib.hid hsG
            have OK12 := Lib.hid (patsOK_glue ok1 ok2)
            have XA := Lib.hid (X8.out.next hb)
            have hgl := glob_few (rfl : globB l but xs = globB l but xs)
            clear hsG ok1 ok2 hb
            go_wp2_with fail
            refine (HRG.out wA XA.out).mono ?_
            rintro e wB (⟨okb, ⟨vR, rfl, hownR⟩, hb⟩ | ⟨k, hbad, rfl, hb⟩)
            · obtain ⟨aR, cR, rfl, hsR⟩ := Owned.slice hownR
              have SR := Lib.hid hsR
              have SG2 := Lib.hid (SG.out.below hb)
              have XB := Lib.hid (XA.out.next hb)
              clear okb hownR hsR hb
              go_wp2_with fail
              refine (SameTexts_any aG aR cG cR (globB l but xs) (globB l but xs) wB (by omega) (by omega) SG2.out SR.out rfl).mono ?_
              rintro e wC ⟨rfl, hb⟩
              have XC := Lib.hid (XB.out.next hb)
              clear hb
              go_wp2
              go_ret
              exact ⟨rfl, XC.out.below⟩
            · exact absurd OK12.out (bad_not hbad)
          · have PL : Hid (PlAt wA bP (k : Int) (E A 11)) := Lib.hid hblk
            have KB := Lib.hid hbad
            have XA := Lib.hid (X8.out.next hb)
            clear hbad hblk hb hbw
            go_wp2_with fail
            refine (HRG.out wA XA.out).mono ?_
            rintro e wB (⟨okb, _, _⟩ | ⟨k2, hbad2, rfl, hb⟩)
            · exact absurd okb (bad_not KB.out)
            · obtain rfl := bad_one KB.out hbad2
              have PL2 := Lib.hid (PL.out.below hb)
              have XB := Lib.hid (XA.out.next hb)
              clear hbad2 hb
              go_wp2_with fail
              refine (Placed_any 112 (k : Int) (by decide) wB).mono ?_
              rintro e wC ⟨rfl, hb⟩
              have XC := Lib.hid (XB.out.next hb)
              have hsp := Same_pl A 11 bP (k : Int) wC (by omega) XC.out.sent (PL2.out.below hb)
              rw [pl_eq] at hsp
              have HSP := Lib.hid hsp
              clear hb hsp
              go_wp2_with fail
              refine HSP.out.mono ?_
              rintro e wD ⟨rfl, hb⟩
              have XD := Lib.hid (XC.out.next hb)
              clear hb
              go_wp2
              go_ret
              exact ⟨rfl, XD.out.below⟩
        · go_wp2_with fail
          refine (HGL.out w8 X8.out).mono ?_
          rintro e wA (⟨ok1, ok2, ⟨aG, cG, rfl, hsG⟩, hb⟩ | ⟨k, hbad, ⟨vP, rfl, bP, rfl, hbw, hblk⟩, hb⟩)
          · have SG := Lib.hid hsG
            have OK12 := Lib.hid (patsOK_glue ok1 ok2)
            have XA := Lib.hid (X8.out.next hb)
            have hgl := glob_few (rfl : globB l but xs = globB l but xs)
            clear hsG ok1 ok2 hb
            go_wp2_with fail
            refine (HRG.out wA XA.out).mono ?_
            rintro e wB (⟨okb, ⟨vR, rfl, hownR⟩, hb⟩ | ⟨k, hbad, rfl, hb⟩)
            · obtain ⟨aR, cR, rfl, hsR⟩ := Owned.slice hownR
              have SR := Lib.hid hsR
              have SG2 := Lib.hid (SG.out.below hb)
              have XB := Lib.hid (XA.out.next hb)
              clear okb hownR hsR hb
              go_wp2_with fail
              refine (SameTexts_any aG aR cG cR (globB l but xs) (globB l but xs) wB (by omega) (by omega) SG2.out SR.out rfl).mono ?_
              rintro e wC ⟨rfl, hb⟩
              have XC := Lib.hid (XB.out.next hb)
              clear hb
              go_wp2
              go_ret
              exact ⟨rfl, XC.out.below⟩
            · exact absurd OK12.out (bad_not hbad)
          · have PL : Hid (PlAt wA bP (k : Int) (E A 11)) := Lib.hid hblk
            have KB := Lib.hid hbad
            have XA := Lib.hid (X8.out.next hb)
            clear hbad hblk hb hbw
            go_wp2_with fail
            refine (HRG.out wA XA.out).mono ?_
            rintro e wB (⟨okb, _, _⟩ | ⟨k2, hbad2, rfl, hb⟩)
            · exact absurd okb (bad_not KB.out)
            · obtain rfl := bad_one KB.out hbad2
              have PL2 := Lib.hid (PL.out.below hb)
              have XB := Lib.hid (XA.out.next hb)
              clear hbad2 hb
              go_wp2_with fail
              refine (Placed_any 112 (k : Int) (by decide) wB).mono ?_
              rintro e wC ⟨rfl, hb⟩
              have XC := Lib.hid (XB.out.next hb)
              have hsp := Same_pl A 11 bP (k : Int) wC (by omega) XC.out.sent (PL2.out.below hb)
              rw [pl_eq] at hsp
              have HSP := Lib.hid hsp
              clear hb hsp
              go_wp2_with fail
              refine HSP.out.mono ?_
              rintro e wD ⟨rfl, hb⟩
              have XD := Lib.hid (XC.out.next hb)
              clear hb
              go_wp2
              go_ret
              exact ⟨rfl, XD.out.below⟩

end Go.Proofs.YteokigpeaggemaaDoor
