/- smithylaw1.PathGlobs answers true at every three lists of texts and every text. Conditions: internal/bytealg.MaxLen holds some number, smithy/api.ErrPath an error. -/
import Derived.Test.YteokigpeaggemaaDoorGlobsPlain
import Derived.Sort.Walk0
import Derived.Deep.QuietTactic
import Derived.BigQuiet
import Derived.IntWalk
namespace Go.Proofs.YteokigpeaggemaaDoor
open Go.RowKit

/-- What path.Glob leaves where each pattern is one. -/
def yesPost (A : List ByteArray) (w : World) (e : Ending) (w' : World) : Prop :=
  ∃ ao cap, e = .returned (.tuple #[.slice ao A.length cap, .nilIface]) ∧ SliceOf w' ao cap A ∧ Below w.heap.size w w'
/-- .. and where one is none. -/
def noPost (w : World) (e : Ending) (w' : World) : Prop :=
  ∃ b, e = .returned (.tuple #[.slice none 0 0, .iface 89 (.pointer (some ⟨b, 0, none⟩))]) ∧ Below w.heap.size w w'
/-- What holds of every world on the way. -/
structure GCtx (ev : Value) (a1 a2 a3 : Option Addr) (c1 c2 c3 : Nat) (l but xs : List ByteArray) (w0 W : World) : Prop where
  ready : Ready ev W
  l1 : SliceOf W a1 c1 l
  l2 : SliceOf W a2 c2 but
  l3 : SliceOf W a3 c3 xs
  below : Below w0.heap.size w0 W
theorem GCtx.next {ev : Value} {a1 a2 a3 : Option Addr} {c1 c2 c3 : Nat} {l but xs : List ByteArray} {w0 W W' : World} (h : GCtx ev a1 a2 a3 c1 c2 c3 l but xs w0 W) (hb : Below W.heap.size W W') : GCtx ev a1 a2 a3 c1 c2 c3 l but xs w0 W' :=
  ⟨h.ready.below hb, h.l1.below hb, h.l2.below hb, h.l3.below hb, h.below.trans (hb.mono h.below.size)⟩
theorem GCtx.rest {ev : Value} {a1 a2 a3 : Option Addr} {c1 c2 c3 : Nat} {l but xs : List ByteArray} {w0 W : World} (h : GCtx ev a1 a2 a3 c1 c2 c3 l but xs w0 W) : GCtx ev a1 a2 a3 c1 c2 c3 l but xs W W := ⟨h.ready, h.l1, h.l2, h.l3, Below.refl _ _⟩
def small (xs : List ByteArray) (n : Nat) : Prop := xs.length ≤ n ∧ ∀ x ∈ xs, x.size ≤ 100
theorem Glob_yes (A : List ByteArray) (et : TypeId) (ex : Value) (a1 a2 a3 : Option Addr) (c1 c2 c3 : Nat) (l but xs : List ByteArray) (w : World) (s1 : small l 1000) (s2 : small but 1000) (s3 : small xs 1000)
    (h1 : SliceOf w a1 c1 l) (h2 : SliceOf w a2 c2 but) (h3 : SliceOf w a3 c3 xs) (hR : Ready (.iface et ex) w) (hA : globB l but xs = A) (p1 : patsOK l l.length) (p2 : patsOK but but.length) :
    Calls Tryd.prog 28 #[.slice a1 l.length c1, .slice a2 but.length c2, .slice a3 xs.length c3] w (yesPost A w) := by
  subst hA
  refine (Glob_any et ex a1 a2 a3 c1 c2 c3 l but xs w (by have := s1.1; omega) (by have := s2.1; omega) (by have := s3.1; omega) (fun x hx => by have := s1.2 x hx; omega) (fun x hx => by have := s2.2 x hx; omega) (fun x hx => by have := s3.2 x hx; omega) h1 h2 h3 hR).mono ?_
  rintro e w' (⟨_, _, ⟨ao, cap, rfl, h⟩, hb⟩ | ⟨k, hk, _⟩)
  · exact ⟨ao, cap, rfl, h, hb⟩
  · exact absurd (patsOK_glue p1 p2) (bad_not hk)
theorem Glob_no (et : TypeId) (ex : Value) (a1 a2 a3 : Option Addr) (c1 c2 c3 : Nat) (l but xs : List ByteArray) (w : World) (s1 : small l 1000) (s2 : small but 1000) (s3 : small xs 1000)
    (h1 : SliceOf w a1 c1 l) (h2 : SliceOf w a2 c2 but) (h3 : SliceOf w a3 c3 xs) (hR : Ready (.iface et ex) w) (p : ¬ (patsOK l l.length ∧ patsOK but but.length)) :
    Calls Tryd.prog 28 #[.slice a1 l.length c1, .slice a2 but.length c2, .slice a3 xs.length c3] w (noPost w) := by
  refine (Glob_any et ex a1 a2 a3 c1 c2 c3 l but xs w (by have := s1.1; omega) (by have := s2.1; omega) (by have := s3.1; omega) (fun x hx => by have := s1.2 x hx; omega) (fun x hx => by have := s2.2 x hx; omega) (fun x hx => by have := s3.2 x hx; omega) h1 h2 h3 hR).mono ?_
  rintro e w' (⟨p1, p2, _⟩ | ⟨k, _, ⟨v, rfl, b, rfl, _⟩, hb⟩)
  · exact absurd ⟨p1, p2⟩ p
  · exact ⟨b, rfl, hb⟩
theorem match_yes (et : TypeId) (ex : Value) (m x : ByteArray) (W : World) (hm : m.size ≤ 100) (hx : x.size ≤ 100) (hR : Ready (.iface et ex) W) (hQ : Pth.splitOK Pth.patOK m.data.toList = true) (b : Bool) (hb : matchB m.data.toList x.data.toList = b) :
    Calls Tryd.prog 25 #[.string m, .string x] W fun e w' => e = .returned (.tuple #[.bool b, .nilIface]) ∧ Below W.heap.size W w' := by
  refine (Match_any (.iface et ex) m x W (by omega) (by omega) hR).mono ?_
  rintro e w' ⟨rfl, h⟩
  exact ⟨by rw [if_pos hQ, hb], h⟩
theorem match_no (et : TypeId) (ex : Value) (m x : ByteArray) (W : World) (hm : m.size ≤ 100) (hx : x.size ≤ 100) (hR : Ready (.iface et ex) W) (hQ : ¬ Pth.splitOK Pth.patOK m.data.toList = true) :
    Calls Tryd.prog 25 #[.string m, .string x] W fun e w' => e = .returned (.tuple #[.bool false, .iface et ex]) ∧ Below W.heap.size W w' := by
  refine (Match_any (.iface et ex) m x W (by omega) (by omega) hR).mono ?_
  rintro e w' ⟨rfl, h⟩
  exact ⟨by rw [if_neg hQ], h⟩
theorem small_snoc {l : List ByteArray} {m : ByteArray} (h : small l 6) (hm : m.size ≤ 100) : small (l ++ [m]) 1000 :=
  ⟨by have := h.1; simp; omega, fun x hx => by
    rcases List.mem_append.1 hx with h1 | h1
    · exact h.2 x h1
    · obtain rfl : x = m := by simpa using h1
      exact hm⟩
theorem small.wide {xs : List ByteArray} {n : Nat} (h : small xs n) (hn : n ≤ 1000) : small xs 1000 := ⟨Nat.le_trans h.1 hn, h.2⟩

set_option maxRecDepth 100000 in
set_option maxHeartbeats 1600000 in
theorem PathGlobs_any (et : TypeId) (ex : Value) (a1 a2 a3 : Option Addr) (c1 c2 c3 : Nat) (l but xs : List ByteArray) (m : ByteArray) (w : World) (hX : GCtx (.iface et ex) a1 a2 a3 c1 c2 c3 l but xs w w) :
    Calls Tryd.prog 8 #[.slice a1 l.length c1, .slice a2 but.length c2, .slice a3 xs.length c3, .string m] w (saysB w.heap.size w true) := by
  have HF := Lib.hid (first_any _ _ w hX.ready)
  by_cases hl : 6 < l.length
  · go_enter Tryd.func8, Tryd.ntmps8
    go_wp2_with (go_at_call 9; refine HF.out.mono ?_; rintro e w1 ⟨rfl, hb1⟩)
    go_ret
    exact ⟨rfl, hb1⟩
  by_cases hbu : 6 < but.length
  · go_enter Tryd.func8, Tryd.ntmps8
    go_wp2_with (go_at_call 9; refine HF.out.mono ?_; rintro e w1 ⟨rfl, hb1⟩)
    go_ret
    exact ⟨rfl, hb1⟩
  by_cases hxs : 20 < xs.length
  · go_enter Tryd.func8, Tryd.ntmps8
    go_wp2_with (go_at_call 9; refine HF.out.mono ?_; rintro e w1 ⟨rfl, hb1⟩)
    go_ret
    exact ⟨rfl, hb1⟩
  by_cases hm : 100 < m.size
  · go_enter Tryd.func8, Tryd.ntmps8
    go_wp2_with (go_at_call 9; refine HF.out.mono ?_; rintro e w1 ⟨rfl, hb1⟩)
    go_ret
    exact ⟨rfl, hb1⟩
  go_enter Tryd.func8, Tryd.ntmps8
  go_wp2_with fail
  refine HF.out.mono ?_
  rintro e w1 ⟨rfl, hb1⟩
  have X1 := Lib.hid (hX.next hb1)
  clear HF hb1 hX
  go_wp2_with fail
  refine (Texts_any a1 c1 l w1 (by omega) X1.out.l1).mono ?_
  rintro e w2 ⟨v2, rfl, hown, hb⟩
  have hz2 := hb.size
  have B2 := Lib.hid hb
  have O2 := Lib.hid hown
  clear hb hown
  go_wp2_with (first
    | (at_builtin; refine append_texts w2 rfl (.tmp 48) (.tmp 49) rfl w1.heap.size _ l but rfl O2.out a2 c2 rfl (X1.out.l2.below B2.out) (by omega) hz2 ?_; intro v3 w3 hown3 hb3 hz3; have O3 := Lib.hid hown3; have B3 := Lib.hid (B2.out.trans hb3); clear hown3 hb3)
    | (at_builtin; refine append_texts w3 rfl (.tmp 50) (.tmp 51) rfl w1.heap.size _ (l ++ but) xs rfl O3.out a3 c3 rfl (X1.out.l3.below B3.out) (by simp; omega) (by omega) ?_; intro v4 w4 hown hb hz4; have X4 := Lib.hid (X1.out.next (B3.out.trans hb)); obtain ⟨a4, c4, rfl, hs4⟩ := Owned.slice hown; obtain ⟨ys, hys⟩ : ∃ ys, l ++ but ++ xs = ys := ⟨_, rfl⟩; rw [hys] at hs4 ⊢; have hyl : ys.length ≤ 32 := (by rw [← hys]; simp; omega); have HY := Lib.hid hys; have S4 := Lib.hid hs4; clear hb hown hs4 hys))
  go_loop [11] (fun i => ∃ k : Nat, k ≤ ys.length ∧ i = .int .i64 k ∧ Hid (∀ j (hj : j < ys.length), j < k → ys[j].size ≤ 100)) (fun i => ys.length - (intOf i).toNat)
  case atStart => exact ⟨0, Nat.zero_le _, rfl, Lib.hid fun _ _ h => absurd h (by omega)⟩
  case round =>
    obtain ⟨k, hk, rfl, hsm⟩ := hrel
    by_cases hlt : k < ys.length
    · rcases S4.out with h0 | ⟨bk, o, rfl, h2, h3, h4⟩
      · rw [h0] at hlt; exact absurd hlt (by simp)
      · have hcell := h4 k _ (List.getElem?_eq_getElem hlt)
        clear h4
        by_cases hbig : 100 < ys[k].size
        · go_wp2_with fail
          go_ret
          exact ⟨rfl, X4.out.below⟩
        · have hsm' : Hid (∀ j (hj : j < ys.length), j < k + 1 → ys[j].size ≤ 100) := Lib.hid fun j hj hjk => by
            by_cases e : j = k
            · subst e; omega
            · exact hsm.out j hj (by omega)
          clear hsm
          go_wp2_with fail
          go_round
          case rel => exact ⟨k + 1, by omega, by go_num, hsm'⟩
          case measure => simp [intOf]; omega
    · obtain rfl : k = ys.length := by omega
      have hall : ∀ x ∈ l ++ but ++ xs, x.size ≤ 100 := by
        rw [HY.out]
        intro x hx
        obtain ⟨j, hj, rfl⟩ := List.getElem_of_mem hx
        exact hsm.out j hj hj
      have S1 : Hid (small l 6) := Lib.hid ⟨by omega, fun x hx => hall x (by simp [hx])⟩
      have S2 : Hid (small but 6) := Lib.hid ⟨by omega, fun x hx => hall x (by simp [hx])⟩
      have S3 : Hid (small xs 20) := Lib.hid ⟨by omega, fun x hx => hall x (by simp [hx])⟩
      clear hsm hall
      obtain ⟨lm, hlm⟩ : ∃ lm, l ++ [m] = lm := ⟨_, rfl⟩
      obtain ⟨bm, hbm⟩ : ∃ bm, but ++ [m] = bm := ⟨_, rfl⟩
      have SM1 : Hid (small lm 1000) := Lib.hid (hlm ▸ small_snoc S1.out (by omega))
      have SM2 : Hid (small bm 1000) := Lib.hid (hbm ▸ small_snoc S2.out (by omega))
      have lmE := Lib.hid hlm
      have bmE := Lib.hid hbm
      clear hlm hbm
      by_cases hP : patsOK l l.length ∧ patsOK but but.length
      · obtain ⟨As, hA⟩ : ∃ As, globB l but xs = As := ⟨_, rfl⟩
        have HA := Lib.hid hA
        have PA1 := Lib.hid hP.1
        have PA2 := Lib.hid hP.2
        clear hA hP
        by_cases hQ : Pth.splitOK Pth.patOK m.data.toList = true
        · obtain ⟨Bs, hB⟩ : ∃ Bs, globB lm but xs = Bs := ⟨_, rfl⟩
          obtain ⟨Cs, hC⟩ : ∃ Cs, globB l bm xs = Cs := ⟨_, rfl⟩
          have HB := Lib.hid hB
          have HC := Lib.hid hC
          have HQ := Lib.hid hQ
          have PB1 : Hid (patsOK lm lm.length) := Lib.hid (lmE.out ▸ patsOK_glue PA1.out (patsOK_one.2 hQ))
          have PB2 := PA2
          have PC1 := PA1
          have PC2 : Hid (patsOK bm bm.length) := Lib.hid (bmE.out ▸ patsOK_glue PA2.out (patsOK_one.2 hQ))
          clear hB hC hQ
          go_wp2_with fail
          refine (Glob_yes As et ex a1 a2 a3 c1 c2 c3 l but xs w4 (S1.out.wide (by omega)) (S2.out.wide (by omega)) (S3.out.wide (by omega)) X4.out.l1 X4.out.l2 X4.out.l3 X4.out.ready HA.out PA1.out PA2.out).mono ?_
          rintro e w5 ⟨aA, cA, rfl, hs, hb⟩
          have SLA := Lib.hid hs
          have B5 := Lib.hid (X4.out.next hb).below
          have X5 := Lib.hid (X4.out.next hb).rest
          clear hs hb
          go_wp2_with fail
          refine (Texts_any a1 c1 l w5 (by omega) X5.out.l1).mono ?_
          rintro e w6 ⟨v6, rfl, hown, hb⟩
          have hz6 := hb.size
          have BB6 := Lib.hid hb
          have O6 := Lib.hid (Owned.below hown ((Below.refl _ _).alloc (Nat.le_refl _) (.cells #[.string m] 9)))
          clear hown hb
          go_wp2_with (at_builtin; refine append_texts (w6.alloc (.cells #[.string m] 9)) rfl (.tmp 74) (.tmp 76) rfl w5.heap.size _ l [m] rfl O6.out _ 1 rfl (one_slice w6 m) (by simp; omega) (by simp; omega) ?_; intro vv6 ww6 hown hb hzz; have XX6 := Lib.hid (X5.out.next ((BB6.out.alloc hz6 _).trans hb)); rw [lmE.out] at hown; obtain ⟨aa6, cc6, rfl, hs⟩ := Owned.slice hown; have SS6 := Lib.hid hs; clear hown hb hs hzz O6)
          refine (Glob_yes Bs et ex aa6 a2 a3 cc6 c2 c3 lm but xs ww6 SM1.out (S2.out.wide (by omega)) (S3.out.wide (by omega)) SS6.out XX6.out.l2 XX6.out.l3 XX6.out.ready HB.out PB1.out PB2.out).mono ?_
          rintro e w8 ⟨aB, cB, rfl, hs, hb⟩
          have SLB := Lib.hid hs
          have B8 := Lib.hid (XX6.out.next hb).below
          have X8 := Lib.hid (XX6.out.next hb).rest
          clear hs hb
          go_wp2_with fail
          refine (Texts_any a2 c2 but w8 (by omega) X8.out.l2).mono ?_
          rintro e w9 ⟨v9, rfl, hown, hb⟩
          have hz9 := hb.size
          have BB9 := Lib.hid hb
          have O9 := Lib.hid (Owned.below hown ((Below.refl _ _).alloc (Nat.le_refl _) (.cells #[.string m] 9)))
          clear hown hb
          go_wp2_with (at_builtin; refine append_texts (w9.alloc (.cells #[.string m] 9)) rfl (.tmp 86) (.tmp 88) rfl w8.heap.size _ but [m] rfl O9.out _ 1 rfl (one_slice w9 m) (by simp; omega) (by simp; omega) ?_; intro vv9 ww9 hown hb hzz; have XX9 := Lib.hid (X8.out.next ((BB9.out.alloc hz9 _).trans hb)); rw [bmE.out] at hown; obtain ⟨aa9, cc9, rfl, hs⟩ := Owned.slice hown; have SS9 := Lib.hid hs; clear hown hb hs hzz O9)
          refine (Glob_yes Cs et ex a1 aa9 a3 c1 cc9 c3 l bm xs ww9 (S1.out.wide (by omega)) SM2.out (S3.out.wide (by omega)) XX9.out.l1 SS9.out XX9.out.l3 XX9.out.ready HC.out PC1.out PC2.out).mono ?_
          rintro e w11 ⟨aC, cC, rfl, hs, hb⟩
          have SLC := Lib.hid hs
          have B11 := Lib.hid (XX9.out.next hb).below
          have X11 := Lib.hid (XX9.out.next hb).rest
          have B := Lib.hid (B5.out.trans ((B8.out.trans (B11.out.mono B8.out.size)).mono B5.out.size))
          clear hs hb
          go_wp2_with fail
          have SA11 := Lib.hid (SLA.out.below (B8.out.trans (B11.out.mono B8.out.size)))
          have SB11 := Lib.hid (SLB.out.below B11.out)
          have SC11 := SLC
          obtain ⟨fb, fc, FL⟩ := more_facts (B := Bs) (C := Cs) (m := m) HA.out (by rw [lmE.out]; exact HB.out) (by rw [bmE.out]; exact HC.out)
          have FB := Lib.hid fb
          have FC := Lib.hid fc
          clear fb fc
          have FA1 := Lib.hid (glob_facts HA.out).1
          have FA2 := Lib.hid (glob_facts HA.out).2
          have FA3 := Lib.hid (glob_small HA.out S3.out.2)
          have hBl : Bs.length ≤ 20 := by have := glob_few HB.out; omega
          have hCl : Cs.length ≤ 20 := by have := glob_few HC.out; omega
          have hAl : As.length ≤ 20 := by have := glob_few HA.out; omega
          go_loopw [18] (fun i wr => ∃ k : Nat, k ≤ As.length ∧ i = .int .i64 k ∧ Hid (Below w11.heap.size w11 wr)) (fun i _ => As.length - (intOf i).toNat)
          case atStart => exact ⟨0, Nat.zero_le _, rfl, Lib.hid (Below.refl _ _)⟩
          case round =>
            obtain ⟨k, hk, rfl, hb⟩ := hrel
            by_cases hlt : k < As.length
            · rcases SA11.out.below hb.out with h0 | ⟨bk, o, rfl, h2, h3, h4⟩
              · rw [h0] at hlt; exact absurd hlt (by simp)
              · have hcell := h4 k _ (List.getElem?_eq_getElem hlt)
                have hi1 := FA1.out k hlt
                have HQ1 : Hid (∀ n, Calls Tryd.prog 33 #[.slice a3 xs.length c3, .string As[k]] (wr.drewN n) fun e w' => e = .returned (.int .i64 (amongI xs As[k])) ∧ w' = wr.drewN n) := Lib.hid fun n => Among_any a3 c3 xs As[k] _ (by omega) (X11.out.next hb.out).l3
                have XR := Lib.hid (X11.out.next hb.out)
                have HM : Hid (∀ W, Ready (.iface et ex) W → Calls Tryd.prog 25 #[.string m, .string As[k]] W fun e w' => e = .returned (.tuple #[.bool (decide (amongI Cs As[k] < 0)), .nilIface]) ∧ Below W.heap.size W w') := Lib.hid fun W hW => match_yes et ex m As[k] W (by omega) (FA3.out k hlt) hW HQ.out _ (FC.out k hlt).symm
                have FA2k := Lib.hid (FA2.out k hlt)
                generalize amongI xs As[k] = i1 at hi1 HQ1
                have hi2 := FB.out k hlt
                have HQ2 : Hid (∀ n, Calls Tryd.prog 33 #[.slice aB Bs.length cB, .string As[k]] (wr.drewN n) fun e w' => e = .returned (.int .i64 (amongI Bs As[k])) ∧ w' = wr.drewN n) := Lib.hid fun n => (have h := SB11.out.below hb.out; Among_any aB cB Bs As[k] _ (by omega) h)
                have HQ3 : Hid (∀ W, Below w11.heap.size w11 W → Calls Tryd.prog 33 #[.slice aC Cs.length cC, .string As[k]] W fun e w' => e = .returned (.int .i64 (amongI Cs As[k])) ∧ w' = W) := Lib.hid fun W hW => Among_any aC cC Cs As[k] _ (by omega) (SC11.out.below hW)
                generalize amongI Bs As[k] = i2 at hi2 HQ2
                generalize amongI Cs As[k] = i3 at HM HQ3
                have d5 : decide (i2 < 0) = false := by simpa using hi2
                have d1 : decide (i1 < 0) = false := by simpa using hi1
                by_cases hk0 : k = 0
                · subst hk0
                  clear h4
                  have hcell0 : wr.cell? ⟨bk, o, none⟩ = some (.string As[0]) := hcell
                  clear hcell
                  generalize As[0] = x at *
                  go_wp2_with fail
                  go_quiet ((first | (go_at_call 33; with_reducible exact Calls.quiet_of_same (HQ1.out _)) | (go_at_call 33; with_reducible exact Calls.quiet_of_same (HQ2.out _))))
                  go_wp2_with fail
                  refine (HM.out _ (XR.out.next (below_drewN (Below.refl _ _) _)).ready).mono ?_
                  rintro e w12 ⟨rfl, hb2⟩
                  have HB2 := Lib.hid (hb.out.trans ((below_drewN (Below.refl _ _) nq).trans (hb2.mono (Nat.le_refl _)) |>.mono hb.out.size))
                  have hc12 : w12.cell? ⟨bk, o, none⟩ = some (.string x) := (hb2.cell (p := ⟨bk, o, none⟩) h3).trans hcell0
                  clear hb2
                  have HQ4 := Lib.hid (HQ3.out _ HB2.out)
                  by_cases hi3 : i3 < 0
                  · have hd3 := decide_eq_true hi3
                    rw [hd3]
                    go_wp2_with fail
                    refine HQ4.out.mono ?_
                    rintro e w13 ⟨rfl, rfl⟩
                    go_wp2_with fail
                    go_roundw
                    case rel => exact ⟨1, by omega, by go_num, HB2⟩
                    case measure => simp [intOf]; omega
                  · have hd3 := decide_eq_false hi3
                    rw [hd3]
                    go_wp2_with fail
                    refine HQ4.out.mono ?_
                    rintro e w13 ⟨rfl, rfl⟩
                    go_wp2_with fail
                    go_roundw
                    case rel => exact ⟨1, by omega, by go_num, HB2⟩
                    case measure => simp [intOf]; omega
                · have hc1 := h4 (k - 1) _ (List.getElem?_eq_getElem (by omega))
                  have FA2k' := FA2k.out (by omega)
                  have e1 : IntKind.i64.wrap ((k : Int) - 1) = (k : Int) - 1 := IntWalk.i64_in _ ⟨by omega, by omega⟩
                  have d0 : decide (0 < (k : Int)) = true := decide_eq_true (by omega)
                  have d2 : 1 ≤ (k : Int) := by omega
                  have d3 : 0 < k := by omega
                  have e2 : ((k : Int) - 1).toNat = k - 1 := by omega
                  clear h4
                  generalize As[k] = x at *
                  generalize As[k - 1] = y at *
                  go_wp2_with fail
                  go_quiet ((first | (go_at_call 33; with_reducible exact Calls.quiet_of_same (HQ1.out _)) | (go_at_call 33; with_reducible exact Calls.quiet_of_same (HQ2.out _))))
                  go_wp2_with fail
                  refine (HM.out _ (XR.out.next (below_drewN (Below.refl _ _) _)).ready).mono ?_
                  rintro e w12 ⟨rfl, hb2⟩
                  have HB2 := Lib.hid (hb.out.trans ((below_drewN (Below.refl _ _) nq).trans (hb2.mono (Nat.le_refl _)) |>.mono hb.out.size))
                  have hc12 : w12.cell? ⟨bk, o + k, none⟩ = some (.string x) := (hb2.cell (p := ⟨bk, o + k, none⟩) h3).trans hcell
                  clear hb2
                  have HQ4 := Lib.hid (HQ3.out _ HB2.out)
                  by_cases hi3 : i3 < 0
                  · have hd3 := decide_eq_true hi3
                    rw [hd3]
                    go_wp2_with fail
                    refine HQ4.out.mono ?_
                    rintro e w13 ⟨rfl, rfl⟩
                    go_wp2_with fail
                    go_roundw
                    case rel => exact ⟨k + 1, by omega, by go_num, HB2⟩
                    case measure => simp [intOf]; omega
                  · have hd3 := decide_eq_false hi3
                    rw [hd3]
                    go_wp2_with fail
                    refine HQ4.out.mono ?_
                    rintro e w13 ⟨rfl, rfl⟩
                    go_wp2_with fail
                    go_roundw
                    case rel => exact ⟨k + 1, by omega, by go_num, HB2⟩
                    case measure => simp [intOf]; omega
            · obtain rfl : k = As.length := by omega
              go_wp2_with fail
              go_quiet (fail)
              go_wp2
              go_ret
              exact ⟨ret_bool (by simp), below_drewN (B.out.trans (hb.out.mono B.out.size)) _⟩
        · have NB : Hid (¬ (patsOK lm lm.length ∧ patsOK but but.length)) := Lib.hid fun h => hQ (patsOK_one.1 (patsOK_split (lmE.out ▸ h.1)).2)
          have NC : Hid (¬ (patsOK l l.length ∧ patsOK bm bm.length)) := Lib.hid fun h => hQ (patsOK_one.1 (patsOK_split (bmE.out ▸ h.2)).2)
          have HQ := Lib.hid hQ
          clear hQ
          go_wp2_with fail
          refine (Glob_yes As et ex a1 a2 a3 c1 c2 c3 l but xs w4 (S1.out.wide (by omega)) (S2.out.wide (by omega)) (S3.out.wide (by omega)) X4.out.l1 X4.out.l2 X4.out.l3 X4.out.ready HA.out PA1.out PA2.out).mono ?_
          rintro e w5 ⟨aA, cA, rfl, hs, hb⟩
          have SLA := Lib.hid hs
          have B5 := Lib.hid (X4.out.next hb).below
          have X5 := Lib.hid (X4.out.next hb).rest
          clear hs hb
          go_wp2_with fail
          refine (Texts_any a1 c1 l w5 (by omega) X5.out.l1).mono ?_
          rintro e w6 ⟨v6, rfl, hown, hb⟩
          have hz6 := hb.size
          have BB6 := Lib.hid hb
          have O6 := Lib.hid (Owned.below hown ((Below.refl _ _).alloc (Nat.le_refl _) (.cells #[.string m] 9)))
          clear hown hb
          go_wp2_with (at_builtin; refine append_texts (w6.alloc (.cells #[.string m] 9)) rfl (.tmp 74) (.tmp 76) rfl w5.heap.size _ l [m] rfl O6.out _ 1 rfl (one_slice w6 m) (by simp; omega) (by simp; omega) ?_; intro vv6 ww6 hown hb hzz; have XX6 := Lib.hid (X5.out.next ((BB6.out.alloc hz6 _).trans hb)); rw [lmE.out] at hown; obtain ⟨aa6, cc6, rfl, hs⟩ := Owned.slice hown; have SS6 := Lib.hid hs; clear hown hb hs hzz O6)
          refine (Glob_no et ex aa6 a2 a3 cc6 c2 c3 lm but xs ww6 SM1.out (S2.out.wide (by omega)) (S3.out.wide (by omega)) SS6.out XX6.out.l2 XX6.out.l3 XX6.out.ready NB.out).mono ?_
          rintro e w8 ⟨bB, rfl, hb⟩
          have B8 := Lib.hid (XX6.out.next hb).below
          have X8 := Lib.hid (XX6.out.next hb).rest
          clear hb
          go_wp2_with fail
          refine (Texts_any a2 c2 but w8 (by omega) X8.out.l2).mono ?_
          rintro e w9 ⟨v9, rfl, hown, hb⟩
          have hz9 := hb.size
          have BB9 := Lib.hid hb
          have O9 := Lib.hid (Owned.below hown ((Below.refl _ _).alloc (Nat.le_refl _) (.cells #[.string m] 9)))
          clear hown hb
          go_wp2_with (at_builtin; refine append_texts (w9.alloc (.cells #[.string m] 9)) rfl (.tmp 86) (.tmp 88) rfl w8.heap.size _ but [m] rfl O9.out _ 1 rfl (one_slice w9 m) (by simp; omega) (by simp; omega) ?_; intro vv9 ww9 hown hb hzz; have XX9 := Lib.hid (X8.out.next ((BB9.out.alloc hz9 _).trans hb)); rw [bmE.out] at hown; obtain ⟨aa9, cc9, rfl, hs⟩ := Owned.slice hown; have SS9 := Lib.hid hs; clear hown hb hs hzz O9)
          refine (Glob_no et ex a1 aa9 a3 c1 cc9 c3 l bm xs ww9 (S1.out.wide (by omega)) SM2.out (S3.out.wide (by omega)) XX9.out.l1 SS9.out XX9.out.l3 XX9.out.ready NC.out).mono ?_
          rintro e w11 ⟨bC, rfl, hb⟩
          have B11 := Lib.hid (XX9.out.next hb).below
          have X11 := Lib.hid (XX9.out.next hb).rest
          have B := Lib.hid (B5.out.trans ((B8.out.trans (B11.out.mono B8.out.size)).mono B5.out.size))
          clear hb
          go_wp2_with fail
          have SA11 := Lib.hid (SLA.out.below (B8.out.trans (B11.out.mono B8.out.size)))
          have FA1 := Lib.hid (glob_facts HA.out).1
          have FA2 := Lib.hid (glob_facts HA.out).2
          have FA3 := Lib.hid (glob_small HA.out S3.out.2)
          have hAl : As.length ≤ 20 := by have := glob_few HA.out; omega
          go_loopw [18] (fun i wr => ∃ k : Nat, k ≤ As.length ∧ i = .int .i64 k ∧ Hid (Below w11.heap.size w11 wr)) (fun i _ => As.length - (intOf i).toNat)
          case atStart => exact ⟨0, Nat.zero_le _, rfl, Lib.hid (Below.refl _ _)⟩
          case round =>
            obtain ⟨k, hk, rfl, hb⟩ := hrel
            by_cases hlt : k < As.length
            · rcases SA11.out.below hb.out with h0 | ⟨bk, o, rfl, h2, h3, h4⟩
              · rw [h0] at hlt; exact absurd hlt (by simp)
              · have hcell := h4 k _ (List.getElem?_eq_getElem hlt)
                have hi1 := FA1.out k hlt
                have HQ1 : Hid (∀ n, Calls Tryd.prog 33 #[.slice a3 xs.length c3, .string As[k]] (wr.drewN n) fun e w' => e = .returned (.int .i64 (amongI xs As[k])) ∧ w' = wr.drewN n) := Lib.hid fun n => Among_any a3 c3 xs As[k] _ (by omega) (X11.out.next hb.out).l3
                have XR := Lib.hid (X11.out.next hb.out)
                have HM : Hid (∀ W, Ready (.iface et ex) W → Calls Tryd.prog 25 #[.string m, .string As[k]] W fun e w' => e = .returned (.tuple #[.bool false, .iface et ex]) ∧ Below W.heap.size W w') := Lib.hid fun W hW => match_no et ex m As[k] W (by omega) (FA3.out k hlt) hW HQ.out
                have FA2k := Lib.hid (FA2.out k hlt)
                generalize amongI xs As[k] = i1 at hi1 HQ1
                have d1 : decide (i1 < 0) = false := by simpa using hi1
                by_cases hk0 : k = 0
                · subst hk0
                  clear h4
                  have hcell0 : wr.cell? ⟨bk, o, none⟩ = some (.string As[0]) := hcell
                  clear hcell
                  generalize As[0] = x at *
                  go_wp2_with fail
                  go_quiet ((go_at_call 33; exact Calls.quiet_of_same (HQ1.out _)))
                  go_wp2_with fail
                  refine (HM.out _ (XR.out.next (below_drewN (Below.refl _ _) _)).ready).mono ?_
                  rintro e w12 ⟨rfl, hb2⟩
                  have HB2 := Lib.hid (hb.out.trans ((below_drewN (Below.refl _ _) nq).trans (hb2.mono (Nat.le_refl _)) |>.mono hb.out.size))
                  clear hb2
                  go_wp2_with fail
                  go_roundw
                  case rel => exact ⟨1, by omega, by go_num, HB2⟩
                  case measure => simp [intOf]; omega
                · have hc1 := h4 (k - 1) _ (List.getElem?_eq_getElem (by omega))
                  have FA2k' := FA2k.out (by omega)
                  have e1 : IntKind.i64.wrap ((k : Int) - 1) = (k : Int) - 1 := IntWalk.i64_in _ ⟨by omega, by omega⟩
                  have d0 : decide (0 < (k : Int)) = true := decide_eq_true (by omega)
                  have d2 : 1 ≤ (k : Int) := by omega
                  have d3 : 0 < k := by omega
                  have e2 : ((k : Int) - 1).toNat = k - 1 := by omega
                  clear h4
                  generalize As[k] = x at *
                  generalize As[k - 1] = y at *
                  go_wp2_with fail
                  go_quiet ((go_at_call 33; exact Calls.quiet_of_same (HQ1.out _)))
                  go_wp2_with fail
                  refine (HM.out _ (XR.out.next (below_drewN (Below.refl _ _) _)).ready).mono ?_
                  rintro e w12 ⟨rfl, hb2⟩
                  have HB2 := Lib.hid (hb.out.trans ((below_drewN (Below.refl _ _) nq).trans (hb2.mono (Nat.le_refl _)) |>.mono hb.out.size))
                  clear hb2
                  go_wp2_with fail
                  go_roundw
                  case rel => exact ⟨k + 1, by omega, by go_num, HB2⟩
                  case measure => simp [intOf]; omega
            · obtain rfl : k = As.length := by omega
              go_wp2_with fail
              go_quiet (fail)
              go_wp2
              go_ret
              exact ⟨ret_bool (by simp), below_drewN (B.out.trans (hb.out.mono B.out.size)) _⟩
      · have NA := Lib.hid hP
        have NB : Hid (¬ (patsOK lm lm.length ∧ patsOK but but.length)) := Lib.hid fun h => NA.out ⟨(patsOK_split (lmE.out ▸ h.1)).1, h.2⟩
        have NC : Hid (¬ (patsOK l l.length ∧ patsOK bm bm.length)) := Lib.hid fun h => NA.out ⟨h.1, (patsOK_split (bmE.out ▸ h.2)).1⟩
        clear hP
        go_wp2_with fail
        refine (Glob_no et ex a1 a2 a3 c1 c2 c3 l but xs w4 (S1.out.wide (by omega)) (S2.out.wide (by omega)) (S3.out.wide (by omega)) X4.out.l1 X4.out.l2 X4.out.l3 X4.out.ready NA.out).mono ?_
        rintro e w5 ⟨bA, rfl, hb⟩
        have B5 := Lib.hid (X4.out.next hb).below
        have X5 := Lib.hid (X4.out.next hb).rest
        clear hb
        go_wp2_with fail
        refine (Texts_any a1 c1 l w5 (by omega) X5.out.l1).mono ?_
        rintro e w6 ⟨v6, rfl, hown, hb⟩
        have hz6 := hb.size
        have BB6 := Lib.hid hb
        have O6 := Lib.hid (Owned.below hown ((Below.refl _ _).alloc (Nat.le_refl _) (.cells #[.string m] 9)))
        clear hown hb
        go_wp2_with (at_builtin; refine append_texts (w6.alloc (.cells #[.string m] 9)) rfl (.tmp 74) (.tmp 76) rfl w5.heap.size _ l [m] rfl O6.out _ 1 rfl (one_slice w6 m) (by simp; omega) (by simp; omega) ?_; intro vv6 ww6 hown hb hzz; have XX6 := Lib.hid (X5.out.next ((BB6.out.alloc hz6 _).trans hb)); rw [lmE.out] at hown; obtain ⟨aa6, cc6, rfl, hs⟩ := Owned.slice hown; have SS6 := Lib.hid hs; clear hown hb hs hzz O6)
        refine (Glob_no et ex aa6 a2 a3 cc6 c2 c3 lm but xs ww6 SM1.out (S2.out.wide (by omega)) (S3.out.wide (by omega)) SS6.out XX6.out.l2 XX6.out.l3 XX6.out.ready NB.out).mono ?_
        rintro e w8 ⟨bB, rfl, hb⟩
        have B8 := Lib.hid (XX6.out.next hb).below
        have X8 := Lib.hid (XX6.out.next hb).rest
        clear hb
        go_wp2_with fail
        refine (Texts_any a2 c2 but w8 (by omega) X8.out.l2).mono ?_
        rintro e w9 ⟨v9, rfl, hown, hb⟩
        have hz9 := hb.size
        have BB9 := Lib.hid hb
        have O9 := Lib.hid (Owned.below hown ((Below.refl _ _).alloc (Nat.le_refl _) (.cells #[.string m] 9)))
        clear hown hb
        go_wp2_with (at_builtin; refine append_texts (w9.alloc (.cells #[.string m] 9)) rfl (.tmp 86) (.tmp 88) rfl w8.heap.size _ but [m] rfl O9.out _ 1 rfl (one_slice w9 m) (by simp; omega) (by simp; omega) ?_; intro vv9 ww9 hown hb hzz; have XX9 := Lib.hid (X8.out.next ((BB9.out.alloc hz9 _).trans hb)); rw [bmE.out] at hown; obtain ⟨aa9, cc9, rfl, hs⟩ := Owned.slice hown; have SS9 := Lib.hid hs; clear hown hb hs hzz O9)
        refine (Glob_no et ex a1 aa9 a3 c1 cc9 c3 l bm xs ww9 (S1.out.wide (by omega)) SM2.out (S3.out.wide (by omega)) XX9.out.l1 SS9.out XX9.out.l3 XX9.out.ready NC.out).mono ?_
        rintro e w11 ⟨bC, rfl, hb⟩
        have B11 := Lib.hid (XX9.out.next hb).below
        have X11 := Lib.hid (XX9.out.next hb).rest
        have B := Lib.hid (B5.out.trans ((B8.out.trans (B11.out.mono B8.out.size)).mono B5.out.size))
        clear hb
        go_wp2_with fail
        go_ret
        exact ⟨rfl, B.out⟩

end Go.Proofs.YteokigpeaggemaaDoor
