/- What Write makes of a digest under way: it is then that of the text and what was written. Conditions: what is written lies elsewhere; fewer than 2^31 bytes in all. -/
import Derived.Test.YtffmldplchlnpaaDoorCopy
namespace Go.Proofs.YtffmldplchlnpaaDoor
open Go.RowKit

def lenV : Value → Nat
  | .slice _ n _ => n
  | _ => 0
/-- What is read lies elsewhere than the digest under way. -/
def SrcX (w : World) (sb : Nat) (ao : Option Addr) (bs : List UInt8) : Prop := 0 < bs.length → ∃ bk off, ao = some ⟨bk, off, none⟩ ∧ bk < w.heap.size ∧ bk ≠ sb ∧ At w bk off bs
theorem SrcX.src {w : World} {sb : Nat} {ao : Option Addr} {bs : List UInt8} (h : SrcX w sb ao bs) : Src w ao bs := fun hp => by
  obtain ⟨bk, off, e, h1, _, h3⟩ := h hp
  exact ⟨bk, off, e, h1, h3⟩
theorem SrcX.turned {w w' : World} {sb : Nat} {ao : Option Addr} {bs : List UInt8} (h : SrcX w sb ao bs) (ht : Turned sb w w') : SrcX w' sb ao bs := fun hp => by
  obtain ⟨bk, off, e, h1, h2, h3⟩ := h hp
  exact ⟨bk, off, e, Nat.lt_of_lt_of_le h1 ht.size, h2, h3.turned ht h1 h2⟩
theorem SrcX.drop {w : World} {sb bk off : Nat} {bs : List UInt8} (h : SrcX w sb (some ⟨bk, off, none⟩) bs) (k c : Nat) (hc : bs.length ≤ c) (hk : k ≤ bs.length) : SrcX w sb (if c = k then some ⟨bk, off, none⟩ else some ⟨bk, off + k, none⟩) (bs.drop k) := fun hp => by
  rw [List.length_drop] at hp
  obtain ⟨bk', off', e, h1, h2, h3⟩ := h (by omega)
  cases e
  rw [if_neg (by omega)]
  exact ⟨bk, off + k, rfl, h1, h2, h3.drop k⟩
theorem stateOf_end {w : World} {sb : Nat} {M rest rem : List UInt8} {n k : Nat} (h : StateAt w sb (hashN M k) (splice rest 0 rem) n) (hn : n = M.length) (hr : rem = M.drop (64 * k)) (hl : rem.length < 64) (hk : 64 * k ≤ M.length) : StateOf w sb M := by
  have e : rem.length = M.length - 64 * k := by rw [hr, List.length_drop]
  have ek : M.length / 64 = k := by omega
  have em : M.length % 64 = rem.length := by omega
  refine ⟨splice rest 0 rem, by rw [ek, ← hn]; exact h, ?_⟩
  rw [em, ek, ← hr, splice]
  simp
theorem stateOf_more {w : World} {sb : Nat} {m b rest : List UInt8} (h : StateAt w sb (hashN m (m.length / 64)) (splice rest (m.length % 64) b) (m.length + b.length)) (hR : rest.take (m.length % 64) = m.drop (64 * (m.length / 64))) (hl : m.length % 64 + b.length < 64) : StateOf w sb (m ++ b) := by
  have ek : (m ++ b).length / 64 = m.length / 64 := by rw [List.length_append]; omega
  have em : (m ++ b).length % 64 = m.length % 64 + b.length := by rw [List.length_append]; omega
  have hd := congrArg List.length hR
  rw [List.length_take, List.length_drop] at hd
  have hrl : (rest.take (m.length % 64)).length = m.length % 64 := by rw [List.length_take]; omega
  refine ⟨splice rest (m.length % 64) b, by rw [ek, hashN_append _ _ _ (by omega), List.length_append]; exact h, ?_⟩
  rw [em, ek, splice, hR, List.drop_append_of_le_length (by omega)]
  have h2 : (m.drop (64 * (m.length / 64))).length = m.length % 64 := by rw [← hR]; exact hrl
  rw [List.take_append, h2, List.take_of_length_le (by omega)]
  simp
theorem full_blk {m b rest : List UInt8} (hR : rest.take (m.length % 64) = m.drop (64 * (m.length / 64))) (h64 : rest.length = 64) (hl : 64 ≤ m.length % 64 + b.length) : splice rest (m.length % 64) (b.take (64 - m.length % 64)) = blk (m ++ b) (m.length / 64) := by
  have hq : m.length % 64 < 64 := Nat.mod_lt _ (by omega)
  have h2 : (m.drop (64 * (m.length / 64))).length = m.length % 64 := by rw [List.length_drop]; omega
  have h3 : rest.drop (m.length % 64 + (b.take (64 - m.length % 64)).length) = [] := List.drop_of_length_le (by rw [List.length_take]; omega)
  rw [splice, blk, hR, List.drop_append_of_le_length (by omega), h3, List.append_nil, List.take_append, h2, List.take_of_length_le (by omega : (m.drop (64 * (m.length / 64))).length ≤ 64)]
theorem slice_rest (sb q : Nat) (hq : q < 64) (W : World) : (Instr.sliceAt 62 (.pointer (some ⟨sb, 8, none⟩)) (some (.int .i64 (q : Int))) none none).run Tryd.prog W = .ok (.slice (some ⟨sb, 8 + q, none⟩) (64 - q) (64 - q)) W := by
  have h1 : (q : Int) ≤ 64 := by omega
  have h2 : ¬ 64 = q := by omega
  go_simp

set_option maxHeartbeats 1600000 in
theorem write_any (sb : Nat) (m b : List UInt8) (ao : Option Addr) (cap : Nat) (w : World) (hcap : b.length ≤ cap) (hlen : m.length + b.length < 2147483648)
    (hX : SrcX w sb ao b) (hS : StateOf w sb m) (hT : Tabs w) (h1 : 2 < sb) :
    Calls Tryd.prog 18 #[.pointer (some ⟨sb, 0, none⟩), .slice ao b.length cap] w fun e w' => e = .returned (.tuple #[]) ∧ StateOf w' sb (m ++ b) ∧ Turned sb w w' := by
  obtain ⟨rest, hS, hR⟩ := hS
  have hlt := hS.lt
  have hcl := hS.len
  have hfl := frozen_of_row w sb 72 _ _ hS.1
  obtain ⟨n, hn⟩ : ∃ n, m.length = n := ⟨_, rfl⟩
  rw [hn] at hcl
  have HX := hidden hX
  have HR := hidden hR
  have HT := hidden hT
  have HN := hidden hn
  obtain ⟨l, hl⟩ : ∃ l, b.length = l := ⟨_, rfl⟩
  rw [hn] at hlen
  rw [hl] at hlen hcap ⊢
  have HL := hidden hl
  have hS1 := hS.setLen (n + l)
  have hb1 := (Turned.refl sb w).setCell 72 (.int .u64 ((n + l : Nat) : Int))
  rw [Int.natCast_add] at hS1 hb1
  have HS := hidden hS1
  have HB := hidden hb1
  obtain ⟨q, hq⟩ : ∃ q : Nat, n % 64 = q := ⟨_, rfl⟩
  have hqi : (n : Int) % 64 = (q : Int) := by omega
  have HQ := hidden hq
  have hq64 : q < 64 := by omega
  clear hX hS hS1 hb1 hR hT hn hl hq
  by_cases h0 : q = 0
  · have H0 := hidden h0
    go_enter Tryd.func18, Tryd.ntmps18
    go_wp2
    have hsx : SrcX (w.setCell ⟨sb, 72, none⟩ (.int .u64 ((n : Int) + (l : Int)))) sb ao b := HX.out.turned HB.out
    generalize w.setCell ⟨sb, 72, none⟩ (.int .u64 ((n : Int) + (l : Int))) = w1 at HS HB hsx ⊢
    have HX1 := hidden hsx
    clear hsx hcl hfl h0 hqi
    have hk0 : 64 * (n / 64) = n := by have := H0.out; have := HQ.out; omega
    have HS0 : Hid (StateAt w1 sb (hashN (m ++ b) (n / 64)) rest (n + l)) := hidden (by rw [hashN_append _ _ _ (by rw [HN.out]; omega), ← HN.out]; rw [HN.out]; have := HS.out; rw [HN.out] at this; exact this)
    have HM0 : Hid (64 * (n / 64) + l = n + l ∧ b = (m ++ b).drop (64 * (n / 64))) := hidden ⟨by omega, by rw [hk0, ← HN.out]; simp⟩
    go_loopw [1] (fun v wr => ∃ (r c k : Nat) (ao' : Option Addr) (rem rest' : List UInt8), v = .slice ao' r c ∧ r ≤ c ∧ Hid (rem.length = r) ∧ Hid (SrcX wr sb ao' rem) ∧ Hid (64 * k + r = n + l ∧ rem = (m ++ b).drop (64 * k)) ∧ Hid (StateAt wr sb (hashN (m ++ b) k) rest' (n + l)) ∧ Hid (Turned sb w wr)) (fun v _ => lenV v)
    case atStart => exact ⟨l, cap, n / 64, ao, b, rest, rfl, hcap, HL, HX1, HM0, HS0, HB⟩
    case round =>
      clear HS0 HM0 HX1 HS HB HX
      obtain ⟨r, c, k, ao', rem, rest', rfl, hrc, hr, hsx, hk, hS, hb⟩ := hrel
      by_cases hge : 64 ≤ r
      · obtain ⟨bk, off, rfl, hbk, hne, hAt⟩ := hsx.out (by have := hr.out; omega)
        have HA := hidden hAt
        have hT' := hidden (HT.out.turned hb.out h1 (by omega))
        clear hAt
        have hif : Hid (SrcX wr sb (if c = 64 then some ⟨bk, off, none⟩ else some ⟨bk, off + 64, none⟩) (rem.drop 64)) := hidden (hsx.out.drop 64 c (by have := hr.out; omega) (by have := hr.out; omega))
        have hmx := hidden (fun (cp : Nat) (hcp : 64 ≤ cp) => mix_any sb (hashN (m ++ b) k) rest' (n + l) bk off cp (rem.take 64) wr (by have := hr.out; rw [List.length_take]; omega) hcp hbk (HA.out.take 64) hS.out hT'.out h1)
        by_cases hc64 : c = 64
        · rw [if_pos hc64] at hif
          go_wp2_with (go_at_call 27; refine (hmx.out _ (by omega)).mono ?_; rintro e w' ⟨rfl, hS', hb'⟩)
          have hn1 : Hid ((rem.drop 64).length = r - 64) := hidden (by rw [List.length_drop, hr.out])
          have hn2 : Hid (64 * (k + 1) + (r - 64) = n + l ∧ rem.drop 64 = (m ++ b).drop (64 * (k + 1))) := hidden ⟨by have := hk.out.1; omega, by rw [hk.out.2, List.drop_drop]; congr 1⟩
          have hn3 : Hid (StateAt w' sb (hashN (m ++ b) (k + 1)) rest' (n + l)) := hidden (by rw [hashN, blk, ← hk.out.2]; exact hS')
          go_roundw
          case rel => exact ⟨r - 64, c - 64, k + 1, _, rem.drop 64, rest', by first | rfl | rw [show c - 64 = 0 by omega], by omega, hn1, hidden (hif.out.turned hb'), hn2, hn3, hidden (hb.out.trans hb')⟩
          case measure => simp [lenV]; omega
        · rw [if_neg hc64] at hif
          go_wp2_with (go_at_call 27; refine (hmx.out _ (by omega)).mono ?_; rintro e w' ⟨rfl, hS', hb'⟩)
          have hn1 : Hid ((rem.drop 64).length = r - 64) := hidden (by rw [List.length_drop, hr.out])
          have hn2 : Hid (64 * (k + 1) + (r - 64) = n + l ∧ rem.drop 64 = (m ++ b).drop (64 * (k + 1))) := hidden ⟨by have := hk.out.1; omega, by rw [hk.out.2, List.drop_drop]; congr 1⟩
          have hn3 : Hid (StateAt w' sb (hashN (m ++ b) (k + 1)) rest' (n + l)) := hidden (by rw [hashN, blk, ← hk.out.2]; exact hS')
          go_roundw
          case rel => exact ⟨r - 64, c - 64, k + 1, _, rem.drop 64, rest', by first | rfl | rw [show c - 64 = 0 by omega], by omega, hn1, hidden (hif.out.turned hb'), hn2, hn3, hidden (hb.out.trans hb')⟩
          case measure => simp [lenV]; omega
      · obtain ⟨w', hcp, hS', hb'⟩ := copy_run wr 3 sb (hashN (m ++ b) k) rest' (n + l) 0 64 ao' r c rem hr.out hS.out hsx.out.src (by omega) r (by omega)
        have HS' := hidden hS'
        have HB' := hidden hb'
        clear hS' hb'
        go_wp2
        have hS' := HS'.out
        have hb' := HB'.out
        have hML : n + l = (m ++ b).length := by rw [List.length_append, HN.out, HL.out]
        have hfin : StateOf w' sb (m ++ b) := by
          have e := hr.out
          rw [show rem.take r = rem from List.take_of_length_le (by omega)] at hS'
          exact stateOf_end hS' hML hk.out.2 (by omega) (by have := hk.out.1; omega)
        go_end0
        exact ⟨rfl, hfin, hb.out.trans hb'⟩
  · have hsl := slice_rest sb q hq64
    obtain ⟨k1, hk1⟩ : ∃ k1, k1 = min l (64 - q) := ⟨_, rfl⟩
    have hq0 : (0 : Int) < (q : Int) := by omega
    have HS1 : StateAt (w.setCell ⟨sb, 72, none⟩ (.int .u64 ((n : Int) + (l : Int)))) sb (hashN m (n / 64)) rest (n + l) := by have := HS.out; rw [HN.out] at this; exact this
    obtain ⟨w2, hcp, hS2, hb2⟩ := copy_run (w.setCell ⟨sb, 72, none⟩ (.int .u64 ((n : Int) + (l : Int)))) 3 sb (hashN m (n / 64)) rest (n + l) q (64 - q) ao l cap b HL.out HS1 (HX.out.turned HB.out).src hq64 k1 hk1
    have HK1 := hidden hk1
    have HS2 := hidden hS2
    have HB2 := hidden hb2
    have hl64 : rest.length = 64 := HS1.2.2
    have HR' : rest.take (m.length % 64) = m.drop (64 * (m.length / 64)) := HR.out
    have h64 := hidden hl64
    have hR2 := hidden HR'
    have hk2 : k1 ≤ l := by omega
    have hk3 : k1 ≤ 64 - q := by omega
    clear hS2 hb2 HS1 hl64 HR' hk1
    by_cases hfull : q + k1 < 64
    · have hkl : Hid (k1 = l) := hidden (by have := HK1.out; omega)
      go_enter Tryd.func18, Tryd.ntmps18
      go_wp2
      have hfin : StateOf w2 sb (m ++ b) := by
        have hS := HS2.out
        rw [hkl.out, List.take_of_length_le (by rw [HL.out]; omega), ← HQ.out, ← HL.out, ← HN.out] at hS
        exact stateOf_more hS hR2.out (by rw [HN.out, HQ.out, HL.out]; have := hkl.out; omega)
      refine bodyPost_ret (results_none rfl _ _ _) rfl ?_
      exact ⟨rfl, hfin, HB.out.trans HB2.out⟩
    · have hkl : Hid (k1 = 64 - q) := hidden (by omega)
      obtain ⟨bk, off, rfl, hbk, hne, hAt⟩ := HX.out (by rw [HL.out]; have := hkl.out; omega)
      have hif : Hid (SrcX w sb (if cap = k1 then some ⟨bk, off, none⟩ else some ⟨bk, off + k1, none⟩) (b.drop k1)) := hidden (HX.out.drop k1 cap (by rw [HL.out]; omega) (by rw [HL.out]; omega))
      have hblk : splice rest q (b.take k1) = blk (m ++ b) (n / 64) := by
        have := full_blk (b := b) hR2.out h64.out (by rw [HN.out, HQ.out, HL.out]; have := hkl.out; omega)
        rw [HN.out, HQ.out] at this
        rw [hkl.out]
        exact this
      have hT2 := hidden (HT.out.turned (HB.out.trans HB2.out) h1 (by omega))
      have hmx := hidden (mix_any sb (hashN m (n / 64)) (splice rest q (b.take k1)) (n + l) sb 8 64 (splice rest q (b.take k1)) w2 HS2.out.2.2 (by omega) HS2.out.lt HS2.out.rest HS2.out hT2.out h1)
      have HM0 : Hid (64 * (n / 64 + 1) + (l - k1) = n + l ∧ b.drop k1 = (m ++ b).drop (64 * (n / 64 + 1))) := hidden ⟨by have := HQ.out; have := hkl.out; omega, by
        have hd : 64 * (n / 64 + 1) = m.length + k1 := by have := HQ.out; have := hkl.out; have := HN.out; omega
        rw [hd, ← List.drop_drop]
        simp⟩
      have HBlk := hidden hblk
      clear hAt hblk
      have hk0 : 0 < k1 := by have := hkl.out; omega
      by_cases hcap' : cap = k1
      · rw [if_pos hcap'] at hif
        subst cap
        go_enter Tryd.func18, Tryd.ntmps18
        go_wp2_with (go_at_call 27; refine hmx.out.mono ?_; rintro e w3 ⟨rfl, hS3, hb3⟩)
        have HS3 : Hid (StateAt w3 sb (hashN (m ++ b) (n / 64 + 1)) (splice rest q (b.take k1)) (n + l)) := hidden (by rw [hashN, hashN_append _ _ _ (by rw [HN.out]; omega), ← HBlk.out]; exact hS3)
        have HIF := hidden (hif.out.turned (HB.out.trans (HB2.out.trans hb3)))
        have HB3 := hidden (HB.out.trans (HB2.out.trans hb3))
        clear hif HS HB HB2 hb3 hmx hS3 hsl hcp HS2 hT2
        go_wp2
        go_loopw [1] (fun v wr => ∃ (r c k : Nat) (ao' : Option Addr) (rem rest' : List UInt8), v = .slice ao' r c ∧ r ≤ c ∧ Hid (rem.length = r) ∧ Hid (SrcX wr sb ao' rem) ∧ Hid (64 * k + r = n + l ∧ rem = (m ++ b).drop (64 * k)) ∧ Hid (StateAt wr sb (hashN (m ++ b) k) rest' (n + l)) ∧ Hid (Turned sb w wr)) (fun v _ => lenV v)
        case atStart => exact ⟨l - k1, k1 - k1, n / 64 + 1, _, b.drop k1, splice rest q (b.take k1), by first | rfl | rw [show k1 - k1 = 0 by omega, show l - k1 = 0 by omega] | rw [show k1 - k1 = 0 by omega], by omega, hidden (by rw [List.length_drop, HL.out]), HIF, HM0, HS3, HB3⟩
        case round =>
          clear HS3 HM0 HIF HB3 HX
          obtain ⟨r, c, k, ao', rem, rest', rfl, hrc, hr, hsx, hk, hS, hb⟩ := hrel
          by_cases hge : 64 ≤ r
          · obtain ⟨bk, off, rfl, hbk, hne, hAt⟩ := hsx.out (by have := hr.out; omega)
            have HA := hidden hAt
            have hT' := hidden (HT.out.turned hb.out h1 (by omega))
            clear hAt
            have hif : Hid (SrcX wr sb (if c = 64 then some ⟨bk, off, none⟩ else some ⟨bk, off + 64, none⟩) (rem.drop 64)) := hidden (hsx.out.drop 64 c (by have := hr.out; omega) (by have := hr.out; omega))
            have hmx := hidden (fun (cp : Nat) (hcp : 64 ≤ cp) => mix_any sb (hashN (m ++ b) k) rest' (n + l) bk off cp (rem.take 64) wr (by have := hr.out; rw [List.length_take]; omega) hcp hbk (HA.out.take 64) hS.out hT'.out h1)
            by_cases hc64 : c = 64
            · rw [if_pos hc64] at hif
              go_wp2_with (go_at_call 27; refine (hmx.out _ (by omega)).mono ?_; rintro e w' ⟨rfl, hS', hb'⟩)
              have hn1 : Hid ((rem.drop 64).length = r - 64) := hidden (by rw [List.length_drop, hr.out])
              have hn2 : Hid (64 * (k + 1) + (r - 64) = n + l ∧ rem.drop 64 = (m ++ b).drop (64 * (k + 1))) := hidden ⟨by have := hk.out.1; omega, by rw [hk.out.2, List.drop_drop]; congr 1⟩
              have hn3 : Hid (StateAt w' sb (hashN (m ++ b) (k + 1)) rest' (n + l)) := hidden (by rw [hashN, blk, ← hk.out.2]; exact hS')
              go_roundw
              case rel => exact ⟨r - 64, c - 64, k + 1, _, rem.drop 64, rest', by first | rfl | rw [show c - 64 = 0 by omega], by omega, hn1, hidden (hif.out.turned hb'), hn2, hn3, hidden (hb.out.trans hb')⟩
              case measure => simp [lenV]; omega
            · rw [if_neg hc64] at hif
              go_wp2_with (go_at_call 27; refine (hmx.out _ (by omega)).mono ?_; rintro e w' ⟨rfl, hS', hb'⟩)
              have hn1 : Hid ((rem.drop 64).length = r - 64) := hidden (by rw [List.length_drop, hr.out])
              have hn2 : Hid (64 * (k + 1) + (r - 64) = n + l ∧ rem.drop 64 = (m ++ b).drop (64 * (k + 1))) := hidden ⟨by have := hk.out.1; omega, by rw [hk.out.2, List.drop_drop]; congr 1⟩
              have hn3 : Hid (StateAt w' sb (hashN (m ++ b) (k + 1)) rest' (n + l)) := hidden (by rw [hashN, blk, ← hk.out.2]; exact hS')
              go_roundw
              case rel => exact ⟨r - 64, c - 64, k + 1, _, rem.drop 64, rest', by first | rfl | rw [show c - 64 = 0 by omega], by omega, hn1, hidden (hif.out.turned hb'), hn2, hn3, hidden (hb.out.trans hb')⟩
              case measure => simp [lenV]; omega
          · obtain ⟨w', hcp, hS', hb'⟩ := copy_run wr 3 sb (hashN (m ++ b) k) rest' (n + l) 0 64 ao' r c rem hr.out hS.out hsx.out.src (by omega) r (by omega)
            have HS' := hidden hS'
            have HB' := hidden hb'
            clear hS' hb'
            go_wp2
            have hS' := HS'.out
            have hb' := HB'.out
            have hML : n + l = (m ++ b).length := by rw [List.length_append, HN.out, HL.out]
            have hfin : StateOf w' sb (m ++ b) := by
              have e := hr.out
              rw [show rem.take r = rem from List.take_of_length_le (by omega)] at hS'
              exact stateOf_end hS' hML hk.out.2 (by omega) (by have := hk.out.1; omega)
            go_end0
            exact ⟨rfl, hfin, hb.out.trans hb'⟩
      · rw [if_neg hcap'] at hif
        go_enter Tryd.func18, Tryd.ntmps18
        go_wp2_with (go_at_call 27; refine hmx.out.mono ?_; rintro e w3 ⟨rfl, hS3, hb3⟩)
        have HS3 : Hid (StateAt w3 sb (hashN (m ++ b) (n / 64 + 1)) (splice rest q (b.take k1)) (n + l)) := hidden (by rw [hashN, hashN_append _ _ _ (by rw [HN.out]; omega), ← HBlk.out]; exact hS3)
        have HIF := hidden (hif.out.turned (HB.out.trans (HB2.out.trans hb3)))
        have HB3 := hidden (HB.out.trans (HB2.out.trans hb3))
        clear hif HS HB HB2 hb3 hmx hS3 hsl hcp HS2 hT2
        go_wp2
        go_loopw [1] (fun v wr => ∃ (r c k : Nat) (ao' : Option Addr) (rem rest' : List UInt8), v = .slice ao' r c ∧ r ≤ c ∧ Hid (rem.length = r) ∧ Hid (SrcX wr sb ao' rem) ∧ Hid (64 * k + r = n + l ∧ rem = (m ++ b).drop (64 * k)) ∧ Hid (StateAt wr sb (hashN (m ++ b) k) rest' (n + l)) ∧ Hid (Turned sb w wr)) (fun v _ => lenV v)
        case atStart => exact ⟨l - k1, cap - k1, n / 64 + 1, _, b.drop k1, splice rest q (b.take k1), by first | rfl | rw [show cap - k1 = 0 by omega, show l - k1 = 0 by omega] | rw [show cap - k1 = 0 by omega], by omega, hidden (by rw [List.length_drop, HL.out]), HIF, HM0, HS3, HB3⟩
        case round =>
          clear HS3 HM0 HIF HB3 HX
          obtain ⟨r, c, k, ao', rem, rest', rfl, hrc, hr, hsx, hk, hS, hb⟩ := hrel
          by_cases hge : 64 ≤ r
          · obtain ⟨bk, off, rfl, hbk, hne, hAt⟩ := hsx.out (by have := hr.out; omega)
            have HA := hidden hAt
            have hT' := hidden (HT.out.turned hb.out h1 (by omega))
            clear hAt
            have hif : Hid (SrcX wr sb (if c = 64 then some ⟨bk, off, none⟩ else some ⟨bk, off + 64, none⟩) (rem.drop 64)) := hidden (hsx.out.drop 64 c (by have := hr.out; omega) (by have := hr.out; omega))
            have hmx := hidden (fun (cp : Nat) (hcp : 64 ≤ cp) => mix_any sb (hashN (m ++ b) k) rest' (n + l) bk off cp (rem.take 64) wr (by have := hr.out; rw [List.length_take]; omega) hcp hbk (HA.out.take 64) hS.out hT'.out h1)
            by_cases hc64 : c = 64
            · rw [if_pos hc64] at hif
              go_wp2_with (go_at_call 27; refine (hmx.out _ (by omega)).mono ?_; rintro e w' ⟨rfl, hS', hb'⟩)
              have hn1 : Hid ((rem.drop 64).length = r - 64) := hidden (by rw [List.length_drop, hr.out])
              have hn2 : Hid (64 * (k + 1) + (r - 64) = n + l ∧ rem.drop 64 = (m ++ b).drop (64 * (k + 1))) := hidden ⟨by have := hk.out.1; omega, by rw [hk.out.2, List.drop_drop]; congr 1⟩
              have hn3 : Hid (StateAt w' sb (hashN (m ++ b) (k + 1)) rest' (n + l)) := hidden (by rw [hashN, blk, ← hk.out.2]; exact hS')
              go_roundw
              case rel => exact ⟨r - 64, c - 64, k + 1, _, rem.drop 64, rest', by first | rfl | rw [show c - 64 = 0 by omega], by omega, hn1, hidden (hif.out.turned hb'), hn2, hn3, hidden (hb.out.trans hb')⟩
              case measure => simp [lenV]; omega
            · rw [if_neg hc64] at hif
              go_wp2_with (go_at_call 27; refine (hmx.out _ (by omega)).mono ?_; rintro e w' ⟨rfl, hS', hb'⟩)
              have hn1 : Hid ((rem.drop 64).length = r - 64) := hidden (by rw [List.length_drop, hr.out])
              have hn2 : Hid (64 * (k + 1) + (r - 64) = n + l ∧ rem.drop 64 = (m ++ b).drop (64 * (k + 1))) := hidden ⟨by have := hk.out.1; omega, by rw [hk.out.2, List.drop_drop]; congr 1⟩
              have hn3 : Hid (StateAt w' sb (hashN (m ++ b) (k + 1)) rest' (n + l)) := hidden (by rw [hashN, blk, ← hk.out.2]; exact hS')
              go_roundw
              case rel => exact ⟨r - 64, c - 64, k + 1, _, rem.drop 64, rest', by first | rfl | rw [show c - 64 = 0 by omega], by omega, hn1, hidden (hif.out.turned hb'), hn2, hn3, hidden (hb.out.trans hb')⟩
              case measure => simp [lenV]; omega
          · obtain ⟨w', hcp, hS', hb'⟩ := copy_run wr 3 sb (hashN (m ++ b) k) rest' (n + l) 0 64 ao' r c rem hr.out hS.out hsx.out.src (by omega) r (by omega)
            have HS' := hidden hS'
            have HB' := hidden hb'
            clear hS' hb'
            go_wp2
            have hS' := HS'.out
            have hb' := HB'.out
            have hML : n + l = (m ++ b).length := by rw [List.length_append, HN.out, HL.out]
            have hfin : StateOf w' sb (m ++ b) := by
              have e := hr.out
              rw [show rem.take r = rem from List.take_of_length_le (by omega)] at hS'
              exact stateOf_end hS' hML hk.out.2 (by omega) (by have := hk.out.1; omega)
            go_end0
            exact ⟨rfl, hfin, hb.out.trans hb'⟩
end Go.Proofs.YtffmldplchlnpaaDoor
