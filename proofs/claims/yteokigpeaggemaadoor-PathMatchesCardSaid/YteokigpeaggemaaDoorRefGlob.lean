/- What smithyref1.Glob answers at every list of patterns and of paths: the same as path.Glob. Conditions: fewer than 2^20 texts of at most 1000 bytes. -/
import Derived.Test.YteokigpeaggemaaDoorSorted
import Derived.Test.YteokigpeaggemaaDoorRefPattern
namespace Go.Proofs.YteokigpeaggemaaDoor
open Go.RowKit

def oneB (x p : ByteArray) : Bool := partsB (Pth.parts x.data.toList) (Pth.parts p.data.toList) && Pth.splitOK Pth.partOK p.data.toList
def wantR (l but : List ByteArray) (p : ByteArray) : Bool := l.any (oneB · p) && !but.any (oneB · p)
theorem want_same (l but : List ByteArray) (p : ByteArray) : want8 l but p.data.toList = wantR l but p := by
  unfold want8 wantR anyB oneB
  rw [toB_data]
  cases Pth.splitOK Pth.partOK p.data.toList <;> simp
theorem and_no {a t y : Bool} (h : (a && !t) = false) : false = (a && !(t || y)) := by revert h; cases a <;> cases t <;> cases y <;> simp
theorem and_yes {a t y : Bool} (h : (a && !t) = true) : (!y) = (a && !(t || y)) := by revert h; cases a <;> cases t <;> cases y <;> simp
theorem ret_b {a b : Bool} (h : a = b) : Value.bool a = .bool b := by rw [h]
theorem any_next (xs : List ByteArray) (f : ByteArray → Bool) (k : Nat) (h : k < xs.length) : (xs.take (k + 1)).any f = ((xs.take k).any f || f xs[k]) := by
  rw [List.take_succ_eq_append_getElem h, List.any_append]
  simp
def refGlobPost (l but xs : List ByteArray) (w : World) (e : Ending) (w' : World) : Prop :=
  (patsOK (l ++ but) (l ++ but).length ∧ (∃ v, e = .returned (.tuple #[v, .int .i64 (-1)]) ∧ Owned w' w.heap.size v (globB l but xs)) ∧ Below w.heap.size w w') ∨
  (∃ k : Nat, badAt (l ++ but) k ∧ e = .returned (.tuple #[.slice none 0 0, .int .i64 (k : Int)]) ∧ Below w.heap.size w w')
theorem in_compact {ls : List (List UInt8)} {q : List UInt8} (h : q ∈ ls) : q ∈ Lib.compact ls := by
  obtain ⟨j, hj, rfl⟩ := List.getElem_of_mem h
  unfold Lib.compact Lib.compactUpTo
  rw [List.mem_map]
  induction j with
  | zero =>
    refine ⟨0, List.mem_filter.2 ⟨by simpa using hj, by simp [Lib.keeps]⟩, ?_⟩
    rw [getElem!_pos _ _ (by simpa using hj)]; simp
  | succ j ih =>
    by_cases e : ls[j + 1] = ls[j]
    · rw [e]
      exact ih (by omega) (List.getElem_mem _)
    · refine ⟨j + 1, List.mem_filter.2 ⟨by simpa using hj, Lib.keeps_pos ?_⟩, ?_⟩
      · rw [getElem!_pos _ _ (by simpa using hj), getElem!_pos _ _ (by simp; omega)]
        simpa using e
      · rw [getElem!_pos _ _ (by simpa using hj)]; simp
theorem mem_tidy_iff {xs : List ByteArray} {x : ByteArray} : x.data.toList ∈ tidy8 xs ↔ x ∈ xs := by
  constructor
  · intro h
    obtain ⟨y, hy, e⟩ := mem_tidy h
    rw [text_inj e]; exact hy
  · intro h
    refine in_compact ?_
    unfold sorted8
    rw [List.mem_mergeSort]
    exact List.mem_map_of_mem h
theorem glob_is {l but xs R : List ByteArray} (h : Rising R) (hm : ∀ x, x ∈ R ↔ x ∈ xs.filter (wantR l but)) : R = globB l but xs := by
  refine h.eq ?_ fun x => ?_
  · unfold globB Rising
    rw [List.pairwise_map]
    have := (compact_up (sorted_up (xs.map (·.data.toList)))).filter (want8 l but)
    refine this.imp fun h => ?_
    rw [toB_list, toB_list]; exact h
  · rw [hm, mem_glob, List.mem_filter, want_same, mem_tidy_iff]

set_option maxRecDepth 100000 in
set_option maxHeartbeats 1600000 in
theorem refGlob_any (a1 a2 a3 : Option Addr) (c1 c2 c3 : Nat) (l but xs : List ByteArray) (w : World) (hn1 : l.length < 1048576) (hn2 : but.length < 1048576) (hn3 : xs.length < 1048576)
    (hl : ∀ x ∈ l, x.size ≤ 1000) (hbut : ∀ x ∈ but, x.size ≤ 1000) (hxs : ∀ x ∈ xs, x.size ≤ 1000) (h1 : SliceOf w a1 c1 l) (h2 : SliceOf w a2 c2 but) (h3 : SliceOf w a3 c3 xs) :
    Calls Tryd.prog 29 #[.slice a1 l.length c1, .slice a2 but.length c2, .slice a3 xs.length c3] w (refGlobPost l but xs w) := by
  have HL := Lib.hid hl
  have HBU := Lib.hid hbut
  have HX := Lib.hid hxs
  have H1 := Lib.hid h1
  have H2 := Lib.hid h2
  have H3 := Lib.hid h3
  clear hl hbut hxs h1 h2 h3
  go_enter Tryd.func29, Tryd.ntmps29
  go_wp2_with fail
  refine (Texts_any a1 c1 l w (by omega) H1.out).mono ?_
  rintro e w1 ⟨v1, rfl, hown, hb⟩
  have O1 := Lib.hid hown
  have B1 := Lib.hid hb
  have hz1 := hb.size
  clear hown hb
  go_wp2_with (at_builtin; refine append_texts w1 rfl (.tmp 16) (.tmp 17) rfl w.heap.size _ l but rfl O1.out a2 c2 rfl (H2.out.below B1.out) (by omega) hz1 ?_; intro v2 w2 hown hb hz2; obtain ⟨a4, c4, rfl, hs4⟩ := Owned.slice hown; obtain ⟨ys, hys⟩ : ∃ ys, l ++ but = ys := ⟨_, rfl⟩; rw [hys] at hs4 ⊢; have hyl : ys.length < 2147483648 := (by rw [← hys]; simp; omega); have HY := Lib.hid hys; have S4 := Lib.hid hs4; have B2 := Lib.hid (B1.out.trans hb); clear hb hown hs4 hys)
  have HYS : Hid (∀ j (h : j < ys.length), ys[j].size ≤ 1000) := Lib.hid fun j h => by
    have hm : ys[j] ∈ l ++ but := by rw [HY.out]; exact List.getElem_mem h
    rcases List.mem_append.1 hm with h1 | h1
    · exact HL.out _ h1
    · exact HBU.out _ h1
  go_loopw [9] (fun i wr => ∃ k : Nat, k ≤ ys.length ∧ i = .int .i64 k ∧ Hid (patsOK ys k) ∧ Hid (Below w2.heap.size w2 wr)) (fun i _ => ys.length - (intOf i).toNat)
  case atStart => exact ⟨0, Nat.zero_le _, rfl, Lib.hid fun _ _ h => absurd h (by omega), Lib.hid (Below.refl _ _)⟩
  case round =>
    obtain ⟨k, hk, rfl, hok, hb⟩ := hrel
    by_cases hlt : k < ys.length
    · rcases S4.out.below hb.out with h0 | ⟨bk, o, rfl, g2, g3, g4⟩
      · rw [h0] at hlt; exact absurd hlt (by simp)
      · have hcell := g4 k _ (List.getElem?_eq_getElem hlt)
        clear g4
        have HP := Lib.hid (refPattern_any ys[k] wr (by have := HYS.out k hlt; omega))
        have BW : Hid (∀ W, Below wr.heap.size wr W → Below w.heap.size w W) := Lib.hid fun W hW => B2.out.trans ((hb.out.trans (hW.mono hb.out.size)).mono B2.out.size)
        have BZ : Hid (∀ W, Below wr.heap.size wr W → Below w2.heap.size w2 W) := Lib.hid fun W hW => hb.out.trans (hW.mono hb.out.size)
        cases hp : Pth.splitOK Pth.patOK ys[k].data.toList
        · rw [hp] at HP
          have HN := Lib.hid hp
          clear hp
          go_wp2_with fail
          refine HP.out.mono ?_
          rintro e w3 ⟨rfl, hb3⟩
          go_wp2
          go_ret2
          exact .inr ⟨k, by rw [HY.out]; exact ⟨hlt, hok.out, HN.out⟩, rfl, BW.out _ hb3⟩
        · rw [hp] at HP
          have hok' : Hid (patsOK ys (k + 1)) := Lib.hid fun j hj hjk => by
            by_cases e : j = k
            · subst e; exact hp
            · exact hok.out j hj (by omega)
          clear hp
          go_wp2_with fail
          refine HP.out.mono ?_
          rintro e w3 ⟨rfl, hb3⟩
          have B3 := Lib.hid (BZ.out _ hb3)
          clear hb3
          go_wp2
          go_roundw
          case rel => exact ⟨k + 1, by omega, by go_num, hok', B3⟩
          case measure => simp [intOf]; omega
    · obtain rfl : k = ys.length := by omega
      have HOK : Hid (patsOK (l ++ but) (l ++ but).length) := Lib.hid (by rw [HY.out]; exact hok.out)
      have BB := Lib.hid (B2.out.trans (hb.out.mono B2.out.size))
      have hzz := BB.out.size
      go_wp2_with fail
      obtain ⟨wo, rfl⟩ : ∃ wo : World, wo = wr := ⟨_, rfl⟩
      go_loopw [10, 11] (fun v i wz => ∃ k : Nat, ∃ fs : List ByteArray, k ≤ xs.length ∧ i = .int .i64 k ∧ Hid (fs = (xs.take k).filter (wantR l but)) ∧ fs.length ≤ k ∧ Hid (Owned wz w.heap.size v fs) ∧ Hid (Below w.heap.size w wz)) (fun _ i _ => xs.length - (intOf i).toNat)
      case atStart => exact ⟨0, [], Nat.zero_le _, rfl, Lib.hid rfl, Nat.zero_le _, Lib.hid (World.ownsRow_nil _ _ _ _), BB⟩
      case round =>
        obtain ⟨i, fs, hk, rfl, hfs, hfk, hown, hb⟩ := hrel
        by_cases hlt : i < xs.length
        · rcases H3.out.below hb.out with h0 | ⟨b3, o3, rfl, g2, g3, g4⟩
          · rw [h0] at hlt; exact absurd hlt (by simp)
          have hcp := g4 i _ (List.getElem?_eq_getElem hlt)
          clear g4
          have hps := HX.out _ (List.getElem_mem hlt)
          have HSN : Hid ((xs.take (i + 1)).filter (wantR l but) = fs ++ if wantR l but xs[i] then [xs[i]] else []) := Lib.hid (by rw [filter_snoc _ _ _ hlt, hfs.out])
          generalize xs[i] = p at hcp hps HSN
          have BP : Hid (∀ W, Below wr.heap.size wr W → Below w.heap.size w W) := Lib.hid fun W hW => hb.out.trans (hW.mono hb.out.size)
          go_wp2_with fail
          obtain ⟨wp, rfl⟩ : ∃ wp : World, wp = wr := ⟨_, rfl⟩
          go_loopw [12, 13] (fun v j wz => ∃ k : Nat, k ≤ l.length ∧ j = .int .i64 k ∧ v = .bool ((l.take k).any (oneB · p)) ∧ Hid (Below wp.heap.size wp wz)) (fun _ j _ => l.length - (intOf j).toNat)
          case atStart => exact ⟨0, Nat.zero_le _, rfl, rfl, Lib.hid (Below.refl _ _)⟩
          case round =>
            obtain ⟨k, hk1, rfl, rfl, hbz⟩ := hrel
            by_cases hkl : k < l.length
            · rcases H1.out.below (BP.out _ hbz.out) with h0 | ⟨bl, ol, rfl, f2, f3, f4⟩
              · rw [h0] at hkl; exact absurd hkl (by simp)
              · have hcl := f4 k _ (List.getElem?_eq_getElem hkl)
                clear f4
                have hcp2 := (hbz.out.cell (p := ⟨b3, o3 + i, none⟩) g3).trans hcp
                have HNX := Lib.hid (any_next l (oneB · p) k hkl)
                have HM := Lib.hid (fun W => refMatch_any l[k] p W (HL.out _ (List.getElem_mem hkl)) hps)
                have hun : (partsB (Pth.parts l[k].data.toList) (Pth.parts p.data.toList) && Pth.splitOK Pth.partOK p.data.toList) = oneB l[k] p := rfl
                rw [hun] at HM
                clear hun
                generalize l[k] = x at hcl HNX HM
                cases hf : (l.take k).any (oneB · p)
                · have HF := Lib.hid hf
                  clear hf
                  go_wp2_with fail
                  go_still_tail 10, (by kernel_rfl)
                  change wpList _ _ _ _ _ wr.drew
                  have hbd : Hid (Below wp.heap.size wp wr.drew) := Lib.hid hbz.out.drew
                  clear hcl hcp2
                  generalize wr.drew = wd at hbd ⊢
                  go_wp2_with fail
                  refine (HM.out _).mono ?_
                  rintro e w5 ⟨rfl, hb5⟩
                  have B5 := Lib.hid (hbd.out.trans (hb5.mono hbd.out.size))
                  clear hb5
                  go_wp2
                  go_roundw
                  case rel => exact ⟨k + 1, by omega, by go_num, ret_b (by rw [HNX.out, HF.out]; simp), B5⟩
                  case measure => simp [intOf]; omega
                · have HF := Lib.hid hf
                  clear hf
                  go_wp2_with fail
                  go_quiet (fail)
                  go_wp2
                  go_roundw
                  case rel => exact ⟨k + 1, by omega, by go_num, ret_b (by rw [HNX.out, HF.out]; simp), Lib.hid (below_drewN hbz.out _)⟩
                  case measure => simp [intOf]; omega
            · obtain rfl : k = l.length := by omega
              rw [List.take_length]
              have hwq := hbz.out
              go_wp2_with fail
              obtain ⟨wq, rfl⟩ : ∃ wq : World, wq = wr := ⟨_, rfl⟩
              go_loopw [12, 14] (fun v j wz => ∃ k : Nat, k ≤ but.length ∧ j = .int .i64 k ∧ v = .bool (l.any (oneB · p) && !(but.take k).any (oneB · p)) ∧ Hid (Below wp.heap.size wp wz)) (fun _ j _ => but.length - (intOf j).toNat)
              case atStart => exact ⟨0, Nat.zero_le _, rfl, ret_b (by simp), Lib.hid hwq⟩
              case round =>
                obtain ⟨k, hk1, rfl, rfl, hbz⟩ := hrel
                by_cases hkl : k < but.length
                · rcases H2.out.below (BP.out _ hbz.out) with h0 | ⟨bl, ol, rfl, f2, f3, f4⟩
                  · rw [h0] at hkl; exact absurd hkl (by simp)
                  · have hcl := f4 k _ (List.getElem?_eq_getElem hkl)
                    clear f4
                    have hcp2 := (hbz.out.cell (p := ⟨b3, o3 + i, none⟩) g3).trans hcp
                    have HNX := Lib.hid (any_next but (oneB · p) k hkl)
                    have HM := Lib.hid (fun W => refMatch_any but[k] p W (HBU.out _ (List.getElem_mem hkl)) hps)
                    have hun : (partsB (Pth.parts but[k].data.toList) (Pth.parts p.data.toList) && Pth.splitOK Pth.partOK p.data.toList) = oneB but[k] p := rfl
                    rw [hun] at HM
                    clear hun
                    generalize but[k] = x at hcl HNX HM
                    cases hf : l.any (oneB · p) && !(but.take k).any (oneB · p)
                    · have HF := Lib.hid hf
                      clear hf
                      go_wp2_with fail
                      go_quiet (fail)
                      go_wp2
                      go_roundw
                      case rel => exact ⟨k + 1, by omega, by go_num, ret_b (by rw [HNX.out]; exact and_no HF.out), Lib.hid (below_drewN hbz.out _)⟩
                      case measure => simp [intOf]; omega
                    · have HF := Lib.hid hf
                      clear hf
                      go_wp2_with fail
                      go_still_tail 10, (by kernel_rfl)
                      change wpList _ _ _ _ _ wr.drew
                      have hbd : Hid (Below wp.heap.size wp wr.drew) := Lib.hid hbz.out.drew
                      clear hcl hcp2
                      generalize wr.drew = wd at hbd ⊢
                      go_wp2_with fail
                      refine (HM.out _).mono ?_
                      rintro e w5 ⟨rfl, hb5⟩
                      have B5 := Lib.hid (hbd.out.trans (hb5.mono hbd.out.size))
                      clear hb5
                      go_wp2
                      go_roundw
                      case rel => exact ⟨k + 1, by omega, by go_num, ret_b (by rw [HNX.out]; exact and_yes HF.out), B5⟩
                      case measure => simp [intOf]; omega
                · obtain rfl : k = but.length := by omega
                  have HIN : Hid (wantR l but p = (l.any (oneB · p) && !but.any (oneB · p))) := Lib.hid rfl
                  rw [List.take_length, ← HIN.out]
                  have hbF := BP.out _ hbz.out
                  have OF := Lib.hid (Owned.below hown.out hbz.out)
                  have BF := Lib.hid (hb.out.trans (hbz.out.mono hb.out.size))
                  have hzF := BF.out.size
                  have hcp2 := (hbz.out.cell (p := ⟨b3, o3 + i, none⟩) g3).trans hcp
                  cases hw : wantR l but p
                  · have HW := Lib.hid hw
                    clear hw
                    go_wp2_with fail
                    go_roundw
                    case rel => exact ⟨i + 1, fs, by omega, by go_num, Lib.hid (by rw [HSN.out, HW.out]; simp), by omega, OF, BF⟩
                    case measure => simp [intOf]; omega
                  · have HW := Lib.hid hw
                    clear hw
                    go_wp2_with (at_builtin; refine append_texts (wr.alloc (.cells #[.string p] 9)) rfl (.tmp 76) (.tmp 81) rfl w.heap.size _ fs [p] rfl (Owned.below OF.out ((Below.refl _ _).alloc (Nat.le_refl _) _)) _ 1 rfl (one_slice wr p) (by simp; omega) (by simp; omega) ?_; intro v7 w7 hown7 hb7 hz7; have O7 := Lib.hid hown7; have B7 := Lib.hid ((BF.out.alloc hzF _).trans hb7); clear hown7 hb7)
                    go_roundw
                    case rel => exact ⟨i + 1, fs ++ [p], by omega, by go_num, Lib.hid (by rw [HSN.out, HW.out]; simp), by simp; omega, O7, B7⟩
                    case measure => simp [intOf]; omega
        · obtain rfl : i = xs.length := by omega
          have HFX : Hid (fs = xs.filter (wantR l but)) := Lib.hid (by rw [hfs.out, List.take_length])
          obtain ⟨a9, c9, rfl, hs9⟩ := hown.out.slice
          have HS9 := Lib.hid hs9
          clear hs9
          go_wp2_with fail
          refine (SortedTexts_any a9 c9 fs wr (by omega) HS9.out).mono ?_
          rintro e w8 ⟨v8, R, rfl, hown8, hup, hmem, hb8⟩
          have O8 := Lib.hid (hown8.base hb.out.size)
          have HR := Lib.hid (glob_is hup (fun x => by rw [hmem, HFX.out]))
          have B8 := Lib.hid (hb.out.trans (hb8.mono hb.out.size))
          clear hown8 hup hmem hb8
          go_wp2
          go_ret2
          exact .inl ⟨HOK.out, ⟨v8, rfl, HR.out ▸ O8.out⟩, B8.out⟩

end Go.Proofs.YteokigpeaggemaaDoor
