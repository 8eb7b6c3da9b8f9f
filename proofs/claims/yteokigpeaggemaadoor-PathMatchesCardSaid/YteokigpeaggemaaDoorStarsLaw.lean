/- smithylaw1.PathStars answers true at every two texts. Conditions: internal/bytealg.MaxLen holds some number, smithy/api.ErrPath an error. -/
import Derived.Test.YteokigpeaggemaaDoorFirst
import Derived.Test.YteokigpeaggemaaDoorDirsLaw
import Derived.Test.YteokigpeaggemaaDoorStarsPlain
namespace Go.Proofs.YteokigpeaggemaaDoor
open Go.RowKit

theorem cells_of (ps : List ByteArray) (w : World) (j : Nat) (h : j < ps.length) : (w.alloc (.cells (ps.map Value.string).toArray 9)).cell? ⟨w.heap.size, j, none⟩ = some (.string ps[j]) := by
  have := World.alloc_heap_new w (.cells (ps.map Value.string).toArray 9)
  unfold World.cell?
  rw [this]
  simp [h]
theorem Match_is (ev : Value) (pat p : ByteArray) (res : Bool) (w : World) (hs : pat.size < 4294967281) (ht : p.size < 4294967281) (hR : Ready ev w) (hpat : Pth.splitOK Pth.patOK pat.data.toList = true) (h : matchB pat.data.toList p.data.toList = res) :
    Calls Tryd.prog 25 #[.string pat, .string p] w fun e w' => e = .returned (.tuple #[.bool res, .nilIface]) ∧ Below w.heap.size w w' := by
  refine (Match_any ev pat p w hs ht hR).mono ?_
  rintro e w' ⟨rfl, hb⟩
  refine ⟨?_, hb⟩
  rw [if_pos hpat, h]

set_option maxRecDepth 100000 in
set_option maxHeartbeats 1000000 in
theorem PathStars_any (et : TypeId) (ex : Value) (a b : ByteArray) (w : World) (hR : Ready (.iface et ex) w) :
    Calls Tryd.prog 6 #[.string a, .string b] w (saysB w.heap.size w true) := by
  have HF := Lib.hid (first_any et ex w hR)
  have HV := Lib.hid (fun (p : ByteArray) W (hp : p.size ≤ 60) (hW : Ready (.iface et ex) W) => Valid_ready (.iface et ex) p W (by omega) hW)
  by_cases ha : 60 < a.size
  · go_enter Tryd.func6, Tryd.ntmps6
    go_wp2_with (go_at_call 9; refine HF.out.mono ?_; rintro e w1 ⟨rfl, hb1⟩)
    go_ret
    exact ⟨rfl, hb1⟩
  by_cases hb : 60 < b.size
  · go_enter Tryd.func6, Tryd.ntmps6
    go_wp2_with (go_at_call 9; refine HF.out.mono ?_; rintro e w1 ⟨rfl, hb1⟩)
    go_ret
    exact ⟨rfl, hb1⟩
  cases hva : Pth.splitOK Pth.partOK a.data.toList
  · go_enter Tryd.func6, Tryd.ntmps6
    go_wp2_with fail
    refine HF.out.mono ?_
    rintro e w1 ⟨rfl, hb1⟩
    have R1 := hR.below hb1
    go_wp2_with fail
    refine (HV.out a _ (by omega) R1).mono ?_
    rintro e w2 ⟨rfl, hb2⟩
    go_wp2
    go_ret
    exact ⟨rfl, hb1.trans (hb2.mono hb1.size)⟩
  cases hvb : Pth.splitOK Pth.partOK b.data.toList
  · go_enter Tryd.func6, Tryd.ntmps6
    go_wp2_with fail
    refine HF.out.mono ?_
    rintro e w1 ⟨rfl, hb1⟩
    have R1 := hR.below hb1
    go_wp2_with fail
    refine (HV.out a _ (by omega) R1).mono ?_
    rintro e w2 ⟨rfl, hb2⟩
    have R2 := R1.below hb2
    go_wp2_with fail
    refine (HV.out b _ (by omega) R2).mono ?_
    rintro e w3 ⟨rfl, hb3⟩
    go_wp2
    go_ret
    exact ⟨rfl, (hb1.trans (hb2.mono hb1.size)).trans (hb3.mono (Nat.le_trans hb1.size hb2.size))⟩
  · go_enter Tryd.func6, Tryd.ntmps6
    go_wp2_with fail
    refine HF.out.mono ?_
    rintro e w1 ⟨rfl, hb1⟩
    have R1 := hR.below hb1
    go_wp2_with fail
    refine (HV.out a _ (by omega) R1).mono ?_
    rintro e w2 ⟨rfl, hb2⟩
    have R2 := R1.below hb2
    go_wp2_with fail
    refine (HV.out b _ (by omega) R2).mono ?_
    rintro e w3 ⟨rfl, hb3⟩
    have R3 := R2.below hb3
    have HB := Lib.hid ((hb1.trans (hb2.mono hb1.size)).trans (hb3.mono (Nat.le_trans hb1.size hb2.size)))
    clear hb1 hb2 hb3 R1 R2
    go_wp2_with (go_at_call 20; refine (Base_any _ _ (by omega)).mono ?_; rintro e w4 ⟨rfl, rfl⟩)
    generalize hW4 : w3.alloc _ = W4
    have hcells := Lib.hid (fun j (hj : j < (Stars.pats a b).length) => by
      have := cells_of (Stars.pats a b) w3 j hj
      rw [show w3.alloc (.cells ((Stars.pats a b).map Value.string).toArray 9) = W4 from hW4] at this
      exact this)
    have HW4 : Hid (Below w3.heap.size w3 W4) := Lib.hid (by rw [← hW4]; exact (Below.refl _ _).alloc (Nat.le_refl _) _)
    have hL : w3.heap.size < W4.heap.size := by rw [← hW4]; simp
    have R4 := R3.below HW4.out
    clear hW4
    have HG := Lib.hid (Stars.pats_good a b (by rw [← Lib.size_eq]; omega) (by rw [← Lib.size_eq]; omega) hva hvb)
    have Hva := Lib.hid hva
    have Hvb := Lib.hid hvb
    clear hva hvb
    have hp : Hid ((a ++ ⟨#[47]⟩ ++ b).data.toList = a.data.toList ++ 47 :: b.data.toList) := Lib.hid (by
      rw [Joins.data_append, Joins.data_append]; simp)
    have hps : (a ++ ⟨#[47]⟩ ++ b).size < 4294967281 := by
      rw [Lib.size_eq, hp.out]
      simp only [List.length_append, List.length_cons]
      rw [← Lib.size_eq, ← Lib.size_eq]; omega
    obtain ⟨p, hpe⟩ : ∃ p, p = a ++ ⟨#[47]⟩ ++ b := ⟨_, rfl⟩
    rw [← hpe] at hp hps ⊢
    have Hpe := Lib.hid hpe
    clear hpe
    go_loopw [8] (fun vi wr => ∃ k : Nat, k ≤ 7 ∧ vi = .int .i64 k ∧ Below W4.heap.size W4 wr) (fun vi _ => 7 - (intOf vi).toNat)
    case atStart => exact ⟨0, by omega, rfl, Below.refl _ _⟩
    case round =>
      obtain ⟨k, hk, rfl, hbr⟩ := hrel
      have Rr := R4.below hbr
      by_cases hlt : k < 7
      · have hcell : wr.cell? ⟨w3.heap.size, k, none⟩ = some (.string ((Stars.pats a b)[k]'hlt)) := (hbr.cell (p := ⟨w3.heap.size, k, none⟩) hL).trans (hcells.out k hlt)
        have hgood := HG.out _ (List.getElem_mem (l := Stars.pats a b) hlt)
        rw [← hp.out] at hgood
        generalize (Stars.pats a b)[k]'hlt = q at hcell hgood
        have HM := Lib.hid (Match_is (.iface et ex) q p true wr (by rw [Lib.size_eq]; have := hgood.len; omega) hps Rr hgood.pat hgood.fit)
        clear hgood
        go_wp2_with (go_at_call 25; refine HM.out.mono ?_; rintro e1 w5 ⟨rfl, hb5⟩)
        go_roundw
        case rel => exact ⟨k + 1, by omega, by go_num, hbr.trans (hb5.mono hbr.size)⟩
        case measure => simp [intOf]; omega
      · obtain rfl : k = 7 := by omega
        have H1 := Lib.hid (fun W (hW : Ready (.iface et ex) W) => Match_is (.iface et ex) ⟨#[42]⟩ p false W (by decide) hps hW (by decide) (Stars.star_two hp.out))
        have H2 := Lib.hid (fun W (hW : Ready (.iface et ex) W) => Match_is (.iface et ex) ⟨#[42]⟩ (p.extract (baseN p) p.size) true W (by decide) (by rw [ByteArray.size_extract]; omega) hW (by decide) (Stars.star_base p (by
          rw [hp.out]; exact Stars.join_ok (by rw [← Lib.size_eq]; omega) (by rw [← Lib.size_eq]; omega) Hva.out Hvb.out)))
        have H3 := Lib.hid (fun W (hW : Ready (.iface et ex) W) => Match_is (.iface et ex) (a ++ ⟨#[47, 42, 42]⟩) (a ++ ⟨#[120]⟩) false W (by rw [ByteArray.size_append]; show a.size + 3 < _; omega) (by rw [ByteArray.size_append]; show a.size + 1 < _; omega) hW
          (Stars.behind_pat a (by rw [← Lib.size_eq]; omega) Hva.out) (Stars.behind_not a Hva.out))
        go_wp2_with fail
        refine (H1.out wr Rr).mono ?_
        rintro e1 w5 ⟨rfl, hb5⟩
        have R5 := Rr.below hb5
        go_wp2_with fail
        refine (Base_any p _ hps).mono ?_
        rintro e1 w6 ⟨rfl, rfl⟩
        go_wp2_with fail
        refine (H2.out _ R5).mono ?_
        rintro e1 w6 ⟨rfl, hb6⟩
        have R6 := R5.below hb6
        go_wp2_with fail
        refine (H3.out _ R6).mono ?_
        rintro e1 w7 ⟨rfl, hb7⟩
        have HE := Lib.hid ((HB.out.trans (HW4.out.mono HB.out.size)).trans ((hbr.trans ((hb5.mono hbr.size).trans ((hb6.mono (Nat.le_trans hbr.size hb5.size)).trans (hb7.mono (Nat.le_trans hbr.size (Nat.le_trans hb5.size hb6.size)))))).mono (Nat.le_trans HB.out.size HW4.out.size)))
        clear hbr hb5 hb6 hb7
        go_wp2
        go_ret
        exact ⟨rfl, HE.out⟩

end Go.Proofs.YteokigpeaggemaaDoor
