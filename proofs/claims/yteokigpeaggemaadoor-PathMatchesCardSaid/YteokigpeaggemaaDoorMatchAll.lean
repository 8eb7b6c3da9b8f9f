/- What path.Match answers at every pattern and every text. Conditions: texts of fewer than 2^32 bytes; internal/bytealg.MaxLen holds some number, smithy/api.ErrPath the value that is told. -/
import Derived.Test.YteokigpeaggemaaDoorMatch
namespace Go.Proofs.YteokigpeaggemaaDoor
open Go.RowKit

/-- What the package's functions ask of the world: two variables lie there. -/
structure Ready (ev : Value) (w : World) : Prop where
  low : 1 < w.heap.size ∧ 0 < w.heap.size
  len : ∃ m : Int, w.cell? ⟨1, 0, none⟩ = some (.int .i64 m)
  err : w.cell? ⟨0, 0, none⟩ = some ev
theorem Ready.below {ev : Value} {w w' : World} (h : Ready ev w) (hb : Below w.heap.size w w') : Ready ev w' :=
  ⟨⟨Nat.lt_of_lt_of_le h.low.1 hb.size, Nat.lt_of_lt_of_le h.low.2 hb.size⟩, h.len.imp fun _ hm => (hb.cell (p := ⟨1, 0, none⟩) h.low.1).trans hm, (hb.cell (p := ⟨0, 0, none⟩) h.low.2).trans h.err⟩
theorem Ready.alloc {ev : Value} {w : World} (h : Ready ev w) (o : Obj) : Ready ev (w.alloc o) := h.below ((Below.refl _ w).alloc (Nat.le_refl _) o)

def matchB (pat p : List UInt8) : Bool := Pth.splitOK Pth.partOK p && partsB (Pth.parts pat) (Pth.parts p)
def matchPost (ev : Value) (pat p : ByteArray) (w : World) (e : Ending) (w' : World) : Prop :=
  e = .returned (.tuple (if Pth.splitOK Pth.patOK pat.data.toList then #[.bool (matchB pat.data.toList p.data.toList), .nilIface] else #[.bool false, ev])) ∧ Below w.heap.size w w'
theorem ret_two {a b c d : Value} (h : a = c) (h' : b = d) : Ending.returned (.tuple #[a, b]) = .returned (.tuple #[c, d]) := by rw [h, h']

theorem splitOK_len {ok : List UInt8 → Bool} {l : List UInt8} (h : Pth.splitOK ok l = true) : l.length ≤ 200 := by
  unfold Pth.splitOK at h
  simp at h
  exact h.1

set_option maxHeartbeats 400000 in
theorem Match_any (ev : Value) (pat p : ByteArray) (w : World) (hs : pat.size < 4294967281) (ht : p.size < 4294967281) (hR : Ready ev w) :
    Calls Tryd.prog 25 #[.string pat, .string p] w (matchPost ev pat p w) := by
  obtain ⟨m, hm⟩ := hR.len
  have Hm := Lib.hid hm
  clear hm
  have R1 := hR.alloc (pieces pat)
  have R2 := R1.alloc (pieces p)
  have Hp : Hid (∀ q : List UInt8, q.length ≤ 200 → Calls Tryd.prog 46 #[.string ⟨q.toArray⟩] (w.alloc (pieces pat)) fun e w' => e = .returned (.bool (Pth.patOK q)) ∧ w.alloc (pieces pat) = w') :=
    Lib.hid fun q hq => by
      obtain ⟨m', hm'⟩ := R1.len
      exact isPatternPart_any ⟨q.toArray⟩ m' _ (by show q.toArray.size < _; simp; omega) hm'
  have Hq : Hid (∀ (W : World), Ready ev W → ∀ q : List UInt8, q.length ≤ 200 → Calls Tryd.prog 36 #[.string ⟨q.toArray⟩] (W.alloc (pieces p)) fun e w' => e = .returned (.bool (Pth.partOK q)) ∧ W.alloc (pieces p) = w') :=
    Lib.hid fun W hW q hq => by
      obtain ⟨m', hm'⟩ := (hW.alloc (pieces p)).len
      exact isPart_any ⟨q.toArray⟩ m' _ (by show q.toArray.size < _; simp; omega) hm'
  go_enter Tryd.func25, Tryd.ntmps25
  go_wp2_with fail
  refine (split_any 46 Pth.patOK (enters_of Tryd.func46 (by kernel_rfl) rfl) pat m w hs Hm.out Hp).mono ?_
  rintro e w' (⟨h, rfl, rfl⟩ | ⟨h, rfl, hw⟩)
  · have H := Lib.hid h
    clear h
    obtain ⟨m1, hm1⟩ := R1.len
    have Hm1 := Lib.hid hm1
    clear hm1
    go_wp2_with fail
    refine (split_any 36 Pth.partOK (enters_of Tryd.func36 (by kernel_rfl) rfl) p m1 _ ht Hm1.out (Lib.hid (Hq.out _ R1))).mono ?_
    rintro e w2 (⟨h, rfl, rfl⟩ | ⟨h, rfl, hw⟩)
    · have H2 := Lib.hid h
      clear h
      have hP : ∀ q ∈ Pth.parts pat.data.toList, q.length < 4294967281 := fun q hq => by
        have := Pth.parts_le _ q hq
        have := splitOK_len H.out
        omega
      have hQ : ∀ q ∈ Pth.parts p.data.toList, q.length < 4294967281 := fun q hq => by
        have := Pth.parts_le _ q hq
        have := splitOK_len H2.out
        omega
      have hPn : (Pth.parts pat.data.toList).length < 4294967281 := by
        have := Pth.parts_count pat.data.toList
        have := splitOK_len H.out
        omega
      have hQn : (Pth.parts p.data.toList).length < 4294967281 := by
        have := Pth.parts_count p.data.toList
        have := splitOK_len H2.out
        omega
      have hT : TwoHeld ((w.alloc (pieces pat)).alloc (pieces p)) w.heap.size (w.heap.size + 1) (Pth.parts pat.data.toList) (Pth.parts p.data.toList) := by
        refine ⟨fun j hj => ?_, fun j hj => ?_, by simp; omega⟩
        · exact (((Below.refl _ (w.alloc (pieces pat))).alloc (Nat.le_refl _) (pieces p)).cell (p := ⟨w.heap.size, j, none⟩) (by simp)).trans (pieces_cell pat w j hj)
        · have := pieces_cell p (w.alloc (pieces pat)) j hj
          rwa [World.size_alloc] at this
      have HB : Hid (Below w.heap.size w ((w.alloc (pieces pat)).alloc (pieces p))) := ((Below.refl _ _).alloc (Nat.le_refl _) _).alloc (by simp) _
      have HM := Lib.hid (matchParts_any _ _ _ _ _ hPn hQn hP hQ hT)
      clear hP hQ hPn hQn hT
      go_wp2_with fail
      refine HM.out.mono ?_
      rintro e w3 ⟨rfl, hb⟩
      have HB2 := Lib.hid (HB.out.trans (hb.mono (by simp; omega)))
      clear hb
      go_wp2
      go_ret2
      exact ⟨by unfold matchB; rw [if_pos H.out, H2.out]; rfl, HB2.out⟩
    · have H2 := Lib.hid h
      have HW : Hid (Below w.heap.size w w2) := by
        rcases hw with rfl | rfl
        · exact (Below.refl _ _).alloc (Nat.le_refl _) _
        · exact ((Below.refl _ _).alloc (Nat.le_refl _) _).alloc (by simp) _
      clear h hw
      go_wp2
      go_ret2
      exact ⟨by unfold matchB; rw [if_pos H.out, H2.out]; rfl, HW.out⟩
  · have H := Lib.hid h
    have HW : Hid (Below w.heap.size w w') := by
      rcases hw with rfl | rfl
      · exact Below.refl _ _
      · exact (Below.refl _ _).alloc (Nat.le_refl _) _
    have he := (hR.below HW.out).err
    clear h hw
    go_wp2_with fail
    go_quiet (fail)
    go_wp2
    go_ret2
    exact ⟨by rw [if_neg (by rw [H.out]; simp)]; rfl, below_drewN HW.out _⟩

end Go.Proofs.YteokigpeaggemaaDoor
