/- What the document's Turn answers. Conditions: short texts. -/
import Derived.Test.YtdiocmcfaneajaaGreatDoorSrW
namespace Go.Proofs.YtdiocmcfaneajaaGreatDoor
open Go.RowKit
open Lx
namespace St

def zrow (c : Nat) : Array Value := (List.replicate c (bval 0)).toArray
theorem make_bytes (c : Nat) (hc : c < 2147483648) (w : World) :
    (Instr.makeSlice 63 (.int .i64 0) (.int .i64 (c : Int))).run Tryz.prog w = .ok (.slice (some ⟨w.heap.size, 0, none⟩) 0 c) (w.alloc (.cells (zrow c) 5)) := by
  obtain ⟨i, hi, hz, hz1, hz2⟩ := parts info_byte
  have h := run_make (P := Tryz.prog) w 63 5 i (.int .u8 0) Tryz.underlying63 hi hz .i64 .i64 0 c (by omega) (by omega) (by rw [hz2]; omega) (by omega)
  rw [h]
  simp only [Int.toNat_natCast, hz1, Nat.mul_one, Int.toNat_zero]
  have e : madeCells (Value.int IntKind.u8 0).cells c = zrow c := by
    apply Array.ext
    · simp [madeCells, zrow]
    · intro i h1 h2
      simp [madeCells, zrow, Value.cells, bval, Nat.mod_one]
  rw [e]
theorem ownB_made (w : World) (B c : Nat) (hc : c < 2147483648) (hB : B ≤ w.heap.size) : OwnB (w.alloc (.cells (zrow c) 5)) B (.slice (some ⟨w.heap.size, 0, none⟩) 0 c) [] :=
  ⟨rfl, .inr ⟨w.heap.size, c, zrow c, rfl, hB, heap_alloc_new _ _, by simp, by unfold maxLen; omega, by simp [zrow], by simp⟩⟩
theorem OwnB.setAt {W : World} {B g n cap : Nat} {bs : L} (h : OwnB W B (.slice (some ⟨g, 0, none⟩) n cap) bs) (k : Nat) (x : UInt8) : OwnB (W.setCell ⟨g, k, none⟩ (bval x)) B (.slice (some ⟨g, 0, none⟩) n cap) (bs.set k x) := by
  have h1 := h.1
  refine ⟨by simp, ?_⟩
  rcases h.2 with ⟨h0, _⟩ | ⟨g', cap', cur, e, hB, hg, h3, h4, h5, h6⟩
  · cases h0
  · cases e
    refine .inr ⟨g, cap, _, by rw [List.length_set], hB, heap_setCell_same W g k _ _ _ hg, by rw [List.length_set]; exact h3, h4, by simpa using h5, ?_⟩
    rw [Array.toList_setIfInBounds, List.length_set, List.take_set, h6, List.map_set]
theorem OwnB.cellAt {W : World} {B g n cap : Nat} {bs : L} (h : OwnB W B (.slice (some ⟨g, 0, none⟩) n cap) bs) (k : Nat) (x : UInt8) (hx : bs[k]? = some x) : W.cell? ⟨g, k, none⟩ = some (.int .u8 (x.toNat : Int)) ∧ W.frozen? ⟨g, k, none⟩ = false ∧ B ≤ g := by
  rcases h.2 with ⟨h0, _⟩ | ⟨g', cap', cur, e, hB, hg, h3, h4, h5, h6⟩
  · cases h0
  · cases e
    refine ⟨?_, frozen_of_row W g k _ _ hg, hB⟩
    rw [cell_of_row W g k _ _ _ hg]
    have h1 : (bs.map bval)[k]? = some (bval x) := by rw [List.getElem?_map, hx]; rfl
    rw [← h6, List.getElem?_take] at h1
    split at h1
    · simpa [bval] using h1
    · cases h1
def turnB (up : Bool) (c : UInt8) : UInt8 := if up then upB c else loB c
theorem up_num (c : UInt8) : (upB c).toNat = if 97 ≤ c.toNat ∧ c.toNat ≤ 122 then c.toNat - 32 else c.toNat := by
  have h : ∀ n : Fin 256, (upB (UInt8.ofNat n.val)).toNat = if 97 ≤ n.val ∧ n.val ≤ 122 then n.val - 32 else n.val := by decide +kernel
  simpa using h ⟨c.toNat, c.toNat_lt⟩
theorem lo_num (c : UInt8) : (loB c).toNat = if 65 ≤ c.toNat ∧ c.toNat ≤ 90 then c.toNat + 32 else c.toNat := by
  have h : ∀ n : Fin 256, (loB (UInt8.ofNat n.val)).toNat = if 65 ≤ n.val ∧ n.val ≤ 90 then n.val + 32 else n.val := by decide +kernel
  simpa using h ⟨c.toNat, c.toNat_lt⟩
set_option maxRecDepth 100000 in
set_option maxHeartbeats 6400000 in
theorem rturn_any (s : ByteArray) (up : Bool) (w : World) (hs : s.size ≤ 100000) :
    Calls Tryz.prog 28 #[.string s, .bool up] w fun e w' => e = .returned (.string (txt (s.data.toList.map (turnB up)))) ∧ Below w.heap.size w w' := by
  have hmk := make_bytes s.size (by omega)
  have HO0 := hidden (ownB_made w w.heap.size s.size (by omega) (Nat.le_refl _))
  have HB0 := hidden ((Below.refl w.heap.size w).alloc (Nat.le_refl _) (.cells (zrow s.size) 5))
  obtain ⟨ANS, hA⟩ : ∃ A, txt (s.data.toList.map (turnB up)) = A := ⟨_, rfl⟩
  have HANS := hidden hA
  rw [hA]
  clear hA
  go_enter Tryz.func28, Tryz.ntmps28
  go_wp2_with (at_builtin; refine append_text (w.alloc (.cells (zrow s.size) 5)) rfl _ _ rfl w.heap.size _ [] s rfl HO0.out rfl (by simp; omega) (by simp) ?_; intro v2 w2 h2 hb2 _; rw [List.nil_append] at h2; obtain ⟨ao2, cap2, hv2, _, hat2⟩ := h2.at; rw [size_data] at hv2; subst hv2; have H2 := hidden h2; have HB2 := hidden (HB0.out.trans hb2); have HAT := hidden hat2; clear h2 hb2 hat2)
  clear hmk HO0 HB0
  go_loopw [6] (fun vi wr => ∃ k : Nat, vi = .int .i64 k ∧ k ≤ s.size ∧ Hid (OwnB wr w.heap.size (.slice ao2 s.size cap2) (half (turnB up) s.data.toList k)) ∧ Hid (Below w.heap.size w wr)) (fun vi _ => s.size - (intOf vi).toNat)
  case atStart => exact ⟨0, rfl, by omega, hidden (by simpa [half] using H2.out), HB2⟩
  case round =>
    obtain ⟨k, rfl, hk, hO, hb⟩ := hrel
    clear H2 HB2
    by_cases hlt : k < s.size
    · obtain ⟨g, rfl, hBg, _⟩ := HAT.out (by rw [size_data]; omega)
      have hkl' : k < s.data.toList.length := by rw [size_data]; exact hlt
      obtain ⟨hcell, hfz, _⟩ := hO.out.cellAt k _ (half_at (turnB up) s.data.toList k hkl')
      have hset := half_set (turnB up) s.data.toList k hkl'
      have hkeep := half_keep (turnB up) s.data.toList k hkl'
      obtain ⟨c, hc⟩ : ∃ c, s.data.toList[k] = c := ⟨_, rfl⟩
      rw [hc] at hcell hset hkeep
      have HSET := hidden hset
      have HKEEP := hidden hkeep
      have hu := up_num c
      have hl := lo_num c
      obtain ⟨z, hz⟩ : ∃ z, c.toNat = z := ⟨_, rfl⟩
      have HZ := hidden hz
      have hzl : z < 256 := by rw [← hz]; exact c.toNat_lt
      rw [hz] at hcell hu hl
      have HU := hidden hu
      have HLO := hidden hl
      clear hkl' hset hkeep hc hz hu hl
      cases up with
      | true =>
        by_cases h1 : 97 ≤ z ∧ z ≤ 122
        · obtain ⟨h2, h3⟩ := h1
          have e1 : IntKind.u8.wrap ((z : Int) - 32) = (z : Int) - 32 := by rw [IntKind.wrap_u8]; omega
          have hv : Hid (bval (turnB true c) = .int .u8 ((z : Int) - 32)) := hidden (by
            unfold bval turnB
            rw [if_pos rfl, HU.out, if_pos ⟨h2, h3⟩]
            congr 1
            omega)
          have R1 : Hid (OwnB (wr.setCell ⟨g, k, none⟩ (.int .u8 ((z : Int) - 32))) w.heap.size (.slice (some ⟨g, 0, none⟩) s.size cap2) (half (turnB true) s.data.toList (k + 1))) := hidden (by
            rw [← hv.out, ← HSET.out]
            exact hO.out.setAt k _)
          have R2 := hidden (hb.out.setCell (p := ⟨g, k, none⟩) hBg (.int .u8 ((z : Int) - 32)))
          go_wp2
          go_roundw
          case rel => exact ⟨k + 1, by go_num, by omega, R1, R2⟩
          case measure => simp [intOf]; omega
        · have R1 : Hid (OwnB wr w.heap.size (.slice (some ⟨g, 0, none⟩) s.size cap2) (half (turnB true) s.data.toList (k + 1))) := hidden (by
            rw [← HKEEP.out (UInt8.toNat_inj.1 (by unfold turnB; rw [if_pos rfl, HU.out, if_neg h1, HZ.out]))]
            exact hO.out)
          have h4 : z < 97 ∨ (97 ≤ z ∧ 122 < z) := by omega
          clear h1
          rcases h4 with h4 | ⟨h4, h5⟩ <;>
          · go_wp2
            go_roundw
            case rel => exact ⟨k + 1, by go_num, by omega, R1, hb⟩
            case measure => simp [intOf]; omega
      | false =>
        by_cases h1 : 65 ≤ z ∧ z ≤ 90
        · obtain ⟨h2, h3⟩ := h1
          have e1 : IntKind.u8.wrap ((z : Int) + 32) = (z : Int) + 32 := by rw [IntKind.wrap_u8]; omega
          have hv : Hid (bval (turnB false c) = .int .u8 ((z : Int) + 32)) := hidden (by
            unfold bval turnB
            rw [if_neg (by decide), HLO.out, if_pos ⟨h2, h3⟩]
            congr 1)
          have R1 : Hid (OwnB (wr.setCell ⟨g, k, none⟩ (.int .u8 ((z : Int) + 32))) w.heap.size (.slice (some ⟨g, 0, none⟩) s.size cap2) (half (turnB false) s.data.toList (k + 1))) := hidden (by
            rw [← hv.out, ← HSET.out]
            exact hO.out.setAt k _)
          have R2 := hidden (hb.out.setCell (p := ⟨g, k, none⟩) hBg (.int .u8 ((z : Int) + 32)))
          go_wp2
          go_roundw
          case rel => exact ⟨k + 1, by go_num, by omega, R1, R2⟩
          case measure => simp [intOf]; omega
        · have R1 : Hid (OwnB wr w.heap.size (.slice (some ⟨g, 0, none⟩) s.size cap2) (half (turnB false) s.data.toList (k + 1))) := hidden (by
            rw [← HKEEP.out (UInt8.toNat_inj.1 (by unfold turnB; rw [if_neg (by decide), HLO.out, if_neg h1, HZ.out]))]
            exact hO.out)
          have h4 : z < 65 ∨ (65 ≤ z ∧ 90 < z) := by omega
          clear h1
          rcases h4 with h4 | ⟨h4, h5⟩ <;>
          · go_wp2
            go_roundw
            case rel => exact ⟨k + 1, by go_num, by omega, R1, hb⟩
            case measure => simp [intOf]; omega
    · have hall : half (turnB up) s.data.toList k = s.data.toList.map (turnB up) := by
        unfold half
        rw [List.take_of_length_le (by rw [size_data]; omega), List.drop_of_length_le (by rw [size_data]; omega), List.append_nil]
      rw [hall] at hO
      have hconv := hO.out.conv
      rw [HANS.out] at hconv
      clear hall
      go_wp2
      go_ret
      exact ⟨rfl, hb.out⟩
end St
end Go.Proofs.YtdiocmcfaneajaaGreatDoor
