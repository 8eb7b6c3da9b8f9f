/- What moved, Lower, Upper and IsDigits answer. Conditions: a text of at most 100000 bytes. -/
import Derived.Test.YtdiocmcfaneajaaGreatDoorStP
import Derived.Lib.ConvBytes
import Derived.Lib.AtoiErrMem
namespace Go.Proofs.YtdiocmcfaneajaaGreatDoor
open Go.RowKit
namespace St

/-- A row of bytes behind a conversion of a text. -/
def RowB (W : World) (g n : Nat) (bs : L) : Prop := ∃ cur m, W.heap[g]? = some (.cells cur 5 (m, m + 1)) ∧ cur.size = m ∧ bs.length = n ∧ n ≤ m ∧ cur.toList.take n = bs.map bval
theorem RowB.cell {W : World} {g n : Nat} {bs : L} (h : RowB W g n bs) (k : Nat) (x : UInt8) (hx : bs[k]? = some x) : W.cell? ⟨g, k, none⟩ = some (.int .u8 (x.toNat : Int)) := by
  obtain ⟨cur, m, hg, hm, hn, hnm, ht⟩ := h
  have h1 : (bs.map bval)[k]? = some (bval x) := by rw [List.getElem?_map, hx]; rfl
  rw [← ht, List.getElem?_take] at h1
  split at h1
  · unfold World.cell?
    rw [hg]
    simpa [bval] using h1
  · cases h1
theorem RowB.free {W : World} {g n : Nat} {bs : L} (h : RowB W g n bs) (k : Nat) (hk : k < n) : W.frozen? ⟨g, k, none⟩ = false := by
  obtain ⟨cur, m, hg, hm, hn, hnm, ht⟩ := h
  unfold World.frozen?
  rw [hg]
  simp
  omega
theorem RowB.set {W : World} {g n : Nat} {bs : L} (h : RowB W g n bs) (k : Nat) (x : UInt8) : RowB (W.setCell ⟨g, k, none⟩ (bval x)) g n (bs.set k x) := by
  obtain ⟨cur, m, hg, hm, hn, hnm, ht⟩ := h
  refine ⟨cur.setIfInBounds k (bval x), m, by rw [setCell_eq_setRow W g k cur 5 _ _ hg]; exact setRow_heap W g cur _ _ _ hg, by simpa using hm, by simpa using hn, hnm, ?_⟩
  rw [Array.toList_setIfInBounds, List.take_set, ht, List.map_set]
theorem rowB_new (w : World) (s : ByteArray) : RowB (Lib.bytesWorld w 5 s) w.heap.size s.size s.data.toList := by
  refine ⟨_, _, Lib.bytesWorld_at_new w 5 s, rfl, size_data s, ?_, ?_⟩
  · simp [Lib.bytesCells]
  · have h : (s.data.map fun b => Value.int .u8 b.toNat).toList = s.data.toList.map bval := by
      rw [Array.toList_map]
      rfl
    rw [Lib.bytesCells, Array.toList_append, h, List.take_append_of_le_length (by simp), List.take_of_length_le (by simp)]
set_option maxRecDepth 10000 in
theorem RowB.conv {W : World} {g n : Nat} {bs : L} (h : RowB W g n bs) (cap : Nat) : (convert 63 9 (.slice (some ⟨g, 0, none⟩) n cap)).run Tryz.prog W = .ok (.string (txt bs)) W := by
  have hn := h
  obtain ⟨_, _, _, _, hn, _, _⟩ := hn
  have := run_convert_bytes_arg (P := Tryz.prog) W 63 5 Tryz.underlying63 Tryz.underlying5 g 0 n cap (bs.map fun x => (x.toNat : Int)) (by simpa using hn) (fun i hi => by
    have hlt : i < bs.length := by omega
    rw [Nat.zero_add, h.cell i bs[i] (List.getElem?_eq_getElem hlt)]
    simp [List.getD_eq_getElem?_getD, List.getElem?_eq_getElem hlt]) 9 Tryz.underlying9
  rw [this]
  congr 2
  apply ByteArray.ext
  apply Array.toList_inj.1
  rw [strOfNums_data, List.map_map]
  show bs.map _ = bs
  conv => rhs; rw [← List.map_id bs]
  exact List.map_congr_left fun x _ => by simp
/-- A byte from a to b moved so that a becomes t. -/
def mvB (a b t : Nat) (c : UInt8) : UInt8 := if a ≤ c.toNat ∧ c.toNat ≤ b then UInt8.ofNat (c.toNat - a + t) else c
theorem up_mv (c : UInt8) : mvB 97 122 65 c = upB c := by
  have h : ∀ n : Fin 256, mvB 97 122 65 (UInt8.ofNat n.val) = upB (UInt8.ofNat n.val) := by decide +kernel
  simpa using h ⟨c.toNat, c.toNat_lt⟩
theorem lo_mv (c : UInt8) : mvB 65 90 97 c = loB c := by
  have h : ∀ n : Fin 256, mvB 65 90 97 (UInt8.ofNat n.val) = loB (UInt8.ofNat n.val) := by decide +kernel
  simpa using h ⟨c.toNat, c.toNat_lt⟩
def half (f : UInt8 → UInt8) (s : L) (k : Nat) : L := (s.take k).map f ++ s.drop k
theorem half_at (f : UInt8 → UInt8) (s : L) (k : Nat) (hk : k < s.length) : (half f s k)[k]? = some s[k] := by
  unfold half
  rw [List.getElem?_append_right (by simp; omega)]
  simp [Nat.min_eq_left (Nat.le_of_lt hk), hk]
theorem half_set (f : UInt8 → UInt8) (s : L) (k : Nat) (hk : k < s.length) : (half f s k).set k (f s[k]) = half f s (k + 1) := by
  unfold half
  have hl : ((s.take k).map f).length = k := by simp; omega
  rw [List.set_append_right _ _ (by omega), hl, Nat.sub_self, List.drop_eq_getElem_cons hk, List.set_cons_zero, List.take_succ_eq_append_getElem hk, List.map_append]
  simp
theorem half_keep (f : UInt8 → UInt8) (s : L) (k : Nat) (hk : k < s.length) (h : f s[k] = s[k]) : half f s k = half f s (k + 1) := by
  rw [← half_set f s k hk, h]
  have h1 := half_at f s k hk
  apply List.ext_getElem?
  intro i
  rw [List.getElem?_set]
  by_cases e : k = i
  · subst e
    rw [if_pos rfl, if_pos (List.getElem?_eq_some_iff.1 h1).1, h1]
  · rw [if_neg e]

set_option maxRecDepth 100000 in
set_option maxHeartbeats 1600000 in
theorem moved_any (s : ByteArray) (a b t : Nat) (hab : a ≤ b) (hb : b < 256) (ht : b - a + t < 256) (w : World) (hs : s.size ≤ 100000) :
    Calls Tryz.prog 49 #[.string s, .int .u8 (a : Int), .int .u8 (b : Int), .int .u8 (t : Int)] w fun e w' => e = .returned (.string (txt (s.data.toList.map (mvB a b t)))) ∧ Below w.heap.size w w' := by
  have hcv := fun W => Lib.run_convert_string_bytes (P := Tryz.prog) W 9 63 5 s Tryz.underlying9 Tryz.underlying63 Tryz.underlying5
  have HN := hidden (rowB_new w s)
  have HB := hidden (Lib.bytesWorld_below w 5 s)
  have hge := grownCap_ge w s.size 0 5
  go_enter Tryz.func49, Tryz.ntmps49
  go_wp2
  generalize grownCap w s.size 0 5 = cap at hge ⊢
  clear hcv
  go_loopw [16] (fun i wr => ∃ k : Nat, k ≤ s.size ∧ i = .int .i64 k ∧ Hid (RowB wr w.heap.size s.size (half (mvB a b t) s.data.toList k)) ∧ Hid (Below w.heap.size w wr)) (fun i _ => s.size - (intOf i).toNat)
  case atStart => exact ⟨0, Nat.zero_le _, rfl, hidden (by simpa [half] using HN.out), HB⟩
  case round =>
    obtain ⟨k, hk, rfl, hR, hbl⟩ := hrel
    clear HN HB
    by_cases hlt : k < s.size
    · have hlt' : k < s.data.toList.length := by rw [size_data]; exact hlt
      have hat := half_at (mvB a b t) s.data.toList k hlt'
      have hcell := hR.out.cell k _ hat
      have hfz := hR.out.free k hlt
      have hkp := half_keep (mvB a b t) s.data.toList k hlt'
      have hst := half_set (mvB a b t) s.data.toList k hlt'
      obtain ⟨c, hc⟩ : ∃ c, s.data.toList[k] = c := ⟨_, rfl⟩
      rw [hc] at hcell hkp hst
      have hzl := c.toNat_lt
      have hmv : Hid (mvB a b t c = if a ≤ c.toNat ∧ c.toNat ≤ b then UInt8.ofNat (c.toNat - a + t) else c) := hidden rfl
      have HKP := hidden hkp
      have HST := hidden hst
      obtain ⟨z, hz⟩ : ∃ z, c.toNat = z := ⟨_, rfl⟩
      have HZ := hidden hz
      rw [hz] at hcell hzl hmv
      clear hat hkp hst hc hz hlt'
      by_cases h1 : a ≤ z ∧ z ≤ b
      · obtain ⟨h2, h3⟩ := h1
        have e1 : IntKind.u8.wrap ((z : Int) - a) = (z : Int) - a := by rw [IntKind.wrap_u8]; omega
        have e2 : IntKind.u8.wrap ((z : Int) - a + t) = (z : Int) - a + t := by rw [IntKind.wrap_u8]; omega
        have hvm : Hid (mvB a b t c = UInt8.ofNat (z - a + t)) := hidden (by rw [hmv.out, if_pos ⟨h2, h3⟩])
        have hvv : Hid (bval (UInt8.ofNat (z - a + t)) = .int .u8 ((z : Int) - a + t)) := hidden (by
          unfold bval
          rw [UInt8.toNat_ofNat_of_lt' (by show z - a + t < 256; omega)]
          congr 1
          omega)
        have R1 : Hid (RowB (wr.setCell ⟨w.heap.size, k, none⟩ (.int .u8 ((z : Int) - a + t))) w.heap.size s.size (half (mvB a b t) s.data.toList (k + 1))) := hidden (by
          rw [← hvv.out, ← HST.out, hvm.out]
          exact hR.out.set k _)
        have R2 := hidden (hbl.out.setCell (p := ⟨w.heap.size, k, none⟩) (Nat.le_refl _) (.int .u8 ((z : Int) - a + t)))
        go_wp2
        go_roundw
        case rel => exact ⟨k + 1, by omega, by go_num, R1, R2⟩
        case measure => simp [intOf]; omega
      · have R1 : Hid (RowB wr w.heap.size s.size (half (mvB a b t) s.data.toList (k + 1))) := hidden (by
          rw [← HKP.out (by rw [hmv.out, if_neg h1])]; exact hR.out)
        have h4 : z < a ∨ (a ≤ z ∧ b < z) := by omega
        clear h1
        rcases h4 with h4 | ⟨h4, h5⟩ <;>
        · go_wp2
          go_roundw
          case rel => exact ⟨k + 1, by omega, by go_num, R1, hbl⟩
          case measure => simp [intOf]; omega
    · have hall : half (mvB a b t) s.data.toList k = s.data.toList.map (mvB a b t) := by
        unfold half
        rw [List.take_of_length_le (by rw [size_data]; omega), List.drop_of_length_le (by rw [size_data]; omega), List.append_nil]
      rw [hall] at hR
      have hconv := hR.out.conv cap
      clear hall
      go_wp2
      go_ret
      exact ⟨rfl, hbl.out⟩
theorem upper_any (s : ByteArray) (w : World) (hs : s.size ≤ 100000) : Calls Tryz.prog 27 #[.string s] w fun e w' => e = .returned (.string (txt (s.data.toList.map upB))) ∧ Below w.heap.size w w' := by
  have HM := hidden (moved_any s 97 122 65 (by omega) (by omega) (by omega) w hs)
  rw [show (mvB 97 122 65) = upB from funext up_mv] at HM
  go_enter Tryz.func27, Tryz.ntmps27
  go_wp2_with (go_at_call 49; refine HM.out.mono ?_; rintro e w2 ⟨rfl, hb2⟩)
  go_ret
  exact ⟨rfl, hb2⟩
theorem lower_any (s : ByteArray) (w : World) (hs : s.size ≤ 100000) : Calls Tryz.prog 29 #[.string s] w fun e w' => e = .returned (.string (txt (s.data.toList.map loB))) ∧ Below w.heap.size w w' := by
  have HM := hidden (moved_any s 65 90 97 (by omega) (by omega) (by omega) w hs)
  rw [show (mvB 65 90 97) = loB from funext lo_mv] at HM
  go_enter Tryz.func29, Tryz.ntmps29
  go_wp2_with (go_at_call 49; refine HM.out.mono ?_; rintro e w2 ⟨rfl, hb2⟩)
  go_ret
  exact ⟨rfl, hb2⟩
end St
end Go.Proofs.YtdiocmcfaneajaaGreatDoor
