/- What List makes of a disk that is up. Conditions: the disk's blocks lie from block B on; which names it has. -/
import Derived.Test.YtahaienalidiiaaDoorDiskAny
import Derived.Test.YtahaienalidiiaaDoorDiskSort
namespace Go.Proofs.YtahaienalidiiaaDoor
open Go.RowKit Go.Maps Go.Sort

theorem row_mono {w : World} {base base' : Nat} {e : TypeId} {size : Nat} {v : Value} {n : Nat} {xs : List Value} (h : w.ownsRow base e size v n xs) (hb : base' ≤ base) : w.ownsRow base' e size v n xs :=
  ⟨h.1, h.2.imp id fun ⟨g, cap, cur, e1, e2, e3⟩ => ⟨g, cap, cur, e1, Nat.le_trans hb e2, e3⟩⟩
def kf : Value → Value := fun p => .func (.func 41) #[] #[p]
theorem keysF_call (b : Nat) (W : World) : Calls Tryd.prog 30 #[.map (some b)] W fun e w' => e = .returned (kf (.pointer (some ⟨W.heap.size, 0, none⟩))) ∧ w' = W.alloc (.cells #[.map (some b)] 54) :=
  callsIn_wide.1 (Tryd.maps_Keys_30 (some b) W)
theorem sortedF_call {W : World} {b n : Nat} {z : Value} {F : ByteArray → Option Value} (h : MapAt W b n z F) (hn : n ≤ 1000000) (K : List (List UInt8)) (hnd : K.Nodup) (hm : ∀ x, x ∈ K ↔ (F ⟨x.toArray⟩).isSome = true) :
    Calls Tryd.prog 27 #[kf (.pointer (some ⟨W.heap.size, 0, none⟩))] (W.alloc (.cells #[.map (some b)] 54)) fun e w' => ∃ v, e = .returned v ∧
      w'.ownsRow (W.heap.size + 1) 9 1 v K.length ((K.mergeSort leB).map encStr) ∧ Below (W.heap.size + 1) (W.alloc (.cells #[.map (some b)] 54)) w' := by
  obtain ⟨D, zd, zp, h1, h2, h3⟩ := h
  have hs := h2.size_le
  refine (callsIn_wide.1 (Tryd.slices_Sorted_keys_27_30 b n D rdS W h2 (by unfold maxLen; omega) (by omega))).mono ?_
  rintro e w' ⟨v, ss, rfl, hp, ho, _, hb⟩
  obtain ⟨es, rfl, hpw, _⟩ := h2.entries (string_keyed Tryd.underlying9)
  obtain ⟨es', hD', hko⟩ := h2.keysOf
  obtain rfl : es = es' := by simpa using hD'
  have hK := perm_strKeys hpw (fun p hp => by obtain ⟨v, hv⟩ := hko p hp; obtain ⟨x, _, hx, _⟩ := Maps.keyOf_str Tryd.underlying9 hv; exact ⟨x, hx⟩) hnd (fun x => by rw [hm x, ← (h3 ⟨x.toArray⟩).1, str_cell])
  have hsk := hp.trans hK.symm
  rw [mergeSort_of_perm hsk, hsk.length_eq, World.size_alloc] at ho
  rw [World.size_alloc] at hb
  exact ⟨v, rfl, ho, hb⟩
section
variable {W W' : World} {B sb fb cb nf nc : Nat} {F C : ByteArray → Option Value} {ops armed : Int} {down : Bool}
set_option maxHeartbeats 1600000 in
theorem list_up (h : DiskAt W B sb fb cb nf nc F C ops armed false) (ho : 0 ≤ ops) (ho2 : ops < 1000000) (ha1 : -9223372036854775808 ≤ armed) (ha2 : armed < 9223372036854775808) (ha : armed ≠ 1) (hnf : nf ≤ 1000000) (K : List (List UInt8)) (hnd : K.Nodup) (hm : ∀ x, x ∈ K ↔ (F ⟨x.toArray⟩).isSome = true) :
    Calls Tryd.prog 19 #[.pointer (some ⟨sb, 0, none⟩)] W fun e w' => ∃ v, e = .returned (.tuple #[v, .nilIface]) ∧ w'.ownsRow W.heap.size 9 1 v K.length ((K.mergeSort leB).map encStr) ∧ DiskAt w' B sb fb cb nf nc F C (ops + 1) (armed' armed) false ∧ Tri sb fb cb W w' := by
  have HBG := hid' (begin_up h ho ho2 ha1 ha2)
  rw [decide_eq_true ha, decide_eq_false ha] at HBG
  have HM := hid' hm
  clear h hm
  go_enter Tryd.func19, Tryd.ntmps19
  go_wp2_with fail
  refine (HBG.out).mono ?_
  rintro e w1 ⟨rfl, h1, T1⟩
  obtain ⟨c0, c1, c2, c3, c4⟩ := h1.cells
  have HK := hid' (keysF_call fb w1)
  have HS := hid' (sortedF_call h1.files hnf K hnd HM.out)
  have HD := hid' h1
  have HT1 := hid' T1
  clear h1 T1
  unfold kf at HK HS
  go_wp2_with fail
  refine (HK.out).mono ?_
  rintro e w2 ⟨rfl, rfl⟩
  go_wp2_with fail
  refine (HS.out).mono ?_
  rintro e w2 ⟨v, rfl, ho, hb2⟩
  have D1 := HD.out.alloc (.cells #[.map (some fb)] 54)
  have hb2' : RowKit.Below (w1.alloc (.cells #[.map (some fb)] 54)).heap.size (w1.alloc (.cells #[.map (some fb)] 54)) w2 := by rw [World.size_alloc]; exact hb2
  have HD2 := hid' (D1.below hb2')
  have HT2 := hid' ((HT1.out.alloc (.cells #[.map (some fb)] 54)).trans (Tri.of_below hb2'))
  have HO := hid' (row_mono ho (base' := W.heap.size) (by have := HT1.out.size; omega))
  clear D1 hb2 hb2' ho HK HS c0 c1 c2 c3 c4
  go_wp2
  go_returns
  exact ⟨v, rfl, HO.out, HD2.out, HT2.out⟩
end
end Go.Proofs.YtahaienalidiiaaDoor
