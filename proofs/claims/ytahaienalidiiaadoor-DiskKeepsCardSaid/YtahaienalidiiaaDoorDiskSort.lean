/- The sorted keys of the map of changes. Conditions: the map has few entries; which keys it has. -/
import Derived.Test.YtahaienalidiiaaDoorDiskCalls
import Derived.Test.YtahaienalidiiaaDoorIter
namespace Go.Proofs.YtahaienalidiiaaDoor
open Go.RowKit Go.Maps Go.Sort

def kh : Value → Value := fun p => .func (.func 39) #[] #[p]
theorem keys_call (b : Nat) (W : World) : Calls Tryd.prog 28 #[.map (some b)] W fun e w' => e = .returned (kh (.pointer (some ⟨W.heap.size, 0, none⟩))) ∧ w' = W.alloc (.cells #[.map (some b)] 55) :=
  callsIn_wide.1 (Tryd.maps_Keys_28 (some b) W)
theorem str_cell (x : List UInt8) : kl ⟨x.toArray⟩ = .string x := by simp [kl]
theorem sorted_call {W : World} {b n : Nat} {z : Value} {F : ByteArray → Option Value} (h : MapAt W b n z F) (hn : n ≤ 1000000) (K : List (List UInt8)) (hnd : K.Nodup) (hm : ∀ x, x ∈ K ↔ (F ⟨x.toArray⟩).isSome = true) :
    Calls Tryd.prog 27 #[kh (.pointer (some ⟨W.heap.size, 0, none⟩))] (W.alloc (.cells #[.map (some b)] 55)) fun e w' => ∃ v, e = .returned v ∧
      w'.ownsRow (W.heap.size + 1) 9 1 v K.length ((K.mergeSort leB).map encStr) ∧ Below (W.heap.size + 1) (W.alloc (.cells #[.map (some b)] 55)) w' := by
  obtain ⟨D, zd, zp, h1, h2, h3⟩ := h
  have hs := h2.size_le
  refine (callsIn_wide.1 (Tryd.slices_Sorted_keys_27_28 b n D rdS W h2 (by unfold maxLen; omega) (by omega))).mono ?_
  rintro e w' ⟨v, ss, rfl, hp, ho, _, hb⟩
  obtain ⟨es, rfl, hpw, _⟩ := h2.entries (string_keyed Tryd.underlying9)
  obtain ⟨es', hD', hko⟩ := h2.keysOf
  obtain rfl : es = es' := by simpa using hD'
  have hK := perm_strKeys hpw (fun p hp => by obtain ⟨v, hv⟩ := hko p hp; obtain ⟨x, _, hx, _⟩ := Maps.keyOf_str Tryd.underlying9 hv; exact ⟨x, hx⟩) hnd (fun x => by rw [hm x, ← (h3 ⟨x.toArray⟩).1, str_cell])
  have hsk := hp.trans hK.symm
  rw [mergeSort_of_perm hsk, hsk.length_eq, World.size_alloc] at ho
  rw [World.size_alloc] at hb
  exact ⟨v, rfl, ho, hb⟩
end Go.Proofs.YtahaienalidiiaaDoor
