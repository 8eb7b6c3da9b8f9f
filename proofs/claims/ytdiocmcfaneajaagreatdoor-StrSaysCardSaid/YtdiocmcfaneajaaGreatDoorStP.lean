/- What Strip answers. Conditions: texts of at most 100000 bytes. -/
import Derived.Test.YtdiocmcfaneajaaGreatDoorStR
import Derived.Deep.Cut
namespace Go.Proofs.YtdiocmcfaneajaaGreatDoor
open Go.RowKit
namespace St

def blanksL : L := [32, 9, 10, 13, 11, 12]
/-- The bytes that are taken away. -/
def setF (l : L) : L := if l = [] then blanksL else l
def amC (l : L) : Array Value := ((List.range 256).map fun j => Value.bool (l.any fun c => c.toNat == j)).toArray
theorem amC_nil : amC [] = Array.replicate 256 (.bool false) := by
  apply Array.toList_inj.1
  simp only [amC, List.any_nil, Array.toList_replicate]
  rw [List.map_const', List.length_range]
theorem amC_get (l : L) (c : UInt8) : (amC l)[c.toNat]? = some (.bool (l.contains c)) := by
  have hc := c.toNat_lt
  have h : l.any (fun d => d.toNat == c.toNat) = l.contains c := by
    rw [List.contains_eq_any_beq]
    refine congrArg (fun f => l.any f) (funext fun d => ?_)
    rw [Bool.eq_iff_iff, beq_iff_eq, beq_iff_eq]
    exact ⟨fun h => (UInt8.toNat_inj.1 h).symm, fun h => by rw [h]⟩
  simp only [amC, List.getElem?_toArray, List.getElem?_map, ← h]
  rw [List.getElem?_range (by omega)]
  rfl
theorem amC_set (l : L) (c : UInt8) : (amC l).setIfInBounds c.toNat (.bool true) = amC (l ++ [c]) := by
  have hc := c.toNat_lt
  apply Array.ext
  · simp [amC]
  · intro i h1 h2
    rw [Array.getElem_setIfInBounds]
    · simp only [amC, List.any_append, List.any_cons, List.any_nil, Bool.or_false, List.getElem_toArray, List.getElem_map, List.getElem_range]
      split
      · next h => simp [h]
      · next h =>
        have : (c.toNat == i) = false := by simpa using h
        rw [this, Bool.or_false]
    · simpa using h1
theorem zero_among : ∀ W, (zeroValue 71).run Tryz.prog W = .ok (.agg (amC [])) W := (zero_of_info (n := 256) (by rw [amC_nil]; kernel_rfl)).1
theorem idx_at (s : ByteArray) (k : Nat) (hk : k < s.size) (W : World) : (Instr.index 9 (.string s) (.int .i64 (k : Int))).run Tryz.prog W = .ok (.int .u8 (s[k].toNat : Int)) W := by
  have h : (k : Int) < (s.size : Int) := by omega
  go_simp
theorem slice_pre (s : ByteArray) (n : Nat) (h : n ≤ s.size) (W : World) : (Instr.sliceAt 9 (.string s) none (some (.int .i64 (n : Int))) none).run Tryz.prog W = .ok (.string (s.extract 0 n)) W := by
  have h1 : (n : Int) ≤ (s.size : Int) := by omega
  go_simp
def stepL (p : UInt8 → Bool) (l : Bool) (s : L) : L := if l then s.dropWhile p else s
def stepR (p : UInt8 → Bool) (r : Bool) (s : L) : L := if r then (s.reverse.dropWhile p).reverse else s
theorem strip_steps (p : UInt8 → Bool) (l r : Bool) (s : L) : stripF p l r s = stepR p r (stepL p l s) := rfl
theorem head_cons (s : ByteArray) (h : 0 < s.size) : s.data.toList = s[0] :: (s.extract 1 s.size).data.toList := by
  rw [suf_data]
  have h1 : 0 < s.data.toList.length := by rw [size_data]; exact h
  conv => lhs; rw [← List.drop_zero (l := s.data.toList), List.drop_eq_getElem_cons h1]
  rfl
theorem last_snoc (s : ByteArray) (n : Nat) (h : s.size = n + 1) : s.data.toList = (s.extract 0 n).data.toList ++ [s[n]] := by
  rw [ext_data, List.drop_zero, Nat.sub_zero]
  have h1 : n < s.data.toList.length := by rw [size_data]; omega
  have h2 := List.take_succ_eq_append_getElem h1
  rw [List.take_of_length_le (by rw [size_data]; omega)] at h2
  exact h2
theorem text_ne (s : ByteArray) (h : 0 < s.size) : (s.toList == []) = false := by
  rw [ByteArray.toList_eq, beq_eq_false_iff_ne]
  intro e
  have := size_data s
  rw [e] at this
  simp at this
  omega
theorem text_nil {s : ByteArray} (h : s.size = 0) : s = ⟨#[]⟩ := ByteArray.ext (Array.eq_empty_of_size_eq_zero h)
theorem text_emp {s : ByteArray} (h : s.size = 0) : (s.toList == []) = true := by
  rw [text_nil h, ByteArray.toList_eq]
  rfl

set_option maxRecDepth 100000 in
set_option maxHeartbeats 6400000 in
theorem strip_any (s bytes : ByteArray) (l r : Bool) (w : World) (hs : s.size ≤ 100000) (hb : bytes.size ≤ 100000) :
    Calls Tryz.prog 25 #[.string s, .string bytes, .bool l, .bool r] w fun e w' => e = .returned (.string (txt (stripF (setF bytes.data.toList).contains l r s.data.toList))) ∧ Below w.heap.size w w' := by
  have hz := zero_among
  obtain ⟨BB, hBB, hBl, hcase⟩ : ∃ BB : ByteArray, BB.data.toList = setF bytes.data.toList ∧ BB.size ≤ 100000 ∧ ((bytes = ⟨#[]⟩ ∧ BB = ⟨#[32, 9, 10, 13, 11, 12]⟩) ∨ (0 < bytes.size ∧ BB = bytes)) := by
    by_cases h0 : bytes.size = 0
    · obtain rfl := text_nil h0
      exact ⟨⟨#[32, 9, 10, 13, 11, 12]⟩, rfl, by decide, .inl ⟨rfl, rfl⟩⟩
    · refine ⟨bytes, ?_, hb, .inr ⟨by omega, rfl⟩⟩
      unfold setF
      rw [if_neg]
      intro e
      have := size_data bytes
      rw [e] at this
      simp at this
      omega
  rw [← hBB]
  clear hBB
  rcases hcase with ⟨rfl, hB2⟩ | ⟨h0, rfl⟩
  · go_enter Tryz.func25, Tryz.ntmps25
    go_upto_region 3 with fail
    rw [← hB2]
    clear hB2
    go_wp2
    go_loopw [15] (fun i wr => ∃ k : Nat, k ≤ BB.size ∧ i = .int .i64 k ∧ Hid (Below w.heap.size w wr) ∧ Hid (wr.heap[w.heap.size]? = some (.cells (amC (BB.data.toList.take k)) 71 (0, 0)))) (fun i _ => BB.size - (intOf i).toNat)
    case atStart => exact ⟨0, Nat.zero_le _, rfl, hidden ((Below.refl _ _).alloc (Nat.le_refl _) _), hidden (by simpa using heap_alloc_new w (.cells (amC []) 71))⟩
    case round =>
      obtain ⟨k, hk, rfl, hb1, hrow⟩ := hrel
      by_cases hlt : k < BB.size
      · have hix := idx_at BB k hlt
        have hlt' : k < BB.data.toList.length := by rw [size_data]; exact hlt
        have hst := amC_set (BB.data.toList.take k) BB[k]
        have htk : BB.data.toList.take k ++ [BB[k]] = BB.data.toList.take (k + 1) := by rw [List.take_succ_eq_append_getElem hlt']; rfl
        have hget := amC_get (BB.data.toList.take k) BB[k]
        have hzl := BB[k].toNat_lt
        rw [htk] at hst
        obtain ⟨z, hz2⟩ : ∃ z, BB[k].toNat = z := ⟨_, rfl⟩
        rw [hz2] at hix hst hget hzl
        have hzi : (z : Int) < 256 := by omega
        have hcell : wr.cell? ⟨w.heap.size, z, none⟩ = some (.bool ((BB.data.toList.take k).contains BB[k])) := by
          rw [cell_of_row wr w.heap.size z _ _ _ hrow.out, hget]
        have hfz := frozen_of_row wr w.heap.size z _ _ hrow.out
        have R1 := hidden (hb1.out.setCell (Nat.le_refl _) (p := ⟨w.heap.size, z, none⟩) (.bool true))
        have R2 : Hid ((wr.setCell ⟨w.heap.size, z, none⟩ (.bool true)).heap[w.heap.size]? = some (.cells (amC (BB.data.toList.take (k + 1))) 71 (0, 0))) := hidden (by
          rw [← hst]; exact heap_setCell_same wr w.heap.size z _ _ _ hrow.out)
        obtain ⟨cv, hcv⟩ : ∃ cv, (BB.data.toList.take k).contains BB[k] = cv := ⟨_, rfl⟩
        rw [hcv] at hcell
        clear hst htk hget hz2 hcv hlt' hz
        go_wp2
        go_roundw
        case rel => exact ⟨k + 1, by omega, by go_num, R1, R2⟩
        case measure => simp [intOf]; omega
      · have hall : BB.data.toList.take k = BB.data.toList := List.take_of_length_le (by rw [size_data]; omega)
        rw [hall] at hrow
        have HAM := hidden (fun c : UInt8 => (cell_of_row wr w.heap.size c.toNat _ _ _ hrow.out).trans (amC_get BB.data.toList c))
        clear hrow hall
        obtain ⟨wz, hwz⟩ : ∃ x, x = wr := ⟨_, rfl⟩
        rw [← hwz] at HAM hb1 ⊢
        clear hwz
        go_wp2
        go_loop [0] (fun t => ∃ R : ByteArray, t = .string R ∧ R.size ≤ s.size ∧ Hid (stepL BB.data.toList.contains l R.data.toList = stepL BB.data.toList.contains l s.data.toList)) (fun t => szOf t)
        case atStart => exact ⟨s, rfl, Nat.le_refl _, hidden rfl⟩
        case round =>
          obtain ⟨R, rfl, hRs, hst⟩ := hrel
          by_cases hgo : l = true ∧ ∃ h : 0 < R.size, BB.data.toList.contains R[0] = true
          · obtain ⟨rfl, h0, hc⟩ := hgo
            have hne := text_ne R h0
            have hix : ∀ W, (Instr.index 9 (.string R) (.int .i64 0)).run Tryz.prog W = .ok (.int .u8 (R[0].toNat : Int)) W := fun W => idx_at R 0 h0 W
            have ham := HAM.out R[0]
            rw [hc] at ham
            have hzl := R[0].toNat_lt
            have hsl : ∀ W, (Instr.sliceAt 9 (.string R) (some (.int .i64 1)) none none).run Tryz.prog W = .ok (.string (R.extract 1 R.size)) W := fun W => slice_suf R 1 (by omega) W
            have hst2 : Hid (stepL BB.data.toList.contains true (R.extract 1 R.size).data.toList = stepL BB.data.toList.contains true s.data.toList) := hidden (by
              rw [← hst.out, head_cons R h0]
              simp only [stepL, if_true]
              rw [List.dropWhile_cons_of_pos hc])
            have hes : (R.extract 1 R.size).size + 1 = R.size := by rw [ByteArray.size_extract]; omega
            obtain ⟨z, hz2⟩ : ∃ z, R[0].toNat = z := ⟨_, rfl⟩
            rw [hz2] at hix ham hzl
            have hzi : (z : Int) < 256 := by omega
            obtain ⟨R2, hR2⟩ : ∃ R2, R.extract 1 R.size = R2 := ⟨_, rfl⟩
            rw [hR2] at hsl hst2 hes
            clear hc hz2 hR2 hst
            go_wp2
            go_round
            case rel => exact ⟨R2, rfl, by omega, hst2⟩
            case measure => simp [szOf]; omega
          · have HR : Hid (R.data.toList = stepL BB.data.toList.contains l s.data.toList) := hidden (by
              rw [← hst.out]
              unfold stepL
              cases l with
              | false => rfl
              | true =>
                rw [if_pos rfl]
                by_cases h0 : R.size = 0
                · obtain rfl := text_nil h0
                  rfl
                · rw [head_cons R (by omega), List.dropWhile_cons_of_neg (fun hc => hgo ⟨rfl, by omega, hc⟩)])
            have HEE : Hid (∀ S : ByteArray, S = txt (stepR BB.data.toList.contains r R.data.toList) → txt (stripF BB.data.toList.contains l r s.data.toList) = S) := hidden (by rintro S rfl; rw [strip_steps, HR.out])
            have hR0s : R.size ≤ 100000 := by omega
            clear HR
            have hcs : l = false ∨ (l = true ∧ R.size = 0) ∨ (l = true ∧ ∃ h : 0 < R.size, BB.data.toList.contains R[0] = false) := by
              cases l with
              | false => exact .inl rfl
              | true =>
                by_cases h0 : R.size = 0
                · exact .inr (.inl ⟨rfl, h0⟩)
                · refine .inr (.inr ⟨rfl, by omega, ?_⟩)
                  rw [← Bool.not_eq_true]
                  exact fun hc => hgo ⟨rfl, by omega, hc⟩
            clear hst hgo
            rcases hcs with rfl | ⟨rfl, h0⟩ | ⟨rfl, h0, hc⟩
            · go_wp2
              go_loop [0] (fun t => ∃ S : ByteArray, t = .string S ∧ S.size ≤ 100000 ∧ Hid (stepR BB.data.toList.contains r S.data.toList = stepR BB.data.toList.contains r R.data.toList)) (fun t => szOf t)
              case atStart => exact ⟨R, rfl, hR0s, hidden rfl⟩
              case round =>
                obtain ⟨S, rfl, hSs, hst3⟩ := hrel
                by_cases hgo3 : r = true ∧ ∃ n, ∃ h : S.size = n + 1, BB.data.toList.contains (S[n]'(by omega)) = true
                · obtain ⟨rfl, n, h1, hc⟩ := hgo3
                  have hne := text_ne S (by omega)
                  have hix := idx_at S n (by omega)
                  have hsl := slice_pre S n (by omega)
                  have ham := HAM.out (S[n]'(by omega))
                  rw [hc] at ham
                  have hzl := (S[n]'(by omega)).toNat_lt
                  have hst4 : Hid (stepR BB.data.toList.contains true (S.extract 0 n).data.toList = stepR BB.data.toList.contains true R.data.toList) := hidden (by
                    rw [← hst3.out, last_snoc S n h1]
                    simp only [stepR, if_true, List.reverse_append, List.reverse_cons, List.reverse_nil, List.nil_append, List.cons_append]
                    rw [List.dropWhile_cons_of_pos hc])
                  have hes : (S.extract 0 n).size + 1 = S.size := by rw [ByteArray.size_extract]; omega
                  obtain ⟨z, hz2⟩ : ∃ z, (S[n]'(by omega)).toNat = z := ⟨_, rfl⟩
                  rw [hz2] at hix ham hzl
                  have hzi : (z : Int) < 256 := by omega
                  obtain ⟨S2, hS2⟩ : ∃ S2, S.extract 0 n = S2 := ⟨_, rfl⟩
                  rw [hS2] at hsl hst4 hes
                  clear hc hz2 hS2 hst3
                  go_wp2
                  go_round
                  case rel => exact ⟨S2, rfl, by omega, hst4⟩
                  case measure => simp [szOf]; omega
                · have hS : Hid (S = txt (stepR BB.data.toList.contains r R.data.toList)) := hidden (by
                    rw [← hst3.out]
                    have e : stepR BB.data.toList.contains r S.data.toList = S.data.toList := by
                      unfold stepR
                      cases r with
                      | false => rfl
                      | true =>
                        rw [if_pos rfl]
                        by_cases h0 : S.size = 0
                        · obtain rfl := text_nil h0
                          rfl
                        · have h1 : S.size = (S.size - 1) + 1 := by omega
                          rw [last_snoc S _ h1]
                          simp only [List.reverse_append, List.reverse_cons, List.reverse_nil, List.nil_append, List.cons_append]
                          rw [List.dropWhile_cons_of_neg (fun hc => hgo3 ⟨rfl, _, h1, hc⟩)]
                          simp
                    rw [e]
                    rfl)
                  have HE := hidden (HEE.out S hS.out)
                  by_cases hr : r = true
                  · subst hr
                    by_cases h0 : S.size = 0
                    · have hne2 : (S.toList == []) = true := text_emp h0
                      clear h0
                      go_wp2
                      go_ret
                      exact ⟨ret_str HE.out.symm, hb1.out⟩
                    · obtain ⟨n, hn⟩ : ∃ n, S.size = n + 1 := ⟨S.size - 1, by omega⟩
                      have hc : BB.data.toList.contains (S[n]'(by omega)) = false := by
                        rw [← Bool.not_eq_true]
                        exact fun hc => hgo3 ⟨rfl, n, hn, hc⟩
                      have hne := text_ne S (by omega)
                      have hix := idx_at S n (by omega)
                      have ham := HAM.out (S[n]'(by omega))
                      rw [hc] at ham
                      have hzl := (S[n]'(by omega)).toNat_lt
                      obtain ⟨z, hz2⟩ : ∃ z, (S[n]'(by omega)).toNat = z := ⟨_, rfl⟩
                      rw [hz2] at hix ham hzl
                      have hzi : (z : Int) < 256 := by omega
                      clear hc hz2 hgo3
                      go_wp2
                      go_ret
                      exact ⟨ret_str HE.out.symm, hb1.out⟩
                  · obtain rfl : r = false := by simpa using hr
                    go_wp2
                    go_ret
                    exact ⟨ret_str HE.out.symm, hb1.out⟩
            · have hne : (R.toList == []) = true := text_emp h0
              have h0h := hidden h0
              clear h0
              go_wp2
              go_loop [0] (fun t => ∃ S : ByteArray, t = .string S ∧ S.size ≤ 100000 ∧ Hid (stepR BB.data.toList.contains r S.data.toList = stepR BB.data.toList.contains r R.data.toList)) (fun t => szOf t)
              case atStart => exact ⟨R, rfl, hR0s, hidden rfl⟩
              case round =>
                obtain ⟨S, rfl, hSs, hst3⟩ := hrel
                by_cases hgo3 : r = true ∧ ∃ n, ∃ h : S.size = n + 1, BB.data.toList.contains (S[n]'(by omega)) = true
                · obtain ⟨rfl, n, h1, hc⟩ := hgo3
                  have hne := text_ne S (by omega)
                  have hix := idx_at S n (by omega)
                  have hsl := slice_pre S n (by omega)
                  have ham := HAM.out (S[n]'(by omega))
                  rw [hc] at ham
                  have hzl := (S[n]'(by omega)).toNat_lt
                  have hst4 : Hid (stepR BB.data.toList.contains true (S.extract 0 n).data.toList = stepR BB.data.toList.contains true R.data.toList) := hidden (by
                    rw [← hst3.out, last_snoc S n h1]
                    simp only [stepR, if_true, List.reverse_append, List.reverse_cons, List.reverse_nil, List.nil_append, List.cons_append]
                    rw [List.dropWhile_cons_of_pos hc])
                  have hes : (S.extract 0 n).size + 1 = S.size := by rw [ByteArray.size_extract]; omega
                  obtain ⟨z, hz2⟩ : ∃ z, (S[n]'(by omega)).toNat = z := ⟨_, rfl⟩
                  rw [hz2] at hix ham hzl
                  have hzi : (z : Int) < 256 := by omega
                  obtain ⟨S2, hS2⟩ : ∃ S2, S.extract 0 n = S2 := ⟨_, rfl⟩
                  rw [hS2] at hsl hst4 hes
                  clear hc hz2 hS2 hst3
                  go_wp2
                  go_round
                  case rel => exact ⟨S2, rfl, by omega, hst4⟩
                  case measure => simp [szOf]; omega
                · have hS : Hid (S = txt (stepR BB.data.toList.contains r R.data.toList)) := hidden (by
                    rw [← hst3.out]
                    have e : stepR BB.data.toList.contains r S.data.toList = S.data.toList := by
                      unfold stepR
                      cases r with
                      | false => rfl
                      | true =>
                        rw [if_pos rfl]
                        by_cases h0 : S.size = 0
                        · obtain rfl := text_nil h0
                          rfl
                        · have h1 : S.size = (S.size - 1) + 1 := by omega
                          rw [last_snoc S _ h1]
                          simp only [List.reverse_append, List.reverse_cons, List.reverse_nil, List.nil_append, List.cons_append]
                          rw [List.dropWhile_cons_of_neg (fun hc => hgo3 ⟨rfl, _, h1, hc⟩)]
                          simp
                    rw [e]
                    rfl)
                  have HE := hidden (HEE.out S hS.out)
                  by_cases hr : r = true
                  · subst hr
                    by_cases h0 : S.size = 0
                    · have hne2 : (S.toList == []) = true := text_emp h0
                      clear h0
                      go_wp2
                      go_ret
                      exact ⟨ret_str HE.out.symm, hb1.out⟩
                    · obtain ⟨n, hn⟩ : ∃ n, S.size = n + 1 := ⟨S.size - 1, by omega⟩
                      have hc : BB.data.toList.contains (S[n]'(by omega)) = false := by
                        rw [← Bool.not_eq_true]
                        exact fun hc => hgo3 ⟨rfl, n, hn, hc⟩
                      have hne := text_ne S (by omega)
                      have hix := idx_at S n (by omega)
                      have ham := HAM.out (S[n]'(by omega))
                      rw [hc] at ham
                      have hzl := (S[n]'(by omega)).toNat_lt
                      obtain ⟨z, hz2⟩ : ∃ z, (S[n]'(by omega)).toNat = z := ⟨_, rfl⟩
                      rw [hz2] at hix ham hzl
                      have hzi : (z : Int) < 256 := by omega
                      clear hc hz2 hgo3
                      go_wp2
                      go_ret
                      exact ⟨ret_str HE.out.symm, hb1.out⟩
                  · obtain rfl : r = false := by simpa using hr
                    go_wp2
                    go_ret
                    exact ⟨ret_str HE.out.symm, hb1.out⟩
            · have hne := text_ne R h0
              have hix : ∀ W, (Instr.index 9 (.string R) (.int .i64 0)).run Tryz.prog W = .ok (.int .u8 (R[0].toNat : Int)) W := fun W => idx_at R 0 h0 W
              have ham := HAM.out R[0]
              rw [hc] at ham
              have hzl := R[0].toNat_lt
              obtain ⟨z, hz2⟩ : ∃ z, R[0].toNat = z := ⟨_, rfl⟩
              rw [hz2] at hix ham hzl
              have hzi : (z : Int) < 256 := by omega
              clear hc hz2
              go_wp2
              go_loop [0] (fun t => ∃ S : ByteArray, t = .string S ∧ S.size ≤ 100000 ∧ Hid (stepR BB.data.toList.contains r S.data.toList = stepR BB.data.toList.contains r R.data.toList)) (fun t => szOf t)
              case atStart => exact ⟨R, rfl, hR0s, hidden rfl⟩
              case round =>
                obtain ⟨S, rfl, hSs, hst3⟩ := hrel
                by_cases hgo3 : r = true ∧ ∃ n, ∃ h : S.size = n + 1, BB.data.toList.contains (S[n]'(by omega)) = true
                · obtain ⟨rfl, n, h1, hc⟩ := hgo3
                  have hne := text_ne S (by omega)
                  have hix := idx_at S n (by omega)
                  have hsl := slice_pre S n (by omega)
                  have ham := HAM.out (S[n]'(by omega))
                  rw [hc] at ham
                  have hzl := (S[n]'(by omega)).toNat_lt
                  have hst4 : Hid (stepR BB.data.toList.contains true (S.extract 0 n).data.toList = stepR BB.data.toList.contains true R.data.toList) := hidden (by
                    rw [← hst3.out, last_snoc S n h1]
                    simp only [stepR, if_true, List.reverse_append, List.reverse_cons, List.reverse_nil, List.nil_append, List.cons_append]
                    rw [List.dropWhile_cons_of_pos hc])
                  have hes : (S.extract 0 n).size + 1 = S.size := by rw [ByteArray.size_extract]; omega
                  obtain ⟨z, hz2⟩ : ∃ z, (S[n]'(by omega)).toNat = z := ⟨_, rfl⟩
                  rw [hz2] at hix ham hzl
                  have hzi : (z : Int) < 256 := by omega
                  obtain ⟨S2, hS2⟩ : ∃ S2, S.extract 0 n = S2 := ⟨_, rfl⟩
                  rw [hS2] at hsl hst4 hes
                  clear hc hz2 hS2 hst3
                  go_wp2
                  go_round
                  case rel => exact ⟨S2, rfl, by omega, hst4⟩
                  case measure => simp [szOf]; omega
                · have hS : Hid (S = txt (stepR BB.data.toList.contains r R.data.toList)) := hidden (by
                    rw [← hst3.out]
                    have e : stepR BB.data.toList.contains r S.data.toList = S.data.toList := by
                      unfold stepR
                      cases r with
                      | false => rfl
                      | true =>
                        rw [if_pos rfl]
                        by_cases h0 : S.size = 0
                        · obtain rfl := text_nil h0
                          rfl
                        · have h1 : S.size = (S.size - 1) + 1 := by omega
                          rw [last_snoc S _ h1]
                          simp only [List.reverse_append, List.reverse_cons, List.reverse_nil, List.nil_append, List.cons_append]
                          rw [List.dropWhile_cons_of_neg (fun hc => hgo3 ⟨rfl, _, h1, hc⟩)]
                          simp
                    rw [e]
                    rfl)
                  have HE := hidden (HEE.out S hS.out)
                  by_cases hr : r = true
                  · subst hr
                    by_cases h0 : S.size = 0
                    · have hne2 : (S.toList == []) = true := text_emp h0
                      clear h0
                      go_wp2
                      go_ret
                      exact ⟨ret_str HE.out.symm, hb1.out⟩
                    · obtain ⟨n, hn⟩ : ∃ n, S.size = n + 1 := ⟨S.size - 1, by omega⟩
                      have hc : BB.data.toList.contains (S[n]'(by omega)) = false := by
                        rw [← Bool.not_eq_true]
                        exact fun hc => hgo3 ⟨rfl, n, hn, hc⟩
                      have hne := text_ne S (by omega)
                      have hix := idx_at S n (by omega)
                      have ham := HAM.out (S[n]'(by omega))
                      rw [hc] at ham
                      have hzl := (S[n]'(by omega)).toNat_lt
                      obtain ⟨z, hz2⟩ : ∃ z, (S[n]'(by omega)).toNat = z := ⟨_, rfl⟩
                      rw [hz2] at hix ham hzl
                      have hzi : (z : Int) < 256 := by omega
                      clear hc hz2 hgo3
                      go_wp2
                      go_ret
                      exact ⟨ret_str HE.out.symm, hb1.out⟩
                  · obtain rfl : r = false := by simpa using hr
                    go_wp2
                    go_ret
                    exact ⟨ret_str HE.out.symm, hb1.out⟩
  · have hne := text_ne BB h0
    go_enter Tryz.func25, Tryz.ntmps25
    go_upto_region 3 with fail
    go_wp2
    go_loopw [15] (fun i wr => ∃ k : Nat, k ≤ BB.size ∧ i = .int .i64 k ∧ Hid (Below w.heap.size w wr) ∧ Hid (wr.heap[w.heap.size]? = some (.cells (amC (BB.data.toList.take k)) 71 (0, 0)))) (fun i _ => BB.size - (intOf i).toNat)
    case atStart => exact ⟨0, Nat.zero_le _, rfl, hidden ((Below.refl _ _).alloc (Nat.le_refl _) _), hidden (by simpa using heap_alloc_new w (.cells (amC []) 71))⟩
    case round =>
      obtain ⟨k, hk, rfl, hb1, hrow⟩ := hrel
      by_cases hlt : k < BB.size
      · have hix := idx_at BB k hlt
        have hlt' : k < BB.data.toList.length := by rw [size_data]; exact hlt
        have hst := amC_set (BB.data.toList.take k) BB[k]
        have htk : BB.data.toList.take k ++ [BB[k]] = BB.data.toList.take (k + 1) := by rw [List.take_succ_eq_append_getElem hlt']; rfl
        have hget := amC_get (BB.data.toList.take k) BB[k]
        have hzl := BB[k].toNat_lt
        rw [htk] at hst
        obtain ⟨z, hz2⟩ : ∃ z, BB[k].toNat = z := ⟨_, rfl⟩
        rw [hz2] at hix hst hget hzl
        have hzi : (z : Int) < 256 := by omega
        have hcell : wr.cell? ⟨w.heap.size, z, none⟩ = some (.bool ((BB.data.toList.take k).contains BB[k])) := by
          rw [cell_of_row wr w.heap.size z _ _ _ hrow.out, hget]
        have hfz := frozen_of_row wr w.heap.size z _ _ hrow.out
        have R1 := hidden (hb1.out.setCell (Nat.le_refl _) (p := ⟨w.heap.size, z, none⟩) (.bool true))
        have R2 : Hid ((wr.setCell ⟨w.heap.size, z, none⟩ (.bool true)).heap[w.heap.size]? = some (.cells (amC (BB.data.toList.take (k + 1))) 71 (0, 0))) := hidden (by
          rw [← hst]; exact heap_setCell_same wr w.heap.size z _ _ _ hrow.out)
        obtain ⟨cv, hcv⟩ : ∃ cv, (BB.data.toList.take k).contains BB[k] = cv := ⟨_, rfl⟩
        rw [hcv] at hcell
        clear hst htk hget hz2 hcv hlt' hz
        go_wp2
        go_roundw
        case rel => exact ⟨k + 1, by omega, by go_num, R1, R2⟩
        case measure => simp [intOf]; omega
      · have hall : BB.data.toList.take k = BB.data.toList := List.take_of_length_le (by rw [size_data]; omega)
        rw [hall] at hrow
        have HAM := hidden (fun c : UInt8 => (cell_of_row wr w.heap.size c.toNat _ _ _ hrow.out).trans (amC_get BB.data.toList c))
        clear hrow hall
        obtain ⟨wz, hwz⟩ : ∃ x, x = wr := ⟨_, rfl⟩
        rw [← hwz] at HAM hb1 ⊢
        clear hwz
        go_wp2
        go_loop [0] (fun t => ∃ R : ByteArray, t = .string R ∧ R.size ≤ s.size ∧ Hid (stepL BB.data.toList.contains l R.data.toList = stepL BB.data.toList.contains l s.data.toList)) (fun t => szOf t)
        case atStart => exact ⟨s, rfl, Nat.le_refl _, hidden rfl⟩
        case round =>
          obtain ⟨R, rfl, hRs, hst⟩ := hrel
          by_cases hgo : l = true ∧ ∃ h : 0 < R.size, BB.data.toList.contains R[0] = true
          · obtain ⟨rfl, h0, hc⟩ := hgo
            have hne := text_ne R h0
            have hix : ∀ W, (Instr.index 9 (.string R) (.int .i64 0)).run Tryz.prog W = .ok (.int .u8 (R[0].toNat : Int)) W := fun W => idx_at R 0 h0 W
            have ham := HAM.out R[0]
            rw [hc] at ham
            have hzl := R[0].toNat_lt
            have hsl : ∀ W, (Instr.sliceAt 9 (.string R) (some (.int .i64 1)) none none).run Tryz.prog W = .ok (.string (R.extract 1 R.size)) W := fun W => slice_suf R 1 (by omega) W
            have hst2 : Hid (stepL BB.data.toList.contains true (R.extract 1 R.size).data.toList = stepL BB.data.toList.contains true s.data.toList) := hidden (by
              rw [← hst.out, head_cons R h0]
              simp only [stepL, if_true]
              rw [List.dropWhile_cons_of_pos hc])
            have hes : (R.extract 1 R.size).size + 1 = R.size := by rw [ByteArray.size_extract]; omega
            obtain ⟨z, hz2⟩ : ∃ z, R[0].toNat = z := ⟨_, rfl⟩
            rw [hz2] at hix ham hzl
            have hzi : (z : Int) < 256 := by omega
            obtain ⟨R2, hR2⟩ : ∃ R2, R.extract 1 R.size = R2 := ⟨_, rfl⟩
            rw [hR2] at hsl hst2 hes
            clear hc hz2 hR2 hst
            go_wp2
            go_round
            case rel => exact ⟨R2, rfl, by omega, hst2⟩
            case measure => simp [szOf]; omega
          · have HR : Hid (R.data.toList = stepL BB.data.toList.contains l s.data.toList) := hidden (by
              rw [← hst.out]
              unfold stepL
              cases l with
              | false => rfl
              | true =>
                rw [if_pos rfl]
                by_cases h0 : R.size = 0
                · obtain rfl := text_nil h0
                  rfl
                · rw [head_cons R (by omega), List.dropWhile_cons_of_neg (fun hc => hgo ⟨rfl, by omega, hc⟩)])
            have HEE : Hid (∀ S : ByteArray, S = txt (stepR BB.data.toList.contains r R.data.toList) → txt (stripF BB.data.toList.contains l r s.data.toList) = S) := hidden (by rintro S rfl; rw [strip_steps, HR.out])
            have hR0s : R.size ≤ 100000 := by omega
            clear HR
            have hcs : l = false ∨ (l = true ∧ R.size = 0) ∨ (l = true ∧ ∃ h : 0 < R.size, BB.data.toList.contains R[0] = false) := by
              cases l with
              | false => exact .inl rfl
              | true =>
                by_cases h0 : R.size = 0
                · exact .inr (.inl ⟨rfl, h0⟩)
                · refine .inr (.inr ⟨rfl, by omega, ?_⟩)
                  rw [← Bool.not_eq_true]
                  exact fun hc => hgo ⟨rfl, by omega, hc⟩
            clear hst hgo
            rcases hcs with rfl | ⟨rfl, h0⟩ | ⟨rfl, h0, hc⟩
            · go_wp2
              go_loop [0] (fun t => ∃ S : ByteArray, t = .string S ∧ S.size ≤ 100000 ∧ Hid (stepR BB.data.toList.contains r S.data.toList = stepR BB.data.toList.contains r R.data.toList)) (fun t => szOf t)
              case atStart => exact ⟨R, rfl, hR0s, hidden rfl⟩
              case round =>
                obtain ⟨S, rfl, hSs, hst3⟩ := hrel
                by_cases hgo3 : r = true ∧ ∃ n, ∃ h : S.size = n + 1, BB.data.toList.contains (S[n]'(by omega)) = true
                · obtain ⟨rfl, n, h1, hc⟩ := hgo3
                  have hne := text_ne S (by omega)
                  have hix := idx_at S n (by omega)
                  have hsl := slice_pre S n (by omega)
                  have ham := HAM.out (S[n]'(by omega))
                  rw [hc] at ham
                  have hzl := (S[n]'(by omega)).toNat_lt
                  have hst4 : Hid (stepR BB.data.toList.contains true (S.extract 0 n).data.toList = stepR BB.data.toList.contains true R.data.toList) := hidden (by
                    rw [← hst3.out, last_snoc S n h1]
                    simp only [stepR, if_true, List.reverse_append, List.reverse_cons, List.reverse_nil, List.nil_append, List.cons_append]
                    rw [List.dropWhile_cons_of_pos hc])
                  have hes : (S.extract 0 n).size + 1 = S.size := by rw [ByteArray.size_extract]; omega
                  obtain ⟨z, hz2⟩ : ∃ z, (S[n]'(by omega)).toNat = z := ⟨_, rfl⟩
                  rw [hz2] at hix ham hzl
                  have hzi : (z : Int) < 256 := by omega
                  obtain ⟨S2, hS2⟩ : ∃ S2, S.extract 0 n = S2 := ⟨_, rfl⟩
                  rw [hS2] at hsl hst4 hes
                  clear hc hz2 hS2 hst3
                  go_wp2
                  go_round
                  case rel => exact ⟨S2, rfl, by omega, hst4⟩
                  case measure => simp [szOf]; omega
                · have hS : Hid (S = txt (stepR BB.data.toList.contains r R.data.toList)) := hidden (by
                    rw [← hst3.out]
                    have e : stepR BB.data.toList.contains r S.data.toList = S.data.toList := by
                      unfold stepR
                      cases r with
                      | false => rfl
                      | true =>
                        rw [if_pos rfl]
                        by_cases h0 : S.size = 0
                        · obtain rfl := text_nil h0
                          rfl
                        · have h1 : S.size = (S.size - 1) + 1 := by omega
                          rw [last_snoc S _ h1]
                          simp only [List.reverse_append, List.reverse_cons, List.reverse_nil, List.nil_append, List.cons_append]
                          rw [List.dropWhile_cons_of_neg (fun hc => hgo3 ⟨rfl, _, h1, hc⟩)]
                          simp
                    rw [e]
                    rfl)
                  have HE := hidden (HEE.out S hS.out)
                  by_cases hr : r = true
                  · subst hr
                    by_cases h0 : S.size = 0
                    · have hne2 : (S.toList == []) = true := text_emp h0
                      clear h0
                      go_wp2
                      go_ret
                      exact ⟨ret_str HE.out.symm, hb1.out⟩
                    · obtain ⟨n, hn⟩ : ∃ n, S.size = n + 1 := ⟨S.size - 1, by omega⟩
                      have hc : BB.data.toList.contains (S[n]'(by omega)) = false := by
                        rw [← Bool.not_eq_true]
                        exact fun hc => hgo3 ⟨rfl, n, hn, hc⟩
                      have hne := text_ne S (by omega)
                      have hix := idx_at S n (by omega)
                      have ham := HAM.out (S[n]'(by omega))
                      rw [hc] at ham
                      have hzl := (S[n]'(by omega)).toNat_lt
                      obtain ⟨z, hz2⟩ : ∃ z, (S[n]'(by omega)).toNat = z := ⟨_, rfl⟩
                      rw [hz2] at hix ham hzl
                      have hzi : (z : Int) < 256 := by omega
                      clear hc hz2 hgo3
                      go_wp2
                      go_ret
                      exact ⟨ret_str HE.out.symm, hb1.out⟩
                  · obtain rfl : r = false := by simpa using hr
                    go_wp2
                    go_ret
                    exact ⟨ret_str HE.out.symm, hb1.out⟩
            · have hne : (R.toList == []) = true := text_emp h0
              have h0h := hidden h0
              clear h0
              go_wp2
              go_loop [0] (fun t => ∃ S : ByteArray, t = .string S ∧ S.size ≤ 100000 ∧ Hid (stepR BB.data.toList.contains r S.data.toList = stepR BB.data.toList.contains r R.data.toList)) (fun t => szOf t)
              case atStart => exact ⟨R, rfl, hR0s, hidden rfl⟩
              case round =>
                obtain ⟨S, rfl, hSs, hst3⟩ := hrel
                by_cases hgo3 : r = true ∧ ∃ n, ∃ h : S.size = n + 1, BB.data.toList.contains (S[n]'(by omega)) = true
                · obtain ⟨rfl, n, h1, hc⟩ := hgo3
                  have hne := text_ne S (by omega)
                  have hix := idx_at S n (by omega)
                  have hsl := slice_pre S n (by omega)
                  have ham := HAM.out (S[n]'(by omega))
                  rw [hc] at ham
                  have hzl := (S[n]'(by omega)).toNat_lt
                  have hst4 : Hid (stepR BB.data.toList.contains true (S.extract 0 n).data.toList = stepR BB.data.toList.contains true R.data.toList) := hidden (by
                    rw [← hst3.out, last_snoc S n h1]
                    simp only [stepR, if_true, List.reverse_append, List.reverse_cons, List.reverse_nil, List.nil_append, List.cons_append]
                    rw [List.dropWhile_cons_of_pos hc])
                  have hes : (S.extract 0 n).size + 1 = S.size := by rw [ByteArray.size_extract]; omega
                  obtain ⟨z, hz2⟩ : ∃ z, (S[n]'(by omega)).toNat = z := ⟨_, rfl⟩
                  rw [hz2] at hix ham hzl
                  have hzi : (z : Int) < 256 := by omega
                  obtain ⟨S2, hS2⟩ : ∃ S2, S.extract 0 n = S2 := ⟨_, rfl⟩
                  rw [hS2] at hsl hst4 hes
                  clear hc hz2 hS2 hst3
                  go_wp2
                  go_round
                  case rel => exact ⟨S2, rfl, by omega, hst4⟩
                  case measure => simp [szOf]; omega
                · have hS : Hid (S = txt (stepR BB.data.toList.contains r R.data.toList)) := hidden (by
                    rw [← hst3.out]
                    have e : stepR BB.data.toList.contains r S.data.toList = S.data.toList := by
                      unfold stepR
                      cases r with
                      | false => rfl
                      | true =>
                        rw [if_pos rfl]
                        by_cases h0 : S.size = 0
                        · obtain rfl := text_nil h0
                          rfl
                        · have h1 : S.size = (S.size - 1) + 1 := by omega
                          rw [last_snoc S _ h1]
                          simp only [List.reverse_append, List.reverse_cons, List.reverse_nil, List.nil_append, List.cons_append]
                          rw [List.dropWhile_cons_of_neg (fun hc => hgo3 ⟨rfl, _, h1, hc⟩)]
                          simp
                    rw [e]
                    rfl)
                  have HE := hidden (HEE.out S hS.out)
                  by_cases hr : r = true
                  · subst hr
                    by_cases h0 : S.size = 0
                    · have hne2 : (S.toList == []) = true := text_emp h0
                      clear h0
                      go_wp2
                      go_ret
                      exact ⟨ret_str HE.out.symm, hb1.out⟩
                    · obtain ⟨n, hn⟩ : ∃ n, S.size = n + 1 := ⟨S.size - 1, by omega⟩
                      have hc : BB.data.toList.contains (S[n]'(by omega)) = false := by
                        rw [← Bool.not_eq_true]
                        exact fun hc => hgo3 ⟨rfl, n, hn, hc⟩
                      have hne := text_ne S (by omega)
                      have hix := idx_at S n (by omega)
                      have ham := HAM.out (S[n]'(by omega))
                      rw [hc] at ham
                      have hzl := (S[n]'(by omega)).toNat_lt
                      obtain ⟨z, hz2⟩ : ∃ z, (S[n]'(by omega)).toNat = z := ⟨_, rfl⟩
                      rw [hz2] at hix ham hzl
                      have hzi : (z : Int) < 256 := by omega
                      clear hc hz2 hgo3
                      go_wp2
                      go_ret
                      exact ⟨ret_str HE.out.symm, hb1.out⟩
                  · obtain rfl : r = false := by simpa using hr
                    go_wp2
                    go_ret
                    exact ⟨ret_str HE.out.symm, hb1.out⟩
            · have hne := text_ne R h0
              have hix : ∀ W, (Instr.index 9 (.string R) (.int .i64 0)).run Tryz.prog W = .ok (.int .u8 (R[0].toNat : Int)) W := fun W => idx_at R 0 h0 W
              have ham := HAM.out R[0]
              rw [hc] at ham
              have hzl := R[0].toNat_lt
              obtain ⟨z, hz2⟩ : ∃ z, R[0].toNat = z := ⟨_, rfl⟩
              rw [hz2] at hix ham hzl
              have hzi : (z : Int) < 256 := by omega
              clear hc hz2
              go_wp2
              go_loop [0] (fun t => ∃ S : ByteArray, t = .string S ∧ S.size ≤ 100000 ∧ Hid (stepR BB.data.toList.contains r S.data.toList = stepR BB.data.toList.contains r R.data.toList)) (fun t => szOf t)
              case atStart => exact ⟨R, rfl, hR0s, hidden rfl⟩
              case round =>
                obtain ⟨S, rfl, hSs, hst3⟩ := hrel
                by_cases hgo3 : r = true ∧ ∃ n, ∃ h : S.size = n + 1, BB.data.toList.contains (S[n]'(by omega)) = true
                · obtain ⟨rfl, n, h1, hc⟩ := hgo3
                  have hne := text_ne S (by omega)
                  have hix := idx_at S n (by omega)
                  have hsl := slice_pre S n (by omega)
                  have ham := HAM.out (S[n]'(by omega))
                  rw [hc] at ham
                  have hzl := (S[n]'(by omega)).toNat_lt
                  have hst4 : Hid (stepR BB.data.toList.contains true (S.extract 0 n).data.toList = stepR BB.data.toList.contains true R.data.toList) := hidden (by
                    rw [← hst3.out, last_snoc S n h1]
                    simp only [stepR, if_true, List.reverse_append, List.reverse_cons, List.reverse_nil, List.nil_append, List.cons_append]
                    rw [List.dropWhile_cons_of_pos hc])
                  have hes : (S.extract 0 n).size + 1 = S.size := by rw [ByteArray.size_extract]; omega
                  obtain ⟨z, hz2⟩ : ∃ z, (S[n]'(by omega)).toNat = z := ⟨_, rfl⟩
                  rw [hz2] at hix ham hzl
                  have hzi : (z : Int) < 256 := by omega
                  obtain ⟨S2, hS2⟩ : ∃ S2, S.extract 0 n = S2 := ⟨_, rfl⟩
                  rw [hS2] at hsl hst4 hes
                  clear hc hz2 hS2 hst3
                  go_wp2
                  go_round
                  case rel => exact ⟨S2, rfl, by omega, hst4⟩
                  case measure => simp [szOf]; omega
                · have hS : Hid (S = txt (stepR BB.data.toList.contains r R.data.toList)) := hidden (by
                    rw [← hst3.out]
                    have e : stepR BB.data.toList.contains r S.data.toList = S.data.toList := by
                      unfold stepR
                      cases r with
                      | false => rfl
                      | true =>
                        rw [if_pos rfl]
                        by_cases h0 : S.size = 0
                        · obtain rfl := text_nil h0
                          rfl
                        · have h1 : S.size = (S.size - 1) + 1 := by omega
                          rw [last_snoc S _ h1]
                          simp only [List.reverse_append, List.reverse_cons, List.reverse_nil, List.nil_append, List.cons_append]
                          rw [List.dropWhile_cons_of_neg (fun hc => hgo3 ⟨rfl, _, h1, hc⟩)]
                          simp
                    rw [e]
                    rfl)
                  have HE := hidden (HEE.out S hS.out)
                  by_cases hr : r = true
                  · subst hr
                    by_cases h0 : S.size = 0
                    · have hne2 : (S.toList == []) = true := text_emp h0
                      clear h0
                      go_wp2
                      go_ret
                      exact ⟨ret_str HE.out.symm, hb1.out⟩
                    · obtain ⟨n, hn⟩ : ∃ n, S.size = n + 1 := ⟨S.size - 1, by omega⟩
                      have hc : BB.data.toList.contains (S[n]'(by omega)) = false := by
                        rw [← Bool.not_eq_true]
                        exact fun hc => hgo3 ⟨rfl, n, hn, hc⟩
                      have hne := text_ne S (by omega)
                      have hix := idx_at S n (by omega)
                      have ham := HAM.out (S[n]'(by omega))
                      rw [hc] at ham
                      have hzl := (S[n]'(by omega)).toNat_lt
                      obtain ⟨z, hz2⟩ : ∃ z, (S[n]'(by omega)).toNat = z := ⟨_, rfl⟩
                      rw [hz2] at hix ham hzl
                      have hzi : (z : Int) < 256 := by omega
                      clear hc hz2 hgo3
                      go_wp2
                      go_ret
                      exact ⟨ret_str HE.out.symm, hb1.out⟩
                  · obtain rfl : r = false := by simpa using hr
                    go_wp2
                    go_ret
                    exact ⟨ret_str HE.out.symm, hb1.out⟩
end St
end Go.Proofs.YtdiocmcfaneajaaGreatDoor
