/- The document's texts of numbers: four, Text, Digits. Conditions: short numbers. -/
import Derived.Test.YtapdkibiegeijaaDoorRvC
import Derived.Test.YtapdkibiegeijaaDoorTake
import Derived.Deep.Cut
import Derived.Lib.Strings

namespace Go.Proofs.YtapdkibiegeijaaDoor
open Go.RowKit
namespace Rv
open Nm (dN txt)
open Go.Lib

/-- A limb's digits as bytes. -/
def fourB (x : Nat) : ByteArray := ⟨(dN 4 x).toArray⟩
def tenB : ByteArray := ⟨#[48, 49, 50, 51, 52, 53, 54, 55, 56, 57]⟩
theorem ten_at (d : Nat) (h : d < 10) : tenB.extract d (d + 1) = ⟨#[UInt8.ofNat (48 + d)]⟩ := by
  match d, h with
  | 0, _ => rfl
  | 1, _ => rfl
  | 2, _ => rfl
  | 3, _ => rfl
  | 4, _ => rfl
  | 5, _ => rfl
  | 6, _ => rfl
  | 7, _ => rfl
  | 8, _ => rfl
  | 9, _ => rfl
theorem slice_ten (d : Nat) (wx : World) (h : d < 10) : (Instr.slice 9 (.string ⟨#[48, 49, 50, 51, 52, 53, 54, 55, 56, 57]⟩) (some (.int .i64 (d : Int))) (some (.int .i64 ((d : Int) + 1))) none).run Tryd.prog wx = .ok (.string ⟨#[UInt8.ofNat (48 + d)]⟩) wx := by
  have e := run_slice_string (P := Tryd.prog) wx 9 tenB .i64 .i64 (d : Int) ((d : Int) + 1) Tryd.underlying9 (by omega) (by omega) (by show (d : Int) + 1 ≤ 10; omega)
  rw [show ((d : Int)).toNat = d by omega, show ((d : Int) + 1).toNat = d + 1 by omega, ten_at d h] at e
  exact e
set_option maxHeartbeats 3200000 in
theorem four_any (x : Nat) (w : World) (hx : x < 10000) :
    Calls Tryd.prog 45 #[.int .i64 (x : Int)] w fun e w' => e = .returned (.string (fourB x)) ∧ Below w.heap.size w w' := by
  obtain ⟨a, ha⟩ : ∃ d, x / 1000 = d := ⟨_, rfl⟩
  obtain ⟨b, hb⟩ : ∃ d, x / 100 % 10 = d := ⟨_, rfl⟩
  obtain ⟨c, hc⟩ : ∃ d, x / 10 % 10 = d := ⟨_, rfl⟩
  obtain ⟨d, hd⟩ : ∃ d, x % 10 = d := ⟨_, rfl⟩
  have qa : Int.tdiv (x : Int) 1000 = (a : Int) := by rw [Int.tdiv_eq_ediv_of_nonneg (by omega)]; omega
  have qb1 : Int.tdiv (x : Int) 100 = ((x / 100 : Nat) : Int) := by rw [Int.tdiv_eq_ediv_of_nonneg (by omega)]; omega
  have qb : Int.tmod ((x / 100 : Nat) : Int) 10 = (b : Int) := by rw [Int.tmod_eq_emod_of_nonneg (by omega)]; omega
  have qc1 : Int.tdiv (x : Int) 10 = ((x / 10 : Nat) : Int) := by rw [Int.tdiv_eq_ediv_of_nonneg (by omega)]; omega
  have qc : Int.tmod ((x / 10 : Nat) : Int) 10 = (c : Int) := by rw [Int.tmod_eq_emod_of_nonneg (by omega)]; omega
  have qd : Int.tmod (x : Int) 10 = (d : Int) := by rw [Int.tmod_eq_emod_of_nonneg (by omega)]; omega
  have HE := hidden (show fourB x = ⟨#[UInt8.ofNat (48 + a)]⟩ ++ ⟨#[UInt8.ofNat (48 + b)]⟩ ++ ⟨#[UInt8.ofNat (48 + c)]⟩ ++ ⟨#[UInt8.ofNat (48 + d)]⟩ from by
    rw [← ha, ← hb, ← hc, ← hd]
    unfold fourB
    simp only [dN, List.nil_append]
    rw [show x / 10 / 10 / 10 = x / 1000 by omega, show x / 10 / 10 = x / 100 by omega, show x / 1000 % 10 = x / 1000 by omega]
    rfl)
  have la : a < 10 := by omega
  have lb : b < 10 := by omega
  have lc : c < 10 := by omega
  have ld : d < 10 := by omega
  have hyl : x / 100 < 1000 := by omega
  have hzl : x / 10 < 1000 := by omega
  obtain ⟨y, hy⟩ : ∃ y, x / 100 = y := ⟨_, rfl⟩
  obtain ⟨z, hz⟩ : ∃ y, x / 10 = y := ⟨_, rfl⟩
  rw [hy] at qb1 qb hyl
  rw [hz] at qc1 qc hzl
  have ea := ten_at a la
  have eb := ten_at b lb
  have ec := ten_at c lc
  have ed := ten_at d ld
  have sa := fun wx => slice_ten a wx la
  have sb := fun wx => slice_ten b wx lb
  have sc := fun wx => slice_ten c wx lc
  have sd := fun wx => slice_ten d wx ld
  clear ea eb ec ed
  clear ha hb hc hd hy hz
  go_enter Tryd.func45, Tryd.ntmps45
  go_wp2
  refine wp_region_held_drew (S := fun W => Below w.heap.size w W) (by kernel_rfl) (Below.refl _ _).drew (fun hH0 => ?_)
  refine take_val' (i := 0) (v := (.string ⟨#[48, 49, 50, 51, 52, 53, 54, 55, 56, 57]⟩)) rfl (by kernel_rfl) (by kernel_rfl) (by kernel_rfl) (some 18) rfl (fun _ _ _ h => h) (Or.inl ⟨by rfl, fun W hW => by go_simp⟩) hH0 ?_
  try simp only [Act.put, List.setIfInBounds_toArray, List.set_cons_zero, List.set_cons_succ]
  refine take_val' (i := 1) (v := (.int .i64 (a : Int))) rfl (by kernel_rfl) (by kernel_rfl) (by kernel_rfl) (some 19) rfl (fun _ _ _ h => h) (Or.inl ⟨by rfl, fun W hW => by go_simp⟩) hH0 ?_
  try simp only [Act.put, List.setIfInBounds_toArray, List.set_cons_zero, List.set_cons_succ]
  refine take_val' (i := 2) (v := (.int .i64 (a : Int))) rfl (by kernel_rfl) (by kernel_rfl) (by kernel_rfl) (some 20) rfl (fun _ _ _ h => h) (Or.inl ⟨by rfl, fun W hW => by go_simp⟩) hH0 ?_
  try simp only [Act.put, List.setIfInBounds_toArray, List.set_cons_zero, List.set_cons_succ]
  refine take_val' (i := 3) (v := (.int .i64 ((a : Int) + 1))) rfl (by kernel_rfl) (by kernel_rfl) (by kernel_rfl) (some 21) rfl (fun _ _ _ h => h) (Or.inl ⟨by rfl, fun W hW => by have h6 : IntKind.i64.wrap ((a : Int) + 1) = (a : Int) + 1 := (by first | (simp only [IntKind.wrap, IntKind.bits, IntKind.signed]; omega) | (rw [IntKind.wrap_i64]; omega)); go_simp⟩) hH0 ?_
  try simp only [Act.put, List.setIfInBounds_toArray, List.set_cons_zero, List.set_cons_succ]
  refine take_val' (i := 4) (v := (.string ⟨#[UInt8.ofNat (48 + a)]⟩)) rfl (by kernel_rfl) (by kernel_rfl) (by kernel_rfl) (some 22) rfl (fun _ _ _ h => h) (Or.inl ⟨by rfl, fun W hW => by have h5 := sa W; go_simp⟩) hH0 ?_
  try simp only [Act.put, List.setIfInBounds_toArray, List.set_cons_zero, List.set_cons_succ]
  refine take_val' (i := 5) (v := (.string ⟨#[48, 49, 50, 51, 52, 53, 54, 55, 56, 57]⟩)) rfl (by kernel_rfl) (by kernel_rfl) (by kernel_rfl) (some 23) rfl (fun _ _ _ h => h) (Or.inl ⟨by rfl, fun W hW => by go_simp⟩) hH0 ?_
  try simp only [Act.put, List.setIfInBounds_toArray, List.set_cons_zero, List.set_cons_succ]
  refine take_val' (i := 6) (v := (.int .i64 (b : Int))) rfl (by kernel_rfl) (by kernel_rfl) (by kernel_rfl) (some 24) rfl (fun _ _ _ h => h) (Or.inl ⟨by rfl, fun W hW => by go_simp⟩) hH0 ?_
  try simp only [Act.put, List.setIfInBounds_toArray, List.set_cons_zero, List.set_cons_succ]
  refine take_val' (i := 7) (v := (.int .i64 (b : Int))) rfl (by kernel_rfl) (by kernel_rfl) (by kernel_rfl) (some 25) rfl (fun _ _ _ h => h) (Or.inl ⟨by rfl, fun W hW => by go_simp⟩) hH0 ?_
  try simp only [Act.put, List.setIfInBounds_toArray, List.set_cons_zero, List.set_cons_succ]
  refine take_val' (i := 8) (v := (.int .i64 ((b : Int) + 1))) rfl (by kernel_rfl) (by kernel_rfl) (by kernel_rfl) (some 26) rfl (fun _ _ _ h => h) (Or.inl ⟨by rfl, fun W hW => by have h6 : IntKind.i64.wrap ((b : Int) + 1) = (b : Int) + 1 := (by first | (simp only [IntKind.wrap, IntKind.bits, IntKind.signed]; omega) | (rw [IntKind.wrap_i64]; omega)); go_simp⟩) hH0 ?_
  try simp only [Act.put, List.setIfInBounds_toArray, List.set_cons_zero, List.set_cons_succ]
  refine take_val' (i := 9) (v := (.string ⟨#[UInt8.ofNat (48 + b)]⟩)) rfl (by kernel_rfl) (by kernel_rfl) (by kernel_rfl) (some 27) rfl (fun _ _ _ h => h) (Or.inl ⟨by rfl, fun W hW => by have h5 := sb W; go_simp⟩) hH0 ?_
  try simp only [Act.put, List.setIfInBounds_toArray, List.set_cons_zero, List.set_cons_succ]
  refine take_val' (i := 10) (v := (.string (⟨#[UInt8.ofNat (48 + a)]⟩ ++ ⟨#[UInt8.ofNat (48 + b)]⟩))) rfl (by kernel_rfl) (by kernel_rfl) (by kernel_rfl) (some 28) rfl (fun _ _ _ h => h) (Or.inl ⟨by rfl, fun W hW => by go_simp⟩) hH0 ?_
  try simp only [Act.put, List.setIfInBounds_toArray, List.set_cons_zero, List.set_cons_succ]
  refine take_val' (i := 11) (v := (.string ⟨#[48, 49, 50, 51, 52, 53, 54, 55, 56, 57]⟩)) rfl (by kernel_rfl) (by kernel_rfl) (by kernel_rfl) (some 29) rfl (fun _ _ _ h => h) (Or.inl ⟨by rfl, fun W hW => by go_simp⟩) hH0 ?_
  try simp only [Act.put, List.setIfInBounds_toArray, List.set_cons_zero, List.set_cons_succ]
  refine take_val' (i := 12) (v := (.int .i64 (c : Int))) rfl (by kernel_rfl) (by kernel_rfl) (by kernel_rfl) (some 30) rfl (fun _ _ _ h => h) (Or.inl ⟨by rfl, fun W hW => by go_simp⟩) hH0 ?_
  try simp only [Act.put, List.setIfInBounds_toArray, List.set_cons_zero, List.set_cons_succ]
  refine take_val' (i := 13) (v := (.int .i64 (c : Int))) rfl (by kernel_rfl) (by kernel_rfl) (by kernel_rfl) (some 31) rfl (fun _ _ _ h => h) (Or.inl ⟨by rfl, fun W hW => by go_simp⟩) hH0 ?_
  try simp only [Act.put, List.setIfInBounds_toArray, List.set_cons_zero, List.set_cons_succ]
  refine take_val' (i := 14) (v := (.int .i64 ((c : Int) + 1))) rfl (by kernel_rfl) (by kernel_rfl) (by kernel_rfl) (some 32) rfl (fun _ _ _ h => h) (Or.inl ⟨by rfl, fun W hW => by have h6 : IntKind.i64.wrap ((c : Int) + 1) = (c : Int) + 1 := (by first | (simp only [IntKind.wrap, IntKind.bits, IntKind.signed]; omega) | (rw [IntKind.wrap_i64]; omega)); go_simp⟩) hH0 ?_
  try simp only [Act.put, List.setIfInBounds_toArray, List.set_cons_zero, List.set_cons_succ]
  refine take_val' (i := 15) (v := (.string ⟨#[UInt8.ofNat (48 + c)]⟩)) rfl (by kernel_rfl) (by kernel_rfl) (by kernel_rfl) (some 33) rfl (fun _ _ _ h => h) (Or.inl ⟨by rfl, fun W hW => by have h5 := sc W; go_simp⟩) hH0 ?_
  try simp only [Act.put, List.setIfInBounds_toArray, List.set_cons_zero, List.set_cons_succ]
  refine take_val' (i := 16) (v := (.string ((⟨#[UInt8.ofNat (48 + a)]⟩ ++ ⟨#[UInt8.ofNat (48 + b)]⟩) ++ ⟨#[UInt8.ofNat (48 + c)]⟩))) rfl (by kernel_rfl) (by kernel_rfl) (by kernel_rfl) (some 34) rfl (fun _ _ _ h => h) (Or.inl ⟨by rfl, fun W hW => by go_simp⟩) hH0 ?_
  try simp only [Act.put, List.setIfInBounds_toArray, List.set_cons_zero, List.set_cons_succ]
  refine take_val' (i := 17) (v := (.string ⟨#[48, 49, 50, 51, 52, 53, 54, 55, 56, 57]⟩)) rfl (by kernel_rfl) (by kernel_rfl) (by kernel_rfl) (some 35) rfl (fun _ _ _ h => h) (Or.inl ⟨by rfl, fun W hW => by go_simp⟩) hH0 ?_
  try simp only [Act.put, List.setIfInBounds_toArray, List.set_cons_zero, List.set_cons_succ]
  refine take_val' (i := 18) (v := (.int .i64 (d : Int))) rfl (by kernel_rfl) (by kernel_rfl) (by kernel_rfl) (some 36) rfl (fun _ _ _ h => h) (Or.inl ⟨by rfl, fun W hW => by go_simp⟩) hH0 ?_
  try simp only [Act.put, List.setIfInBounds_toArray, List.set_cons_zero, List.set_cons_succ]
  refine take_val' (i := 19) (v := (.int .i64 (d : Int))) rfl (by kernel_rfl) (by kernel_rfl) (by kernel_rfl) (some 37) rfl (fun _ _ _ h => h) (Or.inl ⟨by rfl, fun W hW => by go_simp⟩) hH0 ?_
  try simp only [Act.put, List.setIfInBounds_toArray, List.set_cons_zero, List.set_cons_succ]
  refine take_val' (i := 20) (v := (.int .i64 ((d : Int) + 1))) rfl (by kernel_rfl) (by kernel_rfl) (by kernel_rfl) (some 38) rfl (fun _ _ _ h => h) (Or.inl ⟨by rfl, fun W hW => by have h6 : IntKind.i64.wrap ((d : Int) + 1) = (d : Int) + 1 := (by first | (simp only [IntKind.wrap, IntKind.bits, IntKind.signed]; omega) | (rw [IntKind.wrap_i64]; omega)); go_simp⟩) hH0 ?_
  try simp only [Act.put, List.setIfInBounds_toArray, List.set_cons_zero, List.set_cons_succ]
  refine take_val' (i := 21) (v := (.string ⟨#[UInt8.ofNat (48 + d)]⟩)) rfl (by kernel_rfl) (by kernel_rfl) (by kernel_rfl) (some 39) rfl (fun _ _ _ h => h) (Or.inl ⟨by rfl, fun W hW => by have h5 := sd W; go_simp⟩) hH0 ?_
  try simp only [Act.put, List.setIfInBounds_toArray, List.set_cons_zero, List.set_cons_succ]
  refine take_val' (i := 22) (v := (.string (((⟨#[UInt8.ofNat (48 + a)]⟩ ++ ⟨#[UInt8.ofNat (48 + b)]⟩) ++ ⟨#[UInt8.ofNat (48 + c)]⟩) ++ ⟨#[UInt8.ofNat (48 + d)]⟩))) rfl (by kernel_rfl) (by kernel_rfl) (by kernel_rfl) (some 40) rfl (fun _ _ _ h => h) (Or.inl ⟨by rfl, fun W hW => by go_simp⟩) hH0 ?_
  try simp only [Act.put, List.setIfInBounds_toArray, List.set_cons_zero, List.set_cons_succ]
  refine take_val' (i := 23) (v := (.string (((⟨#[UInt8.ofNat (48 + a)]⟩ ++ ⟨#[UInt8.ofNat (48 + b)]⟩) ++ ⟨#[UInt8.ofNat (48 + c)]⟩) ++ ⟨#[UInt8.ofNat (48 + d)]⟩))) rfl (by kernel_rfl) (by kernel_rfl) (by kernel_rfl) (some 2) rfl (fun _ _ _ h => h) (Or.inl ⟨by rfl, fun W hW => by go_simp⟩) hH0 ?_
  try simp only [Act.put, List.setIfInBounds_toArray, List.set_cons_zero, List.set_cons_succ]
  refine wpAnyH_done (by kernel_rfl) ?_ _
  go_wp2
  go_ret
  exact ⟨by rw [HE.out]; rfl, (Below.refl _ _).drew⟩
/-- The digits of the limbs from j on. -/
def padB (l : List Nat) (j : Nat) : ByteArray := ⟨(dN (4 * (l.length - j)) (val (l.drop j))).toArray⟩
theorem padB_end (l : List Nat) : padB l l.length = ⟨#[]⟩ := by unfold padB; rw [Nat.sub_self]; rfl
theorem padB_step (l : List Nat) (hd : Dig l) (j : Nat) (hj : j < l.length) : padB l (j + 1) ++ fourB (l.getD j 0) = padB l j := by
  apply ByteArray.ext
  apply Array.ext'
  have := dN_limb (l.length - (j + 1)) (val (l.drop (j + 1))) (l.getD j 0) (dig_get hd j)
  rw [← val_drop, show l.length - (j + 1) + 1 = l.length - j by omega] at this
  simp [padB, fourB, ByteArray.data_append, this]
theorem padB_size (l : List Nat) (j : Nat) : (padB l j).size = 4 * (l.length - j) := by simp [padB, ByteArray.size, Nm.dN_len]
theorem fourB_size (x : Nat) : (fourB x).size = 4 := by simp [fourB, ByteArray.size, Nm.dN_len]
theorem padB_zero (l : List Nat) (hd : Dig l) : ∃ z, (padB l 0).data.toList = List.replicate z 48 ++ D (val l) := by
  have h := val_lt hd
  rw [pw_ten] at h
  obtain ⟨z, hz⟩ := dN_pad _ _ h
  exact ⟨z, by simp [padB, hz]⟩
theorem get_list (s : ByteArray) (k : Nat) (h : k < s.size) (c : UInt8) (hc : s.data.toList[k]? = some c) : s[k] = c := by
  have e : s[k] = s.data.toList[k]'(by simpa using h) := rfl
  rw [e]
  rw [List.getElem?_eq_getElem (by simpa using h)] at hc
  exact Option.some.inj hc
theorem not_empty {E : ByteArray} (h : E ≠ ⟨#[]⟩) : E.toList.isEmpty = false := by
  rw [Go.Lib.toList_data]
  cases e : E.data.toList with
  | nil => exact absurd (ByteArray.ext (Array.ext' e)) h
  | cons => rfl
theorem txt_zero : txt 0 = [48] := by decide +kernel
set_option maxRecDepth 100000 in
set_option maxHeartbeats 6400000 in
theorem text_any (v : Value) (z : Int) (k : Nat) (w : World) (h : NumAt w v z k) (hk : k < 1000000) :
    Calls Tryd.prog 16 #[v] w fun e w' => e = .returned (.string ⟨(txt z).toArray⟩) ∧ Below w.heap.size w w' := by
  obtain ⟨neg, ao, cap, l, rfl, hc, hs, hd, ht, hl, hp, rfl⟩ := h
  have hsz := padB_size l
  have hst := padB_step l hd
  have hen := padB_end l
  have hz0 := padB_zero l hd
  obtain ⟨V, hV⟩ : ∃ V, val l = V := ⟨_, rfl⟩
  have HP := hidden (fun h : neg = true => val_pos ht (hp h))
  obtain ⟨B, hB⟩ : ∃ B : ByteArray, ⟨(txt (sgnv neg (val l))).toArray⟩ = B := ⟨_, rfl⟩
  rw [hB]
  rw [hV] at hB hz0 HP
  have HR := hidden hB
  obtain ⟨P, hP⟩ : ∃ P, padB l = P := ⟨_, rfl⟩
  rw [hP] at hsz hst hen hz0
  obtain ⟨n, hn⟩ : ∃ n, l.length = n := ⟨_, rfl⟩
  rw [hn] at hc hl hsz hst hen ⊢
  have HSZ := hidden hsz
  have HST := hidden hst
  have HEN := hidden hen
  have HN := hidden hn
  have HD := hidden hd
  have hal := (Below.refl w.heap.size w).alloc (Nat.le_refl _) (.cells #[.bool neg, .slice ao n cap] 28)
  have HAL := hidden hal
  have HS := hidden (hs.below hal)
  have HB := hidden (blk_new w (.bool neg) (.slice ao n cap))
  obtain ⟨zc, hzc⟩ := hz0
  have HZC := hidden hzc
  clear hsz hst hen hP hn hd hs hal ht hp hzc hB hV
  go_enter Tryd.func16, Tryd.ntmps16
  obtain ⟨f0, f1, _, _⟩ := HB.out.facts
  go_upto_region 3 with fail
  generalize w.alloc (.cells #[.bool neg, .slice ao n cap] 28) = W1 at HAL HS HB f0 f1 ⊢
  have hw1 : w.heap.size < W1.heap.size := HB.out.lt
  clear f0 f1
  go_loopw [3, 4] (fun s i wr => ∃ j : Nat, j ≤ n ∧ i = .int .i64 ((j : Int) - 1) ∧ s = .string (P j) ∧ Hid (Below W1.heap.size W1 wr)) (fun _ i _ => (intOf i + 1).toNat)
  case atStart => exact ⟨n, Nat.le_refl _, rfl, by rw [HEN.out], hidden (Below.refl _ _)⟩
  case round =>
    obtain ⟨wi, rfl⟩ : ∃ x, x = wr := ⟨_, rfl⟩
    obtain ⟨j, hj, rfl, rfl, hbe⟩ := hrel
    obtain ⟨f0, f1, _, _⟩ := (HB.out.below hbe.out hw1).facts
    by_cases h0 : 0 < j
    · obtain ⟨j, rfl⟩ : ∃ i, j = i + 1 := ⟨j - 1, by omega⟩
      rw [show ((j + 1 : Nat) : Int) - 1 = (j : Int) by omega]
      obtain ⟨ak, af, rfl, hca⟩ := (HS.out.below hbe.out).get j (by rw [HN.out]; omega)
      have hxl := dig_get HD.out j
      have hsx := HST.out j (by omega)
      obtain ⟨x, hx⟩ : ∃ x, l.getD j 0 = x := ⟨_, rfl⟩
      rw [hx] at hca hxl hsx
      have hz1 := HSZ.out (j + 1)
      have hz2 := fourB_size x
      have HSX := hidden hsx
      clear hx hsx
      go_wp2_with fail
      refine (four_any x wi hxl).mono ?_
      rintro e w2 ⟨rfl, hb2⟩
      have HB2 := hidden (hbe.out.trans (hb2.mono hbe.out.size))
      clear hb2
      go_wp2
      go_roundw
      case rel => exact ⟨j, by omega, by go_num, by rw [← HSX.out], HB2⟩
      case measure => simp [intOf]
    · obtain rfl : j = 0 := by omega
      obtain ⟨S, hS⟩ : ∃ S, P 0 = S := ⟨_, rfl⟩
      rw [hS] at HZC ⊢
      have hSz := HSZ.out 0
      rw [hS] at hSz
      have hSl : S.size ≤ 4000000 := by omega
      clear hS hSz HSZ HST HEN
      go_wp2
      go_loop [5] (fun i => ∃ k : Nat, k ≤ zc ∧ i = .int .i64 (k : Int)) (fun i => zc - (intOf i).toNat)
      case atStart => exact ⟨0, Nat.zero_le _, rfl⟩
      case round =>
        obtain ⟨k, hk, rfl⟩ := hrel
        have hlen : S.size = zc + (D V).length := by
          have := congrArg List.length HZC.out
          simpa using this
        by_cases hlt : k < zc
        · have hks : k < S.size := by omega
          have h48 : S[k] = 48 := get_list S k hks 48 (by rw [HZC.out, List.getElem?_append_left (by simpa using hlt), List.getElem?_replicate, if_pos hlt])
          have h48i : (S[k].toNat : Int) = 48 := by rw [h48]; rfl
          clear h48 hlen
          go_wp2
          go_round
          case rel => exact ⟨k + 1, by omega, by go_num⟩
          case measure => simp [intOf]; omega
        · obtain rfl : k = zc := by omega
          have hex : Hid (S.extract k S.size = ⟨(D V).toArray⟩) := hidden (by
            apply ByteArray.ext
            apply Array.ext'
            rw [ByteArray.data_extract, Array.toList_extract, HZC.out]
            simp [hlen])
          have HBW := hidden (HAL.out.trans (hbe.out.mono (Nat.le_of_lt hw1)))
          by_cases hV0 : V = 0
          · subst hV0
            have hks : ¬ k < S.size := by rw [hlen]; simp [D]
            have hke : S.size = k := by rw [hlen]; simp [D]
            have hexe : S.extract k S.size = ⟨#[]⟩ := by rw [hex.out]; rfl
            rw [hke] at hexe hSl
            have h0B : Hid (B = ⟨#[48]⟩) := hidden (by rw [← HR.out]; cases neg <;> exact congrArg (fun l : List UInt8 => (⟨l.toArray⟩ : ByteArray)) txt_zero)
            clear hlen hks
            go_wp2
            go_ret
            exact ⟨by rw [h0B.out]; rfl, HBW.out⟩
          · have hD := D_head hV0
            have hks : k < S.size := by rw [hlen]; have := List.length_pos_iff.2 hD.1; omega
            have hDp : 0 < (D V).length := List.length_pos_iff.2 hD.1
            have hne : S[k] ≠ 48 := by
              cases hd : D V with
              | nil => rw [hd] at hDp; simp at hDp
              | cons c t =>
                rw [get_list S k hks c (by rw [HZC.out, hd, List.getElem?_append_right (by simp), List.length_replicate, Nat.sub_self]; rfl)]
                have := hD.2
                rw [hd] at this
                simpa using this
            have hnei : ((S[k].toNat : Int) == 48) = false := by
              rw [beq_eq_false_iff_ne]
              intro e
              exact hne (UInt8.toNat_inj.1 (by show S[k].toNat = 48; omega))
            have hDD : D V = decDigits V := if_neg hV0
            obtain ⟨E, hE⟩ : ∃ E : ByteArray, (⟨(D V).toArray⟩ : ByteArray) = E := ⟨_, rfl⟩
            have hexe := hex.out
            rw [hE] at hexe
            have hE0 : E ≠ ⟨#[]⟩ := fun e => by
              rw [← hE] at e
              have := congrArg (fun b : ByteArray => b.data.toList) e
              exact hD.1 (by simpa using this)
            have hEb := not_empty hE0
            have hEs : E.size ≤ 4000000 := by rw [← hexe, ByteArray.size_extract]; omega
            have HE := hidden (hE.symm.trans (congrArg (fun l : List UInt8 => (⟨l.toArray⟩ : ByteArray)) hDD))
            have hV1 : 0 < V := by omega
            obtain ⟨f0, f1, _, _⟩ := (HB.out.below hbe.out hw1).facts
            clear hne hE hDD hD hDp hlen
            cases neg
            · have hB : Hid (B = E) := hidden (by rw [← HR.out, HE.out]; show (⟨(txt ((V : Nat) : Int)).toArray⟩ : ByteArray) = _; unfold txt; rw [if_neg (by omega)]; rfl)
              go_wp2
              go_ret
              exact ⟨by rw [hB.out]; rfl, HBW.out⟩
            · have hB : Hid (B = ⟨#[45]⟩ ++ E) := hidden (by
                rw [← HR.out, HE.out]
                show (⟨(txt (-((V : Nat) : Int))).toArray⟩ : ByteArray) = _
                unfold txt
                rw [if_pos (by omega)]
                apply ByteArray.ext
                apply Array.ext'
                simp [ByteArray.data_append])
              go_wp2
              go_ret
              exact ⟨by rw [hB.out]; rfl, HBW.out⟩
end Rv
end Go.Proofs.YtapdkibiegeijaaDoor
