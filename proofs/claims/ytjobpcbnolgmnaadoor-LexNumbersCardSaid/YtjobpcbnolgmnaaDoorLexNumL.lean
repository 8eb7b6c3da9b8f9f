/- smithylaw4.LexNumbers returns true. Conditions: the words and the errors of api lie in their variables. -/
import Derived.Test.YtjobpcbnolgmnaaDoorLexSee
import Derived.Test.YtjobpcbnolgmnaaDoorLexDig
namespace Go.Proofs.YtjobpcbnolgmnaaDoor
open Go.RowKit
open Lx

theorem rem_run (t : TypeId) (a b : Int) (hb : b ≠ 0) (W : World) : (binOp .rem t (.int .i64 a) (.int .i64 b)).run Tryd.prog W = .ok (.int .i64 (a.tmod b)) W := by
  rw [binOp_rem]
  unfold Op.intDiv
  rw [if_neg hb]
  rfl
/-- So many sevens. -/
def sv (k : Nat) : ByteArray := txt (List.replicate k 55)
theorem sv_data (k : Nat) : (sv k).data.toList = List.replicate k 55 := rfl
theorem sv_succ (k : Nat) : sv k ++ ⟨#[55]⟩ = sv (k + 1) := by
  apply ByteArray.ext
  apply Array.toList_inj.1
  rw [ByteArray.data_append, Array.toList_append, sv_data, sv_data, List.replicate_succ']
theorem sv_len (k : Nat) : (sv k).size = k := by unfold sv; rw [txt_size, List.length_replicate]
def sd (zero : Bool) (k : Nat) : List UInt8 := if zero then 48 :: List.replicate k 55 else List.replicate k 55
/-- Is it wrong? -/
def wrong (zero letter : Bool) (k : Nat) : Bool := letter || ((zero && decide (0 < k)) || decide (600 < k))
theorem scan_sd (zero letter : Bool) (k : Nat) (hk : zero = true ∨ 0 < k) : scanF (digT (sd zero k) letter) = if wrong zero letter k then .bad 4 else .ok (okD (sd zero k)) := by
  have hs : ∀ m, ∀ b ∈ List.replicate m (55 : UInt8), dg b = true := fun m b hb => by rw [List.eq_of_mem_replicate hb]; rfl
  cases zero with
  | true =>
    have h := scan_dig 48 (List.replicate k 55) letter (by decide) (by decide) (by decide) (by decide) (by decide) (hs k)
    show scanF (digT (48 :: List.replicate k 55) letter) = _
    rw [h]
    have e : badD (48 :: List.replicate k 55) letter = wrong true letter k := by
      unfold badD wrong
      cases letter
      · rw [Bool.eq_iff_iff]; simp; omega
      · rfl
    rw [e]; rfl
  | false =>
    obtain ⟨m, rfl⟩ : ∃ m, k = m + 1 := ⟨k - 1, by rcases hk with h | h; cases h; omega⟩
    have h := scan_dig 55 (List.replicate m 55) letter (by decide) (by decide) (by decide) (by decide) (by decide) (hs m)
    show scanF (digT (List.replicate (m + 1) 55) letter) = _
    rw [List.replicate_succ, h]
    have e : badD (55 :: List.replicate m 55) letter = wrong false letter (m + 1) := by
      unfold badD wrong
      cases letter
      · rw [Bool.eq_iff_iff]; simp
      · rfl
    rw [e]; rfl
theorem scan_num (A : Nat → Addr) (zero letter : Bool) (k : Nat) (hk : zero = true ∨ 0 < k) (hk7 : k < 700) (T : ByteArray) (hT : T.data.toList = digT (sd zero k) letter) (w : World) (hV : Vars A w) :
    Calls Tryd.prog 11 #[.string T] w (ScanPost A w (if wrong zero letter k then .bad 4 else .ok (okD (sd zero k)))) := by
  have hsz : T.size ≤ 65536 := by
    rw [← len_data, hT]
    have : (sd zero k).length ≤ k + 1 := by unfold sd; split <;> simp
    have : (tailD letter).length ≤ 1 := by unfold tailD; split <;> simp
    unfold digT
    simp only [List.length_cons, List.length_append]
    omega
  have h := scan_any A T hsz w hV
  rwa [hT, scan_sd zero letter k hk] at h
theorem num_text (zero letter : Bool) (k : Nat) (S T : ByteArray) (hS : S = if zero then (⟨#[48]⟩ : ByteArray) ++ sv k else sv k) (hT : T = if letter then ((⟨#[120, 32, 61, 32]⟩ : ByteArray) ++ S) ++ ⟨#[97]⟩ else (⟨#[120, 32, 61, 32]⟩ : ByteArray) ++ S) :
    S = txt (sd zero k) ∧ T.data.toList = digT (sd zero k) letter := by
  have h1 : S = txt (sd zero k) := by
    subst hS
    cases zero
    · rfl
    · apply ByteArray.ext
      apply Array.toList_inj.1
      rw [if_pos rfl, ByteArray.data_append, Array.toList_append]
      rfl
  refine ⟨h1, ?_⟩
  subst hT h1
  cases letter
  · rw [if_neg (by decide), ByteArray.data_append, Array.toList_append, data_txt]; unfold digT tailD; simp
  · rw [if_pos rfl, ByteArray.data_append, Array.toList_append, ByteArray.data_append, Array.toList_append, data_txt]; unfold digT tailD; simp
theorem sv_zero : sv 0 = ⟨#[]⟩ := rfl
theorem sv_pos (k : Nat) (hk : 0 < k) : (sv k).toList.isEmpty = false := by
  rw [ByteArray.toList_eq, sv_data]
  obtain ⟨m, rfl⟩ : ∃ m, k = m + 1 := ⟨k - 1, by omega⟩
  rfl
theorem zv_pos (k : Nat) : ((⟨#[48]⟩ : ByteArray) ++ sv k).toList.isEmpty = false := by
  rw [ByteArray.toList_eq, ByteArray.data_append, Array.toList_append]; rfl
theorem fold_rem (n : Int) : ∃ (m : Int) (k : Nat), n.tmod 700 = m ∧ -700 < m ∧ m < 700 ∧ (m + 700).tmod 700 = (k : Int) ∧ k < 700 := by
  have h1 : -700 < n.tmod 700 ∧ n.tmod 700 < 700 := by
    refine ⟨?_, ?_⟩
    · rw [tmod_eq_if]; split <;> omega
    · rw [tmod_eq_if]; split <;> omega
  refine ⟨_, ((n.tmod 700 + 700) % 700).toNat, rfl, h1.1, h1.2, ?_, ?_⟩
  · rw [Int.tmod_eq_emod_of_nonneg (by omega)]; omega
  · omega
set_option maxRecDepth 100000 in
set_option maxHeartbeats 3200000 in
theorem lexNumbers_any (A : Nat → Addr) (n : Int) (zero letter : Bool) (w : World) (hV : Full A w) : Calls Tryd.prog 8 #[.int .i64 n, .bool zero, .bool letter] w fun e w' => e = .returned (.bool true) ∧ Below w.heap.size w w' := by
  have HF := hid' (first_any A w hV.vars)
  have HV := hid' hV
  clear hV
  obtain ⟨m, k0, hm, hm1, hm2, hk0, hk7⟩ := fold_rem n
  have hw : wrap64 (m + 700) = m + 700 := by unfold wrap64; omega
  obtain ⟨SV, hSV⟩ : ∃ f : Nat → ByteArray, f = sv := ⟨_, rfl⟩
  have HSV := hid' hSV
  have HS0 : Hid (SV 0 = ⟨#[]⟩) := hid' (by rw [hSV]; rfl)
  have HSS : Hid (∀ k, SV k ++ ⟨#[55]⟩ = SV (k + 1)) := hid' (by rw [hSV]; exact sv_succ)
  clear hSV
  go_enter Tryd.func8, Tryd.ntmps8
  go_wp2_with fail
  refine (HF.out).mono ?_
  rintro e w1 ⟨rfl, b1⟩
  have HB1 := hid' b1
  have HV1 := hid' (HV.out.below b1)
  clear HF HV b1
  go_wp2
  clear hm hw hk0 hm1 hm2
  go_loopw [8, 9] (fun s i wr => ∃ k : Nat, k ≤ k0 ∧ i = .int .i64 k ∧ s = .string (SV k) ∧ wr = w1) (fun _ i _ => k0 - (intOf i).toNat)
  case atStart => exact ⟨0, Nat.zero_le _, rfl, by rw [HS0.out], rfl⟩
  case round =>
    obtain ⟨k, hk, rfl, rfl, rfl⟩ := hrel
    by_cases hlt : k < k0
    · have hlt' : (k : Int) < (k0 : Int) := by omega
      have HSk := hid' (HSS.out k)
      have hxs : (SV k).size ≤ 700 := by rw [HSV.out, sv_len]; omega
      generalize SV k = x at HSk hxs ⊢
      go_wp2
      go_roundw
      case rel => exact ⟨k + 1, by omega, by go_num, by rw [HSk.out], trivial⟩
      case measure => simp [intOf]; omega
    · obtain rfl : k = k0 := by omega
      clear hk HSS
      cases zero with
      | true =>
        cases letter with
        | true =>
          have hST := num_text true true k (((⟨#[48]⟩ : ByteArray) ++ SV k)) (((⟨#[120, 32, 61, 32]⟩ : ByteArray) ++ ((⟨#[48]⟩ : ByteArray) ++ SV k)) ++ ⟨#[97]⟩) (by rw [HSV.out]; rfl) (by rfl)
          have HSC := hid' (fun W hW => scan_num A true true k (.inl rfl) hk7 (((⟨#[120, 32, 61, 32]⟩ : ByteArray) ++ ((⟨#[48]⟩ : ByteArray) ++ SV k)) ++ ⟨#[97]⟩) hST.2 W hW)
          have HST := hid' hST.1
          have hemp : ((⟨#[48]⟩ : ByteArray) ++ SV k).toList.isEmpty = false := by rw [HSV.out]; exact zv_pos k
          have hxs : (SV k).size ≤ 700 := by rw [HSV.out, sv_len]; omega
          clear hST
          rw [show wrong true true k = true from rfl] at HSC
          rw [if_pos rfl] at HSC
          go_wp2_with fail
          refine (HSC.out _ HV1.out.vars).mono ?_
          intro e w3 hpost
          obtain ⟨b3, v, rfl, hv⟩ := hpost
          have HB3 := hid' (below_join HB1.out b3)
          have HV3 := hid' (HV1.out.below b3)
          have HFV := hid' hv
          clear hv b3 HSC
          go_wp2_with fail
          refine (Placed_any 101 4 (by decide) _).mono ?_
          rintro e w4 ⟨rfl, b4⟩
          have HSM := hid' (same_fault (HFV.out.below b4) (HV3.out.sent.below b4))
          have HB4 := hid' (below_join HB3.out b4)
          rw [show ((4 : Nat) : Int) = 4 from rfl] at HSM
          clear b4
          go_wp2_with fail
          refine (HSM.out).mono ?_
          rintro e w5 ⟨rfl, b5⟩
          have HB5 := hid' (below_join HB4.out b5)
          clear b5
          go_wp2
          go_ret
          exact ⟨rfl, HB5.out⟩
        | false =>
          have hST := num_text true false k (((⟨#[48]⟩ : ByteArray) ++ SV k)) ((⟨#[120, 32, 61, 32]⟩ : ByteArray) ++ ((⟨#[48]⟩ : ByteArray) ++ SV k)) (by rw [HSV.out]; rfl) (by rfl)
          have HSC := hid' (fun W hW => scan_num A true false k (.inl rfl) hk7 ((⟨#[120, 32, 61, 32]⟩ : ByteArray) ++ ((⟨#[48]⟩ : ByteArray) ++ SV k)) hST.2 W hW)
          have HST := hid' hST.1
          have hemp : ((⟨#[48]⟩ : ByteArray) ++ SV k).toList.isEmpty = false := by rw [HSV.out]; exact zv_pos k
          have hxs : (SV k).size ≤ 700 := by rw [HSV.out, sv_len]; omega
          clear hST
          by_cases hpos : 0 < k
          · have hpi : (0 : Int) < (k : Int) := by omega
            rw [show wrong true false k = true from by unfold wrong; rw [decide_eq_true hpos]; rfl] at HSC
            rw [if_pos rfl] at HSC
            go_wp2_with fail
            refine (HSC.out _ HV1.out.vars).mono ?_
            intro e w3 hpost
            obtain ⟨b3, v, rfl, hv⟩ := hpost
            have HB3 := hid' (below_join HB1.out b3)
            have HV3 := hid' (HV1.out.below b3)
            have HFV := hid' hv
            clear hv b3 HSC
            go_wp2_with fail
            refine (Placed_any 101 4 (by decide) _).mono ?_
            rintro e w4 ⟨rfl, b4⟩
            have HSM := hid' (same_fault (HFV.out.below b4) (HV3.out.sent.below b4))
            have HB4 := hid' (below_join HB3.out b4)
            rw [show ((4 : Nat) : Int) = 4 from rfl] at HSM
            clear b4
            go_wp2_with fail
            refine (HSM.out).mono ?_
            rintro e w5 ⟨rfl, b5⟩
            have HB5 := hid' (below_join HB4.out b5)
            clear b5
            go_wp2
            go_ret
            exact ⟨rfl, HB5.out⟩
          · have hpi : ¬ (0 : Int) < (k : Int) := by omega
            have hpj : ¬ (600 : Int) < (k : Int) := by omega
            rw [show wrong true false k = false from by unfold wrong; rw [decide_eq_false hpos, decide_eq_false (by omega)]; rfl] at HSC
            rw [if_neg (by decide)] at HSC
            go_wp2_with fail
            refine (HSC.out _ HV1.out.vars).mono ?_
            intro e w3 hpost
            obtain ⟨b3, ao, cap, rfl, hts⟩ := hpost
            rcases hts with h0 | ⟨g, rfl, hg, hx⟩
            · cases h0
            rw [show (okD (sd true k)).length = 5 from rfl]
            have c1 := (hx 2 _ rfl).1
            have c2 := (hx 2 _ rfl).2.1
            have c3 := (hx 2 _ rfl).2.2
            simp only [] at c1 c2 c3
            rw [← HST.out] at c2
            have HB3 := hid' (below_join HB1.out b3)
            clear hx b3 HSC
            go_wp2
            go_ret
            exact ⟨rfl, HB3.out⟩
      | false =>
        by_cases hpos : 0 < k
        · cases letter with
          | true =>
            have hST := num_text false true k (SV k) (((⟨#[120, 32, 61, 32]⟩ : ByteArray) ++ SV k) ++ ⟨#[97]⟩) (by rw [HSV.out]; rfl) (by rfl)
            have HSC := hid' (fun W hW => scan_num A false true k (.inr hpos) hk7 (((⟨#[120, 32, 61, 32]⟩ : ByteArray) ++ SV k) ++ ⟨#[97]⟩) hST.2 W hW)
            have HST := hid' hST.1
            have hemp : (SV k).toList.isEmpty = false := by rw [HSV.out]; exact sv_pos k hpos
            have hxs : (SV k).size ≤ 700 := by rw [HSV.out, sv_len]; omega
            clear hST
            rw [show wrong false true k = true from rfl] at HSC
            rw [if_pos rfl] at HSC
            go_wp2_with fail
            refine (HSC.out _ HV1.out.vars).mono ?_
            intro e w3 hpost
            obtain ⟨b3, v, rfl, hv⟩ := hpost
            have HB3 := hid' (below_join HB1.out b3)
            have HV3 := hid' (HV1.out.below b3)
            have HFV := hid' hv
            clear hv b3 HSC
            go_wp2_with fail
            refine (Placed_any 101 4 (by decide) _).mono ?_
            rintro e w4 ⟨rfl, b4⟩
            have HSM := hid' (same_fault (HFV.out.below b4) (HV3.out.sent.below b4))
            have HB4 := hid' (below_join HB3.out b4)
            rw [show ((4 : Nat) : Int) = 4 from rfl] at HSM
            clear b4
            go_wp2_with fail
            refine (HSM.out).mono ?_
            rintro e w5 ⟨rfl, b5⟩
            have HB5 := hid' (below_join HB4.out b5)
            clear b5
            go_wp2
            go_ret
            exact ⟨rfl, HB5.out⟩
          | false =>
            have hST := num_text false false k (SV k) ((⟨#[120, 32, 61, 32]⟩ : ByteArray) ++ SV k) (by rw [HSV.out]; rfl) (by rfl)
            have HSC := hid' (fun W hW => scan_num A false false k (.inr hpos) hk7 ((⟨#[120, 32, 61, 32]⟩ : ByteArray) ++ SV k) hST.2 W hW)
            have HST := hid' hST.1
            have hemp : (SV k).toList.isEmpty = false := by rw [HSV.out]; exact sv_pos k hpos
            have hxs : (SV k).size ≤ 700 := by rw [HSV.out, sv_len]; omega
            clear hST
            by_cases hbig : 600 < k
            · have hpi : (600 : Int) < (k : Int) := by omega
              rw [show wrong false false k = true from by unfold wrong; rw [decide_eq_true hbig]; rfl] at HSC
              rw [if_pos rfl] at HSC
              go_wp2_with fail
              refine (HSC.out _ HV1.out.vars).mono ?_
              intro e w3 hpost
              obtain ⟨b3, v, rfl, hv⟩ := hpost
              have HB3 := hid' (below_join HB1.out b3)
              have HV3 := hid' (HV1.out.below b3)
              have HFV := hid' hv
              clear hv b3 HSC
              go_wp2_with fail
              refine (Placed_any 101 4 (by decide) _).mono ?_
              rintro e w4 ⟨rfl, b4⟩
              have HSM := hid' (same_fault (HFV.out.below b4) (HV3.out.sent.below b4))
              have HB4 := hid' (below_join HB3.out b4)
              rw [show ((4 : Nat) : Int) = 4 from rfl] at HSM
              clear b4
              go_wp2_with fail
              refine (HSM.out).mono ?_
              rintro e w5 ⟨rfl, b5⟩
              have HB5 := hid' (below_join HB4.out b5)
              clear b5
              go_wp2
              go_ret
              exact ⟨rfl, HB5.out⟩
            · have hpi : ¬ (600 : Int) < (k : Int) := by omega
              rw [show wrong false false k = false from by unfold wrong; rw [decide_eq_false hbig]; rfl] at HSC
              rw [if_neg (by decide)] at HSC
              go_wp2_with fail
              refine (HSC.out _ HV1.out.vars).mono ?_
              intro e w3 hpost
              obtain ⟨b3, ao, cap, rfl, hts⟩ := hpost
              rcases hts with h0 | ⟨g, rfl, hg, hx⟩
              · cases h0
              rw [show (okD (sd false k)).length = 5 from rfl]
              have c1 := (hx 2 _ rfl).1
              have c2 := (hx 2 _ rfl).2.1
              have c3 := (hx 2 _ rfl).2.2
              simp only [] at c1 c2 c3
              rw [← HST.out] at c2
              have HB3 := hid' (below_join HB1.out b3)
              clear hx b3 HSC
              go_wp2
              go_ret
              exact ⟨rfl, HB3.out⟩
        · obtain rfl : k = 0 := by omega
          rw [HS0.out]
          go_wp2
          go_ret
          exact ⟨rfl, HB1.out⟩
end Go.Proofs.YtjobpcbnolgmnaaDoor
