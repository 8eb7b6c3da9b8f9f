/- smithylaw4.LexBrackets returns true. Conditions: the words and the errors of api lie in their variables; the list's numbers lie where it says. -/
import Derived.Test.YtjobpcbnolgmnaaDoorLexBrF
import Derived.Test.YtjobpcbnolgmnaaDoorLexSee
import Derived.Test.YtjobpcbnolgmnaaDoorLexBlL
namespace Go.Proofs.YtjobpcbnolgmnaaDoor
open Go.RowKit
open Lx Brk

theorem ownI_top {W : World} {B : Nat} {vo : Value} {o : List Nat} {o0 : Nat} (h : OwnI W B vo (o0 :: o).reverse) : ∃ g cap, vo = .slice (some ⟨g, 0, none⟩) (o.length + 1) cap ∧ o.length + 1 ≤ cap ∧ g < W.heap.size ∧ W.cell? ⟨g, o.length, none⟩ = some (.int .i64 (o0 : Int)) := by
  obtain ⟨g, cap, e, h1, _, h2, h3⟩ := own_some h (by simp)
  rw [List.length_reverse, List.length_cons] at e h1
  refine ⟨g, cap, e, h1, h2, h3 o.length _ ?_⟩
  simp [iv]
theorem ownI_cut {W : World} {B g cap m : Nat} {o : List Nat} {o0 : Nat} (h : OwnI W B (.slice (some ⟨g, 0, none⟩) m cap) (o0 :: o).reverse) : OwnI W B (.slice (some ⟨g, 0, none⟩) o.length cap) o.reverse := by
  have hn := (own_cap h).2
  rw [List.length_reverse, List.length_cons] at hn
  subst hn
  unfold OwnI at h ⊢
  rw [List.length_reverse, List.length_cons] at h
  have h2 := own_less (m := o.length) h (by omega)
  rw [List.length_reverse]
  have e : ((o0 :: o).reverse.map iv).take o.length = o.reverse.map iv := by
    rw [← List.map_take, List.reverse_cons, List.take_append_of_le_length (by simp), List.take_of_length_le (by simp)]
  rwa [e] at h2
theorem slice_cls (t : Nat) (ht : t < 3) (W : World) : (Instr.sliceAt 9 (.string ⟨#[41, 93, 125]⟩) (some (.int .i64 (t : Int))) (some (.int .i64 ((t : Int) + 1))) none).run Tryd.prog W = .ok (.string ⟨#[cls t]⟩) W := by
  have h : t = 0 ∨ t = 1 ∨ t = 2 := by omega
  rcases h with rfl | rfl | rfl <;> rfl
theorem slice_opn (t : Nat) (ht : t < 3) (W : World) : (Instr.sliceAt 9 (.string ⟨#[40, 91, 123]⟩) (some (.int .i64 (t : Int))) (some (.int .i64 ((t : Int) + 1))) none).run Tryd.prog W = .ok (.string ⟨#[opn t]⟩) W := by
  have h : t = 0 ∨ t = 1 ∨ t = 2 := by omega
  rcases h with rfl | rfl | rfl <;> rfl
theorem wrap_small (n : Int) (h1 : -1000 ≤ n) (h2 : n ≤ 1000) : wrap64 n = n := by unfold wrap64; omega
theorem fold_three (z : Int) : ∃ (m : Int) (n : Nat), z.tmod 3 = m ∧ -3 < m ∧ m < 3 ∧ (m + 3).tmod 3 = (n : Int) ∧ n < 3 := by
  have h1 : -3 < z.tmod 3 ∧ z.tmod 3 < 3 := by
    refine ⟨?_, ?_⟩
    · rw [tmod_eq_if]; split <;> omega
    · rw [tmod_eq_if]; split <;> omega
  have h2 : (z.tmod 3 + 3).tmod 3 = (z.tmod 3 + 3) % 3 := Int.tmod_eq_emod_of_nonneg (by omega)
  refine ⟨_, ((z.tmod 3 + 3) % 3).toNat, rfl, h1.1, h1.2, ?_, ?_⟩
  · rw [h2]; omega
  · omega
theorem fold_two (z : Int) : ∃ (m : Int) (n : Nat), z.tmod 2 = m ∧ -2 < m ∧ m < 2 ∧ (m + 2).tmod 2 = (n : Int) ∧ n < 2 := by
  have h1 : -2 < z.tmod 2 ∧ z.tmod 2 < 2 := by
    refine ⟨?_, ?_⟩
    · rw [tmod_eq_if]; split <;> omega
    · rw [tmod_eq_if]; split <;> omega
  have h2 : (z.tmod 2 + 2).tmod 2 = (z.tmod 2 + 2) % 2 := Int.tmod_eq_emod_of_nonneg (by omega)
  refine ⟨_, ((z.tmod 2 + 2) % 2).toNat, rfl, h1.1, h1.2, ?_, ?_⟩
  · rw [h2]; omega
  · omega
theorem other_cls (t e : Nat) (ht : t < 3) (he : e < 2) : ∃ k : Nat, ((t : Int) + 1 + (e : Int)).tmod 3 = (k : Int) ∧ k < 3 ∧ cls k ≠ cls t := by
  have h : t = 0 ∨ t = 1 ∨ t = 2 := by omega
  have h' : e = 0 ∨ e = 1 := by omega
  rcases h with rfl | rfl | rfl <;> rcases h' with rfl | rfl
  · exact ⟨1, by decide, by decide, by decide⟩
  · exact ⟨2, by decide, by decide, by decide⟩
  · exact ⟨2, by decide, by decide, by decide⟩
  · exact ⟨0, by decide, by decide, by decide⟩
  · exact ⟨0, by decide, by decide, by decide⟩
  · exact ⟨1, by decide, by decide, by decide⟩
/-- How far the scanner is behind k numbers. -/
def Come (k : Nat) (X : List UInt8) (o : List Nat) : Prop := ∃ T mid j, Rch X o T mid j ∧ ((k = 0 ∧ X = [] ∧ o = []) ∨ (0 < k ∧ (mid = true ∨ o ≠ [])))
theorem Come.step {k : Nat} {X : List UInt8} {o : List Nat} (h : Come k X o) (ho : o.length < 60) (n : Nat) (pop nl : Bool) : Come (k + 1) (brkStep n pop nl X o).1 (brkStep n pop nl X o).2 := by
  obtain ⟨T, mid, j, h, _⟩ := h
  obtain ⟨T', mid', j', h', hm⟩ := h.step n pop nl ho
  exact ⟨T', mid', j', h', .inr ⟨Nat.succ_pos k, hm⟩⟩
theorem Come.whole {k : Nat} {X : List UInt8} {o : List Nat} (h : Come k X o) (hX : X.length + o.length ≤ 400) : ∃ toks, scanF (X ++ o.map cls) = .ok toks ∧ nls toks = min k 1 ∧ toks.length ≤ 402 := by
  obtain ⟨T, mid, j, h, hm⟩ := h
  rcases hm with ⟨rfl, rfl, rfl⟩ | ⟨hk, hm'⟩
  · exact ⟨[⟨8, [], 0⟩], by decide, by decide, by decide⟩
  · obtain ⟨T', h'⟩ := Rch.close o h hm'
    refine ⟨_, scan_closed h', ?_, ?_⟩
    · rw [List.append_assoc, nls_four _ _ h'.kinds]
      show 1 + (0 + 0) = _
      omega
    · have := h'.few
      simp at this ⊢
      omega
theorem ext_last (x : ByteArray) (c d : UInt8) : (x ++ ⟨#[c]⟩ ++ ⟨#[d]⟩).extract 0 (x.size + 1) = x ++ ⟨#[c]⟩ := by
  apply ByteArray.ext
  apply Array.toList_inj.1
  rw [ByteArray.data_extract, Array.toList_extract, ByteArray.data_append, Array.toList_append, List.extract_eq_take_drop]
  have h : (x ++ ⟨#[c]⟩ : ByteArray).data.toList.length = x.size + 1 := by
    rw [ByteArray.data_append, Array.toList_append]
    simp
  rw [List.drop_zero, Nat.sub_zero, ← h, List.take_left]
set_option maxRecDepth 10000 in
set_option maxHeartbeats 8000000 in
theorem lexBrackets_any (A : Nat → Addr) (ao : Option Addr) (cap0 : Nat) (l : List Int) (bend : Int) (w : World) (hV : Full A w) (hL : IntsAt w ao l) : Calls Tryd.prog 9 #[.slice ao l.length cap0, .int .i64 bend] w fun e w' => e = .returned (.bool true) ∧ Below w.heap.size w w' := by
  have HF := hid' (first_any A w hV.vars)
  have HV := hid' hV
  have HL := hid' hL
  clear hV hL
  by_cases hn : l.length ≤ 40
  · have hn1 : ¬ (40 : Int) < (l.length : Int) := by omega
    obtain ⟨TX, hTX⟩ : ∃ f : List UInt8 → ByteArray, f = txt := ⟨_, rfl⟩
    have HTX := hid' hTX
    have HT0 : Hid (TX [] = ⟨#[]⟩) := hid' (by rw [hTX]; rfl)
    have HTA : Hid (∀ x (y : List UInt8), TX x ++ ⟨y.toArray⟩ = TX (x ++ y)) := hid' (by rw [hTX]; exact fun x y => txt_app x y)
    have HTZ : Hid (∀ x, (TX x).size = x.length) := hid' (by rw [hTX]; exact txt_size)
    clear hTX
    go_enter Tryd.func9, Tryd.ntmps9
    go_wp2_with fail
    refine (HF.out).mono ?_
    rintro e w1 ⟨rfl, b1⟩
    have HB1 := hid' b1
    have HV1 := hid' (HV.out.below b1)
    have HL1 : Hid (∀ W, Below w.heap.size w W → IntsAt W ao l) := hid' (fun W hW => HL.out.below hW)
    have hz1 := b1.size
    clear HF HL b1
    go_wp2
    go_loopw [8, 9, 10, 11, 12] (fun t vo i _ _ wr => ∃ (X : List UInt8) (o : List Nat) (k : Nat), k ≤ l.length ∧ i = .int .i64 k ∧ t = .string (TX X) ∧ Hid (OwnI wr w.heap.size vo o.reverse) ∧ Hid (Come k X o) ∧ o.length ≤ k ∧ Hid (∀ x ∈ o, x < 3) ∧ X.length ≤ 5 * k ∧ Hid (Below w.heap.size w wr)) (fun _ _ i _ _ _ => l.length - (intOf i).toNat)
    case atStart => exact ⟨[], [], 0, Nat.zero_le _, rfl, by rw [HT0.out], hid' (OwnI.none _ _), hid' ⟨[], false, 0, rch_none, .inl ⟨rfl, rfl, rfl⟩⟩, Nat.le_refl _, hid' (by simp), Nat.le_refl _, HB1⟩
    case round =>
      obtain ⟨X, o, k, hk, rfl, rfl, hO, hC, hol, hx3, hXl, hb⟩ := hrel
      have hwz := hb.out.size
      by_cases hlt : k < l.length
      · have hlt' : (k : Int) < (l.length : Int) := by omega
        obtain ⟨z, hzk⟩ : ∃ z, l[k] = z := ⟨_, rfl⟩
        obtain ⟨m, n, hm, hm1, hm2, hm3, hn3⟩ := fold_three z
        have hcz : (∀ W, Below w.heap.size w W → W.cell? ⟨(ao.getD ⟨0, 0, none⟩).block, (ao.getD ⟨0, 0, none⟩).off + k, none⟩ = some (.int .i64 z)) ∧ ao = some ⟨(ao.getD ⟨0, 0, none⟩).block, (ao.getD ⟨0, 0, none⟩).off, none⟩ := by
          refine ⟨fun W hW => ?_, ?_⟩
          · rcases HL1.out W hW with h0 | ⟨bk, oo, rfl, _, h4⟩
            · rw [h0] at hlt; exact absurd hlt (by simp)
            · exact (h4 k z (by rw [List.getElem?_eq_getElem hlt, hzk])).1
          · rcases HL1.out wr hb.out with h0 | ⟨bk, oo, rfl, _, h4⟩
            · rw [h0] at hlt; exact absurd hlt (by simp)
            · rfl
        generalize (ao.getD ⟨0, 0, none⟩).block = bk at hcz
        generalize (ao.getD ⟨0, 0, none⟩).off = oo at hcz
        obtain ⟨hcza, hao⟩ := hcz
        subst hao
        have hcz := hcza wr hb.out
        have HCZ := hid' hcza
        clear hcza
        obtain ⟨b4, hb4⟩ : ∃ b4, bits BinOp.and IntKind.i64 z 4 = b4 := ⟨_, rfl⟩
        obtain ⟨b8, hb8⟩ : ∃ b8, bits BinOp.and IntKind.i64 z 8 = b8 := ⟨_, rfl⟩
        have HST := hid' (fun pop nl => hC.out.step (by omega) n pop nl)
        have hxs : (TX X).size ≤ 10000 := by rw [HTZ.out]; omega
        have HXs := hid' (HTZ.out X)
        have hso := slice_opn n hn3
        clear hzk hC
        have HTA1 : Hid (TX X ++ ⟨#[opn n]⟩ = TX (X ++ [opn n])) := hid' (HTA.out X [opn n])
        have HTA2 : Hid (TX (X ++ [opn n]) ++ ⟨#[10, 32, 32, 32]⟩ = TX ((X ++ [opn n]) ++ [10, 32, 32, 32])) := hid' (HTA.out _ [10, 32, 32, 32])
        cases o with
        | nil =>
          obtain ⟨ao2, cp2, rfl, _⟩ := own_form hO.out
          simp only [List.reverse_nil, List.length_nil] at hO ⊢
          by_cases h8 : b8 = 0
          · have hq : (b8 != 0) = false := by simp [h8]
            have hST : Hid (Come (k + 1) ((X ++ [opn n]) ++ (if (b8 != 0) then [10, 32, 32, 32] else [])) (n :: [])) := HST.out false (b8 != 0)
            rw [hq] at hST
            go_wp2_with (at_builtin; refine int_plain hO.out n (0 + 1) _ rfl (by simp) hwz (by simp <;> omega) rfl (.tmp 93) (.tmp 95) (by rfl) (by rfl) (by rfl) ?_; intro g5 cap5 w5 q1 q2 q3 q4; have HO5 := hid' q1; have HB5 := hid' (hb.out.trans q2); have hcz5 := HCZ.out w5 HB5.out; clear q1 q2 q3 q4)
            go_roundw
            case rel => exact ⟨(X ++ [opn n]), n :: [], k + 1, by omega, by go_num, by rw [HTA1.out], hid' (by rw [List.reverse_cons]; exact HO5.out), hid' (by have h := hST.out; simpa using h), by simp only [List.length_cons]; omega, hid' (fun x hx => by rcases List.mem_cons.1 hx with rfl | hx; exact hn3; exact hx3.out x hx), by simp; omega, HB5⟩
            case measure => simp [intOf]; omega
          · have hq : (b8 != 0) = true := by simp [h8]
            have hST : Hid (Come (k + 1) ((X ++ [opn n]) ++ (if (b8 != 0) then [10, 32, 32, 32] else [])) (n :: [])) := HST.out false (b8 != 0)
            rw [hq] at hST
            go_wp2_with (at_builtin; refine int_plain hO.out n (0 + 1) _ rfl (by simp) hwz (by simp <;> omega) rfl (.tmp 93) (.tmp 95) (by rfl) (by rfl) (by rfl) ?_; intro g5 cap5 w5 q1 q2 q3 q4; have HO5 := hid' q1; have HB5 := hid' (hb.out.trans q2); have hcz5 := HCZ.out w5 HB5.out; clear q1 q2 q3 q4)
            go_roundw
            case rel => exact ⟨(X ++ [opn n]) ++ [10, 32, 32, 32], n :: [], k + 1, by omega, by go_num, by rw [HTA1.out, HTA2.out], hid' (by rw [List.reverse_cons]; exact HO5.out), hid' (by have h := hST.out; simpa using h), by simp only [List.length_cons]; omega, hid' (fun x hx => by rcases List.mem_cons.1 hx with rfl | hx; exact hn3; exact hx3.out x hx), by simp; omega, HB5⟩
            case measure => simp [intOf]; omega
        | cons t r =>
          simp only [List.length_cons] at hol
          obtain ⟨g, cap, rfl, hcap, hg, hct⟩ := ownI_top hO.out
          by_cases hp : b4 = 0
          · have hp' : (b4 != 0) = false := by simp [hp]
            by_cases h8 : b8 = 0
            · have hq : (b8 != 0) = false := by simp [h8]
              have hST : Hid (Come (k + 1) ((X ++ [opn n]) ++ (if (b8 != 0) then [10, 32, 32, 32] else [])) (n :: (t :: r))) := HST.out false (b8 != 0)
              rw [hq] at hST
              go_wp2_with (at_builtin; refine int_plain hO.out n ((r.length + 1) + 1) _ rfl (by simp) hwz (by simp <;> omega) rfl (.tmp 93) (.tmp 95) (by rfl) (by rfl) (by rfl) ?_; intro g5 cap5 w5 q1 q2 q3 q4; have HO5 := hid' q1; have HB5 := hid' (hb.out.trans q2); have hcz5 := HCZ.out w5 HB5.out; clear q1 q2 q3 q4)
              go_roundw
              case rel => exact ⟨(X ++ [opn n]), n :: (t :: r), k + 1, by omega, by go_num, by rw [HTA1.out], hid' (by rw [List.reverse_cons]; exact HO5.out), hid' (by have h := hST.out; simpa using h), by simp only [List.length_cons]; omega, hid' (fun x hx => by rcases List.mem_cons.1 hx with rfl | hx; exact hn3; exact hx3.out x hx), by simp; omega, HB5⟩
              case measure => simp [intOf]; omega
            · have hq : (b8 != 0) = true := by simp [h8]
              have hST : Hid (Come (k + 1) ((X ++ [opn n]) ++ (if (b8 != 0) then [10, 32, 32, 32] else [])) (n :: (t :: r))) := HST.out false (b8 != 0)
              rw [hq] at hST
              go_wp2_with (at_builtin; refine int_plain hO.out n ((r.length + 1) + 1) _ rfl (by simp) hwz (by simp <;> omega) rfl (.tmp 93) (.tmp 95) (by rfl) (by rfl) (by rfl) ?_; intro g5 cap5 w5 q1 q2 q3 q4; have HO5 := hid' q1; have HB5 := hid' (hb.out.trans q2); have hcz5 := HCZ.out w5 HB5.out; clear q1 q2 q3 q4)
              go_roundw
              case rel => exact ⟨(X ++ [opn n]) ++ [10, 32, 32, 32], n :: (t :: r), k + 1, by omega, by go_num, by rw [HTA1.out, HTA2.out], hid' (by rw [List.reverse_cons]; exact HO5.out), hid' (by have h := hST.out; simpa using h), by simp only [List.length_cons]; omega, hid' (fun x hx => by rcases List.mem_cons.1 hx with rfl | hx; exact hn3; exact hx3.out x hx), by simp; omega, HB5⟩
              case measure => simp [intOf]; omega
          · have hp' : (b4 != 0) = true := by simp [hp]
            have ht3 := hx3.out t (by simp)
            have hsc := slice_cls t ht3
            have HTC : Hid (TX X ++ ⟨#[cls t]⟩ = TX (X ++ [cls t])) := hid' (HTA.out X [cls t])
            have HTD : Hid (TX (X ++ [cls t]) ++ ⟨#[10]⟩ = TX ((X ++ [cls t]) ++ [10])) := hid' (HTA.out _ [10])
            have hST : Hid (Come (k + 1) ((X ++ [cls t]) ++ (if r = [] then [] else [10])) r) := HST.out true false
            have HOC := hid' (ownI_cut hO.out)
            cases r with
            | nil =>
              have hct0 : wr.cell? ⟨g, 0, none⟩ = some (.int .i64 (t : Int)) := hct
              go_wp2
              go_roundw
              case rel => exact ⟨X ++ [cls t], [], k + 1, by omega, by go_num, by rw [ext_last, HTC.out], HOC, hid' (by have h := hST.out; simpa using h), by simp, hid' (by simp), by simp; omega, hb⟩
              case measure => simp [intOf]; omega
            | cons t2 r2 =>
              simp only [List.length_cons] at hol hcap hct HOC
              go_wp2
              go_roundw
              case rel => exact ⟨(X ++ [cls t]) ++ [10], t2 :: r2, k + 1, by omega, by go_num, by rw [HTC.out, HTD.out], HOC, hid' (by have h := hST.out; rwa [if_neg (by simp)] at h), by simp only [List.length_cons]; omega, hid' (fun x hx => hx3.out x (List.mem_cons_of_mem _ hx)), by simp; omega, hb⟩
              case measure => simp [intOf]; omega
      · obtain rfl : k = l.length := by omega
        obtain ⟨toks, hsc, hnl, htl⟩ := Come.whole hC.out (by omega)
        obtain ⟨ao2, cp2, rfl, _⟩ := own_form hO.out
        rw [List.length_reverse] at hO ⊢
        have HSCW := hid' (scan_txt A (X ++ o.map cls) (by simp; omega) _ hsc)
        rw [← HTX.out] at HSCW
        have HXB := hid' (fun W (h : Vars A W) (_ : o ≠ []) => scan_txt A X (by omega) _ rfl W h)
        clear hsc hlt
        obtain ⟨wz, rfl⟩ : ∃ wz, wz = wr := ⟨_, rfl⟩
        go_wp2
        go_loopw [13, 14] (fun t i wq => ∃ (a b : List Nat) (q : Nat), o = a ++ b ∧ i = .int .i64 ((b.length : Int) - 1) ∧ t = .string (TX (X ++ a.map cls)) ∧ wq = wz.drewN q) (fun _ i _ => (intOf i + 1).toNat)
        case atStart => exact ⟨[], o, 0, rfl, rfl, by simp, rfl⟩
        case round =>
          obtain ⟨a, b, q, hab, rfl, rfl, rfl⟩ := hrel
          cases b with
          | cons t b =>
            have ht3 := hx3.out t (by rw [hab]; simp)
            have hsc := slice_cls t ht3
            have hi : (((t :: b).length : Nat) : Int) - 1 = (b.length : Int) := by simp
            have hbl : b.length < o.length := by rw [hab]; simp; omega
            have hbl' : (b.length : Int) < (o.length : Int) := by omega
            obtain ⟨go, cp3, e3, _, _, hgo, hcell⟩ := own_some hO.out (by simp; omega)
            injection e3 with e31 e32 e33
            subst e31
            clear e32 e33
            have hcb : wz.cell? ⟨go, b.length, none⟩ = some (.int .i64 (t : Int)) := by
              refine hcell b.length _ ?_
              rw [hab]
              simp [iv]
            have hxs : (TX (X ++ a.map cls)).size ≤ 10000 := by
              rw [HTZ.out]
              have := congrArg List.length hab
              simp at this ⊢
              omega
            have HTC : Hid (TX (X ++ a.map cls) ++ ⟨#[cls t]⟩ = TX (X ++ (a ++ [t]).map cls)) := hid' (by
              have h := HTA.out (X ++ a.map cls) [cls t]
              rw [List.map_append, ← List.append_assoc]
              exact h)
            generalize TX (X ++ a.map cls) = x at hxs HTC ⊢
            rw [hi]
            have hab' : o = (a ++ [t]) ++ b := by rw [hab]; simp
            have HAB := hid' hab'
            clear hcell hab hab' hi
            go_wp2_with fail
            go_quiet (fail)
            go_wp2
            go_roundw
            case rel => exact ⟨a ++ [t], b, _, HAB.out, rfl, by rw [HTC.out], rfl⟩
            case measure => simp [intOf] <;> omega
          | nil =>
            rw [List.append_nil] at hab
            subst hab
            have hbq : Below w.heap.size w (wz.drewN q) := ⟨hb.out.os, hb.out.tape, hb.out.output, hb.out.size, hb.out.block⟩
            have HBQ := hid' hbq
            have HVQ := hid' (HV.out.below hbq)
            have HOQ : Hid (OwnI (wz.drewN q) w.heap.size (.slice ao2 o.length cp2) o.reverse) := hid' (hO.out.keep fun _ _ _ => rfl)
            have HS := hid' (HSCW.out _ HVQ.out.vars)
            clear hO hb hbq HSCW
            generalize wz.drewN q = wy at HBQ HVQ HOQ HS ⊢
            simp only [List.length_nil]
            go_wp2_with fail
            refine (HS.out).mono ?_
            intro e w5 hpost
            obtain ⟨b5, ao5, cap5, rfl, hts⟩ := hpost
            have HB5 := hid' (below_join HBQ.out b5)
            have HV5 := hid' (HVQ.out.below b5)
            have HO5 := hid' (HOQ.out.keep (W' := w5) fun p _ hp => b5.block p hp)
            have HTS5 := hid' hts
            clear hts b5 HS HBQ HVQ HOQ
            go_wp2
            go_loop [17, 18] (fun c i => ∃ (j n : Nat), j ≤ toks.length ∧ i = .int .i64 j ∧ c = .int .i64 n ∧ n ≤ j ∧ Hid (n + nls (toks.drop j) = min l.length 1)) (fun _ i => toks.length - (intOf i).toNat)
            case atStart => exact ⟨0, 0, Nat.zero_le _, rfl, rfl, Nat.le_refl _, hid' (by rw [List.drop_zero, Nat.zero_add]; exact hnl)⟩
            case round =>
              obtain ⟨j, n, hj, rfl, rfl, hnj, hch⟩ := hrel
              by_cases hlj : j < toks.length
              · have hlj' : (j : Int) < (toks.length : Int) := by omega
                have hch' := hch.out
                rw [List.drop_eq_getElem_cons hlj, nls_cons] at hch'
                rcases HTS5.out with h0 | ⟨g5, rfl, hg5, hx⟩
                · rw [h0] at hlj; exact absurd hlj (by simp)
                · have hc1 := (hx j _ (List.getElem?_eq_getElem hlj)).1
                  clear hx hch
                  generalize toks[j] = t at hch' hc1
                  by_cases e5 : t.kind = 5
                  · rw [if_pos e5] at hch'
                    rw [e5, show ((5 : Nat) : Int) = 5 from rfl] at hc1
                    have hch2 : Hid (n + 1 + nls (toks.drop (j + 1)) = min l.length 1) := hid' (by omega)
                    clear hch' e5
                    go_wp2
                    go_round
                    case rel => exact ⟨j + 1, n + 1, by omega, by go_num, by go_num, by omega, hch2⟩
                    case measure => simp [intOf]; omega
                  · rw [if_neg e5, Nat.zero_add] at hch'
                    have h5 : ((t.kind : Int) == 5) = false := by rw [beq_eq_false_iff_ne]; omega
                    have hch2 := hid' hch'
                    clear hch' e5
                    go_wp2
                    go_round
                    case rel => exact ⟨j + 1, n, by omega, by go_num, rfl, by omega, hch2⟩
                    case measure => simp [intOf]; omega
              · obtain rfl : j = toks.length := by omega
                have hnn : n = min l.length 1 := by
                  have h := hch.out
                  rw [List.drop_eq_nil_of_le (Nat.le_refl _)] at h
                  exact h
                have hn1' : ¬ (1 : Int) < (n : Int) := by omega
                have hmin : min (l.length : Int) 1 = (n : Int) := by omega
                clear hch HTS5
                cases o with
                | nil =>
                  simp only [List.length_nil]
                  go_wp2
                  go_ret
                  exact ⟨rfl, HB5.out⟩
                | cons t r =>
                  simp only [List.length_cons] at hol HO5 ⊢
                  have ht3 := hx3.out t (by simp)
                  obtain ⟨m2, e2, hm2, hm21, hm22, hm23, he2⟩ := fold_two bend
                  obtain ⟨kk, hkk, hkk3, hkc⟩ := other_cls t e2 ht3 he2
                  obtain ⟨T3, mid3, j3, hR3, _⟩ := hC.out
                  have HS6 := hid' (fun W (h : Vars A W) => scan_txt A X (by omega) _ (scan_left hR3 (by simp)) W h)
                  have HS7 := hid' (fun W (h : Vars A W) => scan_txt A (X ++ [cls kk]) (by simp; omega) _ (scan_wrong hR3 hkc) W h)
                  rw [← HTX.out] at HS6 HS7
                  have HTK : Hid (TX X ++ ⟨#[cls kk]⟩ = TX (X ++ [cls kk])) := hid' (HTA.out X [cls kk])
                  rw [← HTK.out] at HS7
                  have hsk := slice_cls kk hkk3
                  obtain ⟨gt, cpt, e3, hcpt, hgt, hct⟩ := ownI_top HO5.out
                  injection e3 with e31 e32 e33
                  subst e31
                  clear e32 e33 hR3
                  have hxs : (TX X).size = X.length := HTZ.out X
                  have hXl' : X.length ≤ 400 := by omega
                  have HXL : Hid (((X.length : Nat) : Int) = ((TX X).size : Int)) := hid' (by rw [hxs])
                  have hxs' : (TX X).size ≤ 400 := by omega
                  clear hxs
                  generalize TX X = x at HS6 HS7 HXL hxs' ⊢
                  go_wp2_with fail
                  refine (HS6.out _ HV5.out.vars).mono ?_
                  intro e w6 hpost
                  obtain ⟨b6, v6, rfl, hv6⟩ := hpost
                  have HB6 := hid' (below_join HB5.out b6)
                  have HV6 := hid' (HV5.out.below b6)
                  have HF6 := hid' hv6
                  have hct6 := (b6.cell (p := ⟨gt, r.length, none⟩) hgt).trans hct
                  clear hv6 b6 HS6 hct
                  go_wp2_with fail
                  refine (HS7.out _ HV6.out.vars).mono ?_
                  intro e w7 hpost
                  obtain ⟨b7, v7, rfl, hv7⟩ := hpost
                  have HB7 := hid' (below_join HB6.out b7)
                  have HV7 := hid' (HV6.out.below b7)
                  have HF7 := hid' hv7
                  have HF67 := hid' (HF6.out.below b7)
                  clear hv7 b7 HS7 HF6
                  go_wp2_with fail
                  refine (Placed_any 101 _ (by decide) _).mono ?_
                  rintro e w8 ⟨rfl, b8⟩
                  have HSM := hid' (same_fault (HF67.out.below b8) (HV7.out.sent.below b8))
                  have HB8 := hid' (below_join HB7.out b8)
                  have HV8 := hid' (HV7.out.below b8)
                  have HF8 := hid' (HF7.out.below b8)
                  rw [HXL.out] at HSM
                  clear b8 HF67 HF7
                  go_wp2_with fail
                  refine (HSM.out).mono ?_
                  rintro e w9 ⟨rfl, b9⟩
                  have HB9 := hid' (below_join HB8.out b9)
                  have HV9 := hid' (HV8.out.below b9)
                  have HF9 := hid' (HF8.out.below b9)
                  clear b9 HF8 HSM
                  go_wp2_with fail
                  refine (Placed_any 101 _ (by decide) _).mono ?_
                  rintro e w10 ⟨rfl, b10⟩
                  have HSM := hid' (same_fault (HF9.out.below b10) (HV9.out.sent.below b10))
                  have HB10 := hid' (below_join HB9.out b10)
                  rw [HXL.out] at HSM
                  clear b10
                  go_wp2_with fail
                  refine (HSM.out).mono ?_
                  rintro e w11 ⟨rfl, b11⟩
                  have HB11 := hid' (below_join HB10.out b11)
                  clear b11
                  go_wp2
                  go_ret
                  exact ⟨rfl, HB11.out⟩
  · have hn1 : (40 : Int) < (l.length : Int) := by omega
    go_enter Tryd.func9, Tryd.ntmps9
    go_wp2_with fail
    refine (HF.out).mono ?_
    rintro e w1 ⟨rfl, b1⟩
    have HB1 := hid' b1
    clear b1
    go_wp2
    go_ret
    exact ⟨rfl, HB1.out⟩
end Go.Proofs.YtjobpcbnolgmnaaDoor
