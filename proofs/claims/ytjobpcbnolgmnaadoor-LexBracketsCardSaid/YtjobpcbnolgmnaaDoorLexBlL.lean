/- smithylaw4.LexBlocks returns true. Conditions: the words and the errors of api lie in their variables; the list's numbers lie where it says. -/
import Derived.Test.YtjobpcbnolgmnaaDoorLexBlF
import Derived.Test.YtjobpcbnolgmnaaDoorLexInts
import Derived.Test.YtjobpcbnolgmnaaDoorLexQuotesLaw
import Derived.Test.YtjobpcbnolgmnaaDoorLexIntsIn
namespace Go.Proofs.YtjobpcbnolgmnaaDoor
open Go.RowKit
open Lx Blk

/-- Texts are bytes in a row. -/
theorem txt_app (x y : List UInt8) : txt x ++ txt y = txt (x ++ y) := by
  apply ByteArray.ext
  apply Array.toList_inj.1
  rw [ByteArray.data_append, Array.toList_append, data_txt, data_txt, data_txt]
/-- What a line is. -/
theorem fold_six (z : Int) : ∃ (m : Int) (n : Nat), z.tmod 6 = m ∧ -6 < m ∧ m < 6 ∧ (m + 6).tmod 6 = (n : Int) ∧ n < 6 ∧ ((z.tmod 6 + 6).tmod 6).toNat = n := by
  have h1 : -6 < z.tmod 6 ∧ z.tmod 6 < 6 := by
    refine ⟨?_, ?_⟩
    · rw [tmod_eq_if]; split <;> omega
    · rw [tmod_eq_if]; split <;> omega
  have h2 : (z.tmod 6 + 6).tmod 6 = (z.tmod 6 + 6) % 6 := Int.tmod_eq_emod_of_nonneg (by omega)
  refine ⟨_, ((z.tmod 6 + 6) % 6).toNat, rfl, h1.1, h1.2, ?_, ?_, ?_⟩
  · rw [h2]; omega
  · omega
  · rw [h2]
def digB (z : Int) : Nat := ((z.tmod 6 + 6).tmod 6).toNat
theorem goB_len : ∀ (ns : List Nat) (f : Bool) (o : List Nat), (goB f o ns).length = ns.length
  | [], _, _ => rfl
  | n :: ns, f, o => by unfold goB; rw [List.length_cons, goB_len ns, List.length_cons]
theorem lineB_len (o : List Nat) : (lineB o).length = o.headD 0 + 2 := by unfold lineB; simp
theorem drop_le {o : List Nat} {a d : Nat} {r' : List Nat} {j : Nat} (h : (a :: o).Pairwise (fun a b => b < a)) (e : (a :: o).drop j = d :: r') : d ≤ a := by
  have hm : d ∈ (a :: o) := List.mem_of_mem_drop (by rw [e]; simp)
  rcases List.mem_cons.1 hm with rfl | hm
  · exact Nat.le_refl _
  · exact Nat.le_of_lt ((List.pairwise_cons.1 h).1 d hm)
theorem scan_txt (A : Nat → Addr) (X : List UInt8) (hX : X.length ≤ 65536) (R : RR) (h : scanF X = R) (w : World) (hV : Vars A w) : Calls Tryd.prog 11 #[.string (txt X)] w (ScanPost A w R) := by
  have := scan_any A (txt X) (by rw [txt_size]; exact hX) w hV
  rwa [data_txt, h] at this
theorem own_cap {W : World} {B : Nat} {ao : Option Addr} {m cap : Nat} {xs : List Nat} (h : OwnI W B (.slice ao m cap) xs) : xs.length ≤ cap ∧ m = xs.length := by
  obtain ⟨a, c, e, h1⟩ := own_form h
  injection e with _ e2 e3
  subst e3
  exact ⟨h1, e2⟩
set_option maxRecDepth 10000 in
set_option maxHeartbeats 8000000 in
theorem lexBlocks_any (A : Nat → Addr) (ao : Option Addr) (cap0 : Nat) (l : List Int) (w : World) (hV : Vars A w) (hL : IntsAt w ao l) : Calls Tryd.prog 7 #[.slice ao l.length cap0] w fun e w' => e = .returned (.bool true) ∧ Below w.heap.size w w' := by
  have HF := hid' (first_any A w hV)
  have HV := hid' hV
  have HL := hid' hL
  clear hV hL
  by_cases hn : l.length ≤ 40
  · have hn1 : ¬ (40 : Int) < (l.length : Int) := by omega
    obtain ⟨OS, hOS⟩ : ∃ OS, goB true [0] (l.map digB) = OS := ⟨_, rfl⟩
    have hOSl : OS.length = l.length := by rw [← hOS, goB_len, List.length_map]
    obtain ⟨toks, hsc, hchk, htl⟩ := scan_lines (l.map digB) (by rw [List.length_map]; exact hn)
    rw [hOS] at hsc hchk
    rw [List.length_map] at hchk
    have HOS := hid' hOS
    have HSC := hid' hsc
    have HCHK := hid' hchk
    obtain ⟨TX, hTX⟩ : ∃ f : List UInt8 → ByteArray, f = txt := ⟨_, rfl⟩
    have HTX := hid' hTX
    have HT0 : Hid (TX [] = ⟨#[]⟩) := hid' (by rw [hTX]; rfl)
    have HTS : Hid (∀ x, TX x ++ ⟨#[32]⟩ = TX (x ++ [32])) := hid' (by rw [hTX]; exact fun x => txt_app x [32])
    have HTL : Hid (∀ x, TX x ++ ⟨#[120, 10]⟩ = TX (x ++ [120, 10])) := hid' (by rw [hTX]; exact fun x => txt_app x [120, 10])
    have HTZ : Hid (∀ x, (TX x).size = x.length) := hid' (by rw [hTX]; exact txt_size)
    have hns : (l.map digB).length = l.length := List.length_map ..
    obtain ⟨ns, hnse⟩ : ∃ ns, l.map digB = ns := ⟨_, rfl⟩
    rw [hnse] at HOS hns
    have HNS := hid' hnse
    clear hOS hsc hchk hTX hnse
    go_enter Tryd.func7, Tryd.ntmps7
    go_wp2_with fail
    refine (HF.out).mono ?_
    rintro e w1 ⟨rfl, b1⟩
    have HB1 := hid' b1
    have HV1 := hid' (HV.out.below b1)
    have HL1 : Hid (∀ W, Below w.heap.size w W → IntsAt W ao l) := hid' (fun W hW => HL.out.below hW)
    have hz1 := b1.size
    clear HF HL b1
    go_wp2_with (at_builtin; refine int_plain (OwnI.none _ w.heap.size) 0 1 0 rfl rfl hz1 (by simp) rfl (.tmp 27) (.tmp 28) (by rfl) (by rfl) (by rfl) ?_; intro g1 cap1 w2 p1 p2 p3 p4; have HO2 := hid' p1; have HB2 := hid' (HB1.out.trans p2); have hz2 := p2.size; have hg1 := (p1.lt g1 rfl).2; clear p1 p2 p3 p4)
    generalize hw3 : w2.alloc (.cells #[] 3) = w3
    have HTW : Hid (Two w3 w.heap.size (.slice (some ⟨g1, 0, none⟩) 1 cap1) [0] (.slice (some ⟨w2.heap.size, 0, none⟩) 0 0) []) := hid' (by
      rw [← hw3]
      refine ⟨World.ownsRow.alloc HO2.out _, ⟨rfl, .inr ⟨w2.heap.size, 0, #[], rfl, HB2.out.size, heap_alloc_new _ _, Nat.le_refl _, by unfold maxLen; simp, rfl, rfl⟩⟩, fun k e e2 => ?_⟩
      simp only [Value.ownBlock, Option.some.injEq] at e e2
      omega)
    have HB3 : Hid (Below w.heap.size w w3) := hid' (by rw [← hw3]; exact HB2.out.alloc HB2.out.size _)
    clear hw3 HO2 HB2 hz2 hg1 HB1
    go_loopw [4, 5, 6, 7, 8, 9, 10] (fun t vo vd i _ _ _ wr => ∃ (P : List (List Nat)) (o : List Nat) (k : Nat), k ≤ l.length ∧ i = .int .i64 k ∧ P.length = k ∧ Hid (OS = P ++ goB (decide (k = 0)) o (ns.drop k)) ∧ t = .string (TX (P.flatMap lineB)) ∧ Hid (Two wr w.heap.size vo o vd (P.map dp)) ∧ Dec o ∧ o.length ≤ k + 1 ∧ (k = 0 → o = [0]) ∧ o.headD 0 ≤ 2 * k ∧ (P.flatMap lineB).length ≤ 82 * k ∧ Hid (Below w.heap.size w wr)) (fun _ _ _ i _ _ _ _ => l.length - (intOf i).toNat)
    case atStart => exact ⟨[], [0], 0, Nat.zero_le _, rfl, rfl, hid' (by rw [← HOS.out]; rfl), by rw [List.flatMap_nil, HT0.out], HTW, dec_one, by simp, fun _ => rfl, by simp, by simp, HB3⟩
    case round =>
      clear HTW HB3
      obtain ⟨P, o, k, hk, rfl, hPl, hos, rfl, hT, hD, hol, hk0o, hhd, hsz, hb⟩ := hrel
      have hwz := hb.out.size
      by_cases hlt : k < l.length
      · have hlt' : (k : Int) < (l.length : Int) := by omega
        obtain ⟨z, hzk⟩ : ∃ z, l[k] = z := ⟨_, rfl⟩
        obtain ⟨m, n, hm, hm1, hm2, hm3, hn6, hdig⟩ := fold_six z
        have hw6 : wrap64 (m + 6) = m + 6 := by unfold wrap64; omega
        have hnd : ns.drop k = n :: ns.drop (k + 1) := by
          have h1 : k < ns.length := by omega
          rw [List.drop_eq_getElem_cons h1]
          congr 1
          have h2 : ns[k]? = some n := by
            rw [← HNS.out, List.getElem?_map, List.getElem?_eq_getElem hlt, hzk]
            show some (digB z) = _
            unfold digB
            rw [hdig]
          rw [List.getElem?_eq_getElem h1] at h2
          exact Option.some.inj h2
        have hos' : Hid (OS = (P ++ [opB (decide (k = 0)) n o]) ++ goB (decide (k + 1 = 0)) (opB (decide (k = 0)) n o) (ns.drop (k + 1))) := hid' (by
          rw [hos.out, hnd, List.append_assoc, show decide (k + 1 = 0) = false from by simp]
          rfl)
        have hD' := hD.op (decide (k = 0)) n
        have hol' := (op_len hD (decide (k = 0)) n).1
        have hcz : wr.cell? ⟨(ao.getD ⟨0, 0, none⟩).block, (ao.getD ⟨0, 0, none⟩).off + k, none⟩ = some (.int .i64 z) ∧ ao = some ⟨(ao.getD ⟨0, 0, none⟩).block, (ao.getD ⟨0, 0, none⟩).off, none⟩ := by
          rcases HL1.out wr hb.out with h0 | ⟨bk, oo, rfl, _, h4⟩
          · rw [h0] at hlt; exact absurd hlt (by simp)
          · exact ⟨(h4 k z (by rw [List.getElem?_eq_getElem hlt, hzk])).1, rfl⟩
        generalize (ao.getD ⟨0, 0, none⟩).block = bk at hcz
        generalize (ao.getD ⟨0, 0, none⟩).off = oo at hcz
        obtain ⟨hcz, hao⟩ := hcz
        subst hao
        cases o with
        | nil => exact absurd hD.pos (by simp)
        | cons a r =>
          obtain ⟨g, cap, rfl, hcap, hg, hct⟩ := hT.out.top
          simp only [List.length_cons, List.headD_cons] at hol hol' hhd
          clear hos hnd hzk
          by_cases hk0 : k = 0
          · subst hk0
            rw [show decide ((0 : Nat) = 0) = true from rfl] at hos' hD' hol'
            obtain ⟨rfl, rfl⟩ : a = 0 ∧ r = [] := by have := hk0o rfl; simpa using this
            obtain ⟨aa, haa⟩ : ∃ aa, aa = 0 := ⟨_, rfl⟩
            rw [Nat.add_zero] at hcz
            have hop : opB true n [0] = [aa] := by rw [haa]; rfl
            have haa0 : aa ≤ 2 * 0 + 2 := by omega
            have HAA := hid' haa
            by_cases h4 : 4 ≤ n
            · have h4' : (4 : Int) ≤ (n : Int) := by omega
              have HAZ : Hid ((n : Int) - 3 = ((n - 3 : Nat) : Int)) := hid' (by omega)
              simp only [List.length_nil, Nat.zero_add] at hcap hct
              have HT1 : Hid (Two wr w.heap.size (.slice (some ⟨g, 0, none⟩) 1 cap) [0] u6 (P.map dp)) := hT
              clear hop haa hT
              go_wp2_with (at_builtin; refine int_plain HT1.out.opn (n - 3) 2 _ ?_ (by simp) hwz (by simp) rfl (.tmp 53) (.tmp 58) (by rfl) (by rfl) (by rfl) ?_; rotate_left; intro gg cc wz q1 q2 q3 q4; have hcc9 := (own_cap q1).1; simp at hcc9; have HTV := hid' (HT1.out.pushed q1 q3 q4); have HBZ := hid' (hb.out.trans q2); clear q1 q2 q3 q4; rotate_left; exact HAZ.out)
              have hop : opB true n [0] = [aa] := by rw [HAA.out]; rfl
              have HTW : Hid (Two wz w.heap.size (.slice (some ⟨gg, 0, none⟩) 1 cc) [aa] u6 (P.map dp)) := hid' (by rw [HAA.out]; exact HTV.out.cut 1 1 (by simp) rfl)
              rw [hop] at hos' hD' hol'
              simp only [List.length_cons] at hol'
              have haa : aa ≤ 2 * (0 + 1) := by have := haa0; omega
              obtain ⟨gg2, cc2, ee, hcc2, hgg, hcc⟩ := HTW.out.top
              injection ee with ee1 ee2 ee3
              injection ee1 with ee1
              injection ee1 with ee1 _ _
              subst ee1 ee3
              clear ee2
              simp only [List.length_nil] at hcc hcc2
              have hrr : 0 ≤ 100 := by omega
              generalize hX : P.flatMap lineB = X at hsz ⊢
              go_loopw [4, 10] (fun t kk wq => ∃ j : Nat, j ≤ aa ∧ kk = .int .i64 j ∧ t = .string (TX (X ++ List.replicate j 32)) ∧ wq = wz) (fun _ kk _ => aa - (intOf kk).toNat)
              case atStart => exact ⟨0, Nat.zero_le _, rfl, by rw [List.replicate_zero, List.append_nil], rfl⟩
              case round =>
                obtain ⟨j, hj, rfl, rfl, rfl⟩ := hrel
                by_cases hlj : j < aa
                · have hlj' : (j : Int) < (aa : Int) := by omega
                  have HSk := hid' (HTS.out (X ++ List.replicate j 32))
                  have hxs : (TX (X ++ List.replicate j 32)).size ≤ 10000 := by rw [HTZ.out]; simp; omega
                  generalize TX (X ++ List.replicate j 32) = x at HSk hxs ⊢
                  go_wp2
                  go_roundw
                  case rel => exact ⟨j + 1, by omega, by go_num, by rw [HSk.out, List.append_assoc, List.replicate_succ'], trivial⟩
                  case measure => simp [intOf]; omega
                · obtain rfl : j = aa := by omega
                  have HSk := hid' (HTL.out (X ++ List.replicate j 32))
                  have hxs : (TX (X ++ List.replicate j 32)).size ≤ 10000 := by rw [HTZ.out]; simp; omega
                  generalize TX (X ++ List.replicate j 32) = x at HSk hxs ⊢
                  have hbz := HBZ.out.size
                  go_wp2_with (at_builtin; refine int_plain HTW.out.dep (0) (P.length + 1) _ (by first | omega | simp) (by rw [List.length_map]) hbz (by rw [List.length_map]; omega) rfl (.tmp 93) (.tmp 97) (by rfl) (by rfl) (by rfl) ?_; intro g5 cap5 w5 q1 q2 q3 q4; have HT5 := hid' (HTW.out.added q1 q3 q4); have HB5 := hid' (HBZ.out.trans q2); clear q1 q2 q3 q4)
                  go_roundw
                  case rel => exact ⟨P ++ [j :: []], j :: [], 0 + 1, by omega, by go_num, by rw [List.length_append, List.length_singleton, hPl], hos', by rw [HSk.out, List.flatMap_append, hX]; simp [lineB], hid' (by have h := HT5.out; rw [hPl] at h; rw [List.map_append]; exact h), hD', by simp <;> omega, by intro h; omega, by simp <;> omega, by rw [List.flatMap_append, hX, List.length_append]; simp [lineB_len] <;> omega, HB5⟩
                  case measure => simp [intOf]; omega
            · have h4' : ¬ (4 : Int) ≤ (n : Int) := by omega
              simp only [List.length_nil, Nat.zero_add] at hcap hct
              have HTW : Hid (Two wr w.heap.size (.slice (some ⟨g, 0, none⟩) 1 cap) [aa] u6 (P.map dp)) := hid' (by rw [HAA.out]; exact hT.out)
              have HBZ := hb
              clear hop haa hT
              obtain ⟨wz, rfl⟩ : ∃ wz, wz = wr := ⟨_, rfl⟩
              obtain ⟨gg, hgge⟩ : ∃ gg, gg = g := ⟨_, rfl⟩
              subst hgge
              by_cases h0 : 0 < n
              · have h0' : (0 : Int) < (n : Int) := by omega
                go_wp2
                clear hct
                have hop : opB true n [0] = [aa] := by rw [HAA.out]; rfl
                rw [hop] at hos' hD' hol'
                simp only [List.length_cons] at hol'
                have haa : aa ≤ 2 * (0 + 1) := by have := haa0; omega
                obtain ⟨gga, cap2, ee, hcap2, hgg, hcc⟩ := HTW.out.top
                injection ee with ee1 ee2 ee3
                injection ee1 with ee1
                injection ee1 with ee1 _ _
                subst ee1 ee3
                clear ee2
                simp only [List.length_nil] at hcc hcap2
                have hrr : 0 ≤ 100 := by omega
                generalize hX : P.flatMap lineB = X at hsz ⊢
                go_loopw [4, 10] (fun t kk wq => ∃ j : Nat, j ≤ aa ∧ kk = .int .i64 j ∧ t = .string (TX (X ++ List.replicate j 32)) ∧ wq = wz) (fun _ kk _ => aa - (intOf kk).toNat)
                case atStart => exact ⟨0, Nat.zero_le _, rfl, by rw [List.replicate_zero, List.append_nil], rfl⟩
                case round =>
                  obtain ⟨j, hj, rfl, rfl, rfl⟩ := hrel
                  by_cases hlj : j < aa
                  · have hlj' : (j : Int) < (aa : Int) := by omega
                    have HSk := hid' (HTS.out (X ++ List.replicate j 32))
                    have hxs : (TX (X ++ List.replicate j 32)).size ≤ 10000 := by rw [HTZ.out]; simp; omega
                    generalize TX (X ++ List.replicate j 32) = x at HSk hxs ⊢
                    go_wp2
                    go_roundw
                    case rel => exact ⟨j + 1, by omega, by go_num, by rw [HSk.out, List.append_assoc, List.replicate_succ'], trivial⟩
                    case measure => simp [intOf]; omega
                  · obtain rfl : j = aa := by omega
                    have HSk := hid' (HTL.out (X ++ List.replicate j 32))
                    have hxs : (TX (X ++ List.replicate j 32)).size ≤ 10000 := by rw [HTZ.out]; simp; omega
                    generalize TX (X ++ List.replicate j 32) = x at HSk hxs ⊢
                    have hbz := HBZ.out.size
                    go_wp2_with (at_builtin; refine int_plain HTW.out.dep (0) (P.length + 1) _ (by first | omega | simp) (by rw [List.length_map]) hbz (by rw [List.length_map]; omega) rfl (.tmp 93) (.tmp 97) (by rfl) (by rfl) (by rfl) ?_; intro g5 cap5 w5 q1 q2 q3 q4; have HT5 := hid' (HTW.out.added q1 q3 q4); have HB5 := hid' (HBZ.out.trans q2); clear q1 q2 q3 q4)
                    go_roundw
                    case rel => exact ⟨P ++ [j :: []], j :: [], 0 + 1, by omega, by go_num, by rw [List.length_append, List.length_singleton, hPl], hos', by rw [HSk.out, List.flatMap_append, hX]; simp [lineB], hid' (by have h := HT5.out; rw [hPl] at h; rw [List.map_append]; exact h), hD', by simp <;> omega, by intro h; omega, by simp <;> omega, by rw [List.flatMap_append, hX, List.length_append]; simp [lineB_len] <;> omega, HB5⟩
                    case measure => simp [intOf]; omega
              · obtain rfl : n = 0 := by omega
                go_wp2
                clear hct
                have hop : opB true 0 [0] = [aa] := by rw [HAA.out]; rfl
                rw [hop] at hos' hD' hol'
                simp only [List.length_cons] at hol'
                have haa : aa ≤ 2 * (0 + 1) := by have := haa0; omega
                obtain ⟨gga, cap2, ee, hcap2, hgg, hcc⟩ := HTW.out.top
                injection ee with ee1 ee2 ee3
                injection ee1 with ee1
                injection ee1 with ee1 _ _
                subst ee1 ee3
                clear ee2
                simp only [List.length_nil] at hcc hcap2
                have hrr : 0 ≤ 100 := by omega
                generalize hX : P.flatMap lineB = X at hsz ⊢
                go_loopw [4, 10] (fun t kk wq => ∃ j : Nat, j ≤ aa ∧ kk = .int .i64 j ∧ t = .string (TX (X ++ List.replicate j 32)) ∧ wq = wz) (fun _ kk _ => aa - (intOf kk).toNat)
                case atStart => exact ⟨0, Nat.zero_le _, rfl, by rw [List.replicate_zero, List.append_nil], rfl⟩
                case round =>
                  obtain ⟨j, hj, rfl, rfl, rfl⟩ := hrel
                  by_cases hlj : j < aa
                  · have hlj' : (j : Int) < (aa : Int) := by omega
                    have HSk := hid' (HTS.out (X ++ List.replicate j 32))
                    have hxs : (TX (X ++ List.replicate j 32)).size ≤ 10000 := by rw [HTZ.out]; simp; omega
                    generalize TX (X ++ List.replicate j 32) = x at HSk hxs ⊢
                    go_wp2
                    go_roundw
                    case rel => exact ⟨j + 1, by omega, by go_num, by rw [HSk.out, List.append_assoc, List.replicate_succ'], trivial⟩
                    case measure => simp [intOf]; omega
                  · obtain rfl : j = aa := by omega
                    have HSk := hid' (HTL.out (X ++ List.replicate j 32))
                    have hxs : (TX (X ++ List.replicate j 32)).size ≤ 10000 := by rw [HTZ.out]; simp; omega
                    generalize TX (X ++ List.replicate j 32) = x at HSk hxs ⊢
                    have hbz := HBZ.out.size
                    go_wp2_with (at_builtin; refine int_plain HTW.out.dep (0) (P.length + 1) _ (by first | omega | simp) (by rw [List.length_map]) hbz (by rw [List.length_map]; omega) rfl (.tmp 93) (.tmp 97) (by rfl) (by rfl) (by rfl) ?_; intro g5 cap5 w5 q1 q2 q3 q4; have HT5 := hid' (HTW.out.added q1 q3 q4); have HB5 := hid' (HBZ.out.trans q2); clear q1 q2 q3 q4)
                    go_roundw
                    case rel => exact ⟨P ++ [j :: []], j :: [], 0 + 1, by omega, by go_num, by rw [List.length_append, List.length_singleton, hPl], hos', by rw [HSk.out, List.flatMap_append, hX]; simp [lineB], hid' (by have h := HT5.out; rw [hPl] at h; rw [List.map_append]; exact h), hD', by simp <;> omega, by intro h; omega, by simp <;> omega, by rw [List.flatMap_append, hX, List.length_append]; simp [lineB_len] <;> omega, HB5⟩
                    case measure => simp [intOf]; omega
          · have hke : ((k : Int) == 0) = false := by rw [beq_eq_false_iff_ne]; omega
            rw [decide_eq_false hk0] at hos' hD' hol'
            by_cases h4 : 4 ≤ n
            · have h4' : (4 : Int) ≤ (n : Int) := by omega
              have hop : opB false n (a :: r) = (a + (n - 3)) :: a :: r := by unfold opB; rw [if_neg (by decide), if_pos h4]; rfl
              obtain ⟨aa, haa⟩ : ∃ aa, a + (n - 3) = aa := ⟨_, rfl⟩
              have haa0 : aa ≤ 2 * k + 2 := by omega
              have haz : (a : Int) + n - 3 = aa := by omega
              have HOP := hid' hop
              have HAZ := hid' haz
              clear hop haz
              go_wp2_with (at_builtin; refine int_plain hT.out.opn aa (r.length + 1 + 1) _ ?_ (by simp) hwz (by simp; omega) rfl (.tmp 53) (.tmp 58) (by rfl) (by rfl) (by rfl) ?_; rotate_left; intro gg cc wz q1 q2 q3 q4; have HTW := hid' (hT.out.pushed q1 q3 q4); have HBZ := hid' (hb.out.trans q2); clear q1 q2 q3 q4; rotate_left; exact HAZ.out)
              have hop := HOP.out
              rw [haa] at hop
              rw [hop] at hos' hD' hol'
              simp only [List.length_cons] at hol'
              have haa : aa ≤ 2 * (k + 1) := by have := haa0; omega
              obtain ⟨gg2, cc2, ee, hcc2, hgg, hcc⟩ := HTW.out.top
              injection ee with ee1 ee2 ee3
              injection ee1 with ee1
              injection ee1 with ee1 _ _
              subst ee1 ee3
              clear ee2
              simp only [List.length_cons] at hcc hcc2
              have hrr : (r.length + 1) ≤ 100 := by omega
              generalize hX : P.flatMap lineB = X at hsz ⊢
              go_loopw [4, 10] (fun t kk wq => ∃ j : Nat, j ≤ aa ∧ kk = .int .i64 j ∧ t = .string (TX (X ++ List.replicate j 32)) ∧ wq = wz) (fun _ kk _ => aa - (intOf kk).toNat)
              case atStart => exact ⟨0, Nat.zero_le _, rfl, by rw [List.replicate_zero, List.append_nil], rfl⟩
              case round =>
                obtain ⟨j, hj, rfl, rfl, rfl⟩ := hrel
                by_cases hlj : j < aa
                · have hlj' : (j : Int) < (aa : Int) := by omega
                  have HSk := hid' (HTS.out (X ++ List.replicate j 32))
                  have hxs : (TX (X ++ List.replicate j 32)).size ≤ 10000 := by rw [HTZ.out]; simp; omega
                  generalize TX (X ++ List.replicate j 32) = x at HSk hxs ⊢
                  go_wp2
                  go_roundw
                  case rel => exact ⟨j + 1, by omega, by go_num, by rw [HSk.out, List.append_assoc, List.replicate_succ'], trivial⟩
                  case measure => simp [intOf]; omega
                · obtain rfl : j = aa := by omega
                  have HSk := hid' (HTL.out (X ++ List.replicate j 32))
                  have hxs : (TX (X ++ List.replicate j 32)).size ≤ 10000 := by rw [HTZ.out]; simp; omega
                  generalize TX (X ++ List.replicate j 32) = x at HSk hxs ⊢
                  have hbz := HBZ.out.size
                  go_wp2_with (at_builtin; refine int_plain HTW.out.dep ((r.length + 1)) (P.length + 1) _ (by first | omega | simp) (by rw [List.length_map]) hbz (by rw [List.length_map]; omega) rfl (.tmp 93) (.tmp 97) (by rfl) (by rfl) (by rfl) ?_; intro g5 cap5 w5 q1 q2 q3 q4; have HT5 := hid' (HTW.out.added q1 q3 q4); have HB5 := hid' (HBZ.out.trans q2); clear q1 q2 q3 q4)
                  go_roundw
                  case rel => exact ⟨P ++ [j :: (a :: r)], j :: (a :: r), k + 1, by omega, by go_num, by rw [List.length_append, List.length_singleton, hPl], hos', by rw [HSk.out, List.flatMap_append, hX]; simp [lineB], hid' (by have h := HT5.out; rw [hPl] at h; rw [List.map_append]; exact h), hD', by simp <;> omega, by intro h; omega, by simp <;> omega, by rw [List.flatMap_append, hX, List.length_append]; simp [lineB_len] <;> omega, HB5⟩
                  case measure => simp [intOf]; omega
            · have h4' : ¬ (4 : Int) ≤ (n : Int) := by omega
              by_cases hcut : 0 < n ∧ 0 < r.length
              · have hcut1 : (0 : Int) < (n : Int) := by omega
                have hcut2 : (1 : Int) < ((r.length : Int) + 1) := by omega
                go_wp2
                have hj : min n r.length < (a :: r).length := by simp; omega
                obtain ⟨a2, r2, e2⟩ : ∃ a2 r2, (a :: r).drop (min n r.length) = a2 :: r2 := by rw [List.drop_eq_getElem_cons hj]; exact ⟨_, _, rfl⟩
                have hl2 : r2.length + 1 = r.length + 1 - min n r.length := by have := congrArg List.length e2; simp only [List.length_drop, List.length_cons] at this; omega
                have hM : (max 1 ((r.length : Int) + 1 - (n : Int))).toNat = r2.length + 1 := by omega
                rw [hM]
                have hop : opB false n (a :: r) = a2 :: r2 := by unfold opB; rw [if_neg (by decide), if_neg h4]; exact e2
                have haa0 : a2 ≤ 2 * k + 2 := by have := drop_le hD.dec e2; omega
                have HTW : Hid (Two wr w.heap.size (.slice (some ⟨g, 0, none⟩) (r2.length + 1) cap) (a2 :: r2) u6 (P.map dp)) := hid' (by rw [← e2]; exact hT.out.cut _ _ (by simp; omega) (by simp; omega))
                have HBZ := hb
                clear hT hM
                obtain ⟨wz, rfl⟩ : ∃ wz, wz = wr := ⟨_, rfl⟩
                have hl3 : r2.length ≤ 50 := by omega
                clear hl2
                rw [hop] at hos' hD' hol'
                simp only [List.length_cons] at hol'
                have haa : a2 ≤ 2 * (k + 1) := by have := haa0; omega
                obtain ⟨gga, cca, ee, hcca, hgg, hcc⟩ := HTW.out.top
                injection ee with ee1 ee2 ee3
                injection ee1 with ee1
                injection ee1 with ee1 _ _
                subst ee1 ee3
                clear ee2
                have hrr : r2.length ≤ 100 := by omega
                generalize hX : P.flatMap lineB = X at hsz ⊢
                go_loopw [4, 10] (fun t kk wq => ∃ j : Nat, j ≤ a2 ∧ kk = .int .i64 j ∧ t = .string (TX (X ++ List.replicate j 32)) ∧ wq = wz) (fun _ kk _ => a2 - (intOf kk).toNat)
                case atStart => exact ⟨0, Nat.zero_le _, rfl, by rw [List.replicate_zero, List.append_nil], rfl⟩
                case round =>
                  obtain ⟨j, hj, rfl, rfl, rfl⟩ := hrel
                  by_cases hlj : j < a2
                  · have hlj' : (j : Int) < (a2 : Int) := by omega
                    have HSk := hid' (HTS.out (X ++ List.replicate j 32))
                    have hxs : (TX (X ++ List.replicate j 32)).size ≤ 10000 := by rw [HTZ.out]; simp; omega
                    generalize TX (X ++ List.replicate j 32) = x at HSk hxs ⊢
                    go_wp2
                    go_roundw
                    case rel => exact ⟨j + 1, by omega, by go_num, by rw [HSk.out, List.append_assoc, List.replicate_succ'], trivial⟩
                    case measure => simp [intOf]; omega
                  · obtain rfl : j = a2 := by omega
                    have HSk := hid' (HTL.out (X ++ List.replicate j 32))
                    have hxs : (TX (X ++ List.replicate j 32)).size ≤ 10000 := by rw [HTZ.out]; simp; omega
                    generalize TX (X ++ List.replicate j 32) = x at HSk hxs ⊢
                    have hbz := HBZ.out.size
                    go_wp2_with (at_builtin; refine int_plain HTW.out.dep (r2.length) (P.length + 1) _ (by first | omega | simp) (by rw [List.length_map]) hbz (by rw [List.length_map]; omega) rfl (.tmp 93) (.tmp 97) (by rfl) (by rfl) (by rfl) ?_; intro g5 cap5 w5 q1 q2 q3 q4; have HT5 := hid' (HTW.out.added q1 q3 q4); have HB5 := hid' (HBZ.out.trans q2); clear q1 q2 q3 q4)
                    go_roundw
                    case rel => exact ⟨P ++ [j :: r2], j :: r2, k + 1, by omega, by go_num, by rw [List.length_append, List.length_singleton, hPl], hos', by rw [HSk.out, List.flatMap_append, hX]; simp [lineB], hid' (by have h := HT5.out; rw [hPl] at h; rw [List.map_append]; exact h), hD', by simp <;> omega, by intro h; omega, by simp <;> omega, by rw [List.flatMap_append, hX, List.length_append]; simp [lineB_len] <;> omega, HB5⟩
                    case measure => simp [intOf]; omega
              · have hop : opB false n (a :: r) = a :: r := by unfold opB; rw [if_neg (by decide), if_neg h4, show min n ((a :: r).length - 1) = 0 by rw [List.length_cons]; omega]; rfl
                have haa0 : a ≤ 2 * k + 2 := by omega
                have HTW : Hid (Two wr w.heap.size (.slice (some ⟨g, 0, none⟩) (r.length + 1) cap) (a :: r) u6 (P.map dp)) := hT
                have HBZ := hb
                clear hT
                obtain ⟨wz, rfl⟩ : ∃ wz, wz = wr := ⟨_, rfl⟩
                by_cases h0 : 0 < n
                · have h0' : (0 : Int) < (n : Int) := by omega
                  have hr1 : ¬ (1 : Int) < (r.length : Int) + 1 := by omega
                  go_wp2
                  rw [hop] at hos' hD' hol'
                  simp only [List.length_cons] at hol'
                  have haa : a ≤ 2 * (k + 1) := by have := haa0; omega
                  obtain ⟨gga, cc2, ee, hcc2, hgg, hcc⟩ := HTW.out.top
                  injection ee with ee1 ee2 ee3
                  injection ee1 with ee1
                  injection ee1 with ee1 _ _
                  subst ee1 ee3
                  clear ee2
                  have hrr : r.length ≤ 100 := by omega
                  generalize hX : P.flatMap lineB = X at hsz ⊢
                  go_loopw [4, 10] (fun t kk wq => ∃ j : Nat, j ≤ a ∧ kk = .int .i64 j ∧ t = .string (TX (X ++ List.replicate j 32)) ∧ wq = wz) (fun _ kk _ => a - (intOf kk).toNat)
                  case atStart => exact ⟨0, Nat.zero_le _, rfl, by rw [List.replicate_zero, List.append_nil], rfl⟩
                  case round =>
                    obtain ⟨j, hj, rfl, rfl, rfl⟩ := hrel
                    by_cases hlj : j < a
                    · have hlj' : (j : Int) < (a : Int) := by omega
                      have HSk := hid' (HTS.out (X ++ List.replicate j 32))
                      have hxs : (TX (X ++ List.replicate j 32)).size ≤ 10000 := by rw [HTZ.out]; simp; omega
                      generalize TX (X ++ List.replicate j 32) = x at HSk hxs ⊢
                      go_wp2
                      go_roundw
                      case rel => exact ⟨j + 1, by omega, by go_num, by rw [HSk.out, List.append_assoc, List.replicate_succ'], trivial⟩
                      case measure => simp [intOf]; omega
                    · obtain rfl : j = a := by omega
                      have HSk := hid' (HTL.out (X ++ List.replicate j 32))
                      have hxs : (TX (X ++ List.replicate j 32)).size ≤ 10000 := by rw [HTZ.out]; simp; omega
                      generalize TX (X ++ List.replicate j 32) = x at HSk hxs ⊢
                      have hbz := HBZ.out.size
                      go_wp2_with (at_builtin; refine int_plain HTW.out.dep (r.length) (P.length + 1) _ (by first | omega | simp) (by rw [List.length_map]) hbz (by rw [List.length_map]; omega) rfl (.tmp 93) (.tmp 97) (by rfl) (by rfl) (by rfl) ?_; intro g5 cap5 w5 q1 q2 q3 q4; have HT5 := hid' (HTW.out.added q1 q3 q4); have HB5 := hid' (HBZ.out.trans q2); clear q1 q2 q3 q4)
                      go_roundw
                      case rel => exact ⟨P ++ [j :: r], j :: r, k + 1, by omega, by go_num, by rw [List.length_append, List.length_singleton, hPl], hos', by rw [HSk.out, List.flatMap_append, hX]; simp [lineB], hid' (by have h := HT5.out; rw [hPl] at h; rw [List.map_append]; exact h), hD', by simp <;> omega, by intro h; omega, by simp <;> omega, by rw [List.flatMap_append, hX, List.length_append]; simp [lineB_len] <;> omega, HB5⟩
                      case measure => simp [intOf]; omega
                · obtain rfl : n = 0 := by omega
                  go_wp2
                  rw [hop] at hos' hD' hol'
                  simp only [List.length_cons] at hol'
                  have haa : a ≤ 2 * (k + 1) := by have := haa0; omega
                  obtain ⟨gga, cc2, ee, hcc2, hgg, hcc⟩ := HTW.out.top
                  injection ee with ee1 ee2 ee3
                  injection ee1 with ee1
                  injection ee1 with ee1 _ _
                  subst ee1 ee3
                  clear ee2
                  have hrr : r.length ≤ 100 := by omega
                  generalize hX : P.flatMap lineB = X at hsz ⊢
                  go_loopw [4, 10] (fun t kk wq => ∃ j : Nat, j ≤ a ∧ kk = .int .i64 j ∧ t = .string (TX (X ++ List.replicate j 32)) ∧ wq = wz) (fun _ kk _ => a - (intOf kk).toNat)
                  case atStart => exact ⟨0, Nat.zero_le _, rfl, by rw [List.replicate_zero, List.append_nil], rfl⟩
                  case round =>
                    obtain ⟨j, hj, rfl, rfl, rfl⟩ := hrel
                    by_cases hlj : j < a
                    · have hlj' : (j : Int) < (a : Int) := by omega
                      have HSk := hid' (HTS.out (X ++ List.replicate j 32))
                      have hxs : (TX (X ++ List.replicate j 32)).size ≤ 10000 := by rw [HTZ.out]; simp; omega
                      generalize TX (X ++ List.replicate j 32) = x at HSk hxs ⊢
                      go_wp2
                      go_roundw
                      case rel => exact ⟨j + 1, by omega, by go_num, by rw [HSk.out, List.append_assoc, List.replicate_succ'], trivial⟩
                      case measure => simp [intOf]; omega
                    · obtain rfl : j = a := by omega
                      have HSk := hid' (HTL.out (X ++ List.replicate j 32))
                      have hxs : (TX (X ++ List.replicate j 32)).size ≤ 10000 := by rw [HTZ.out]; simp; omega
                      generalize TX (X ++ List.replicate j 32) = x at HSk hxs ⊢
                      have hbz := HBZ.out.size
                      go_wp2_with (at_builtin; refine int_plain HTW.out.dep (r.length) (P.length + 1) _ (by first | omega | simp) (by rw [List.length_map]) hbz (by rw [List.length_map]; omega) rfl (.tmp 93) (.tmp 97) (by rfl) (by rfl) (by rfl) ?_; intro g5 cap5 w5 q1 q2 q3 q4; have HT5 := hid' (HTW.out.added q1 q3 q4); have HB5 := hid' (HBZ.out.trans q2); clear q1 q2 q3 q4)
                      go_roundw
                      case rel => exact ⟨P ++ [j :: r], j :: r, k + 1, by omega, by go_num, by rw [List.length_append, List.length_singleton, hPl], hos', by rw [HSk.out, List.flatMap_append, hX]; simp [lineB], hid' (by have h := HT5.out; rw [hPl] at h; rw [List.map_append]; exact h), hD', by simp <;> omega, by intro h; omega, by simp <;> omega, by rw [List.flatMap_append, hX, List.length_append]; simp [lineB_len] <;> omega, HB5⟩
                      case measure => simp [intOf]; omega
      · obtain rfl : k = l.length := by omega
        have hend : OS = P := by rw [hos.out, List.drop_eq_nil_of_le (by omega)]; simp [goB]
        subst hend
        have HS := hid' (scan_txt A (OS.flatMap lineB) (by omega) _ HSC.out wr (HV.out.below hb.out))
        rw [← HTX.out] at HS
        obtain ⟨ad, cd, rfl, _⟩ := own_form hT.out.dep
        rw [List.length_map, hPl] at hT ⊢
        have HD := hid' hT.out.dep
        clear hos hT hD hol hk0o hhd hsz
        go_wp2_with fail
        refine (HS.out).mono ?_
        intro e w5 hpost
        obtain ⟨b5, ao5, cap5, rfl, hts⟩ := hpost
        have HD5 := hid' (HD.out.keep (W' := w5) fun q _ hq => b5.block q hq)
        have HB5 := hid' (below_join hb.out b5)
        have HTS5 := hid' hts
        clear hts b5 HS HD
        go_wp2
        go_loop [13, 14, 15] (fun nw ln i => ∃ (j line : Nat) (now : Int), j ≤ toks.length ∧ i = .int .i64 j ∧ nw = .int .i64 now ∧ ln = .int .i64 line ∧ -(j : Int) ≤ now ∧ now ≤ j ∧ line ≤ j ∧ Hid (chk (OS.map dp) (toks.drop j) now line = some (0, l.length))) (fun _ _ i => toks.length - (intOf i).toNat)
        case atStart => exact ⟨0, 0, 0, Nat.zero_le _, rfl, rfl, rfl, by omega, by omega, by omega, HCHK⟩
        case round =>
          obtain ⟨j, line, now, hj, rfl, rfl, rfl, hn1', hn2', hline, hch⟩ := hrel
          by_cases hlj : j < toks.length
          · have hlj' : (j : Int) < (toks.length : Int) := by omega
            have hch' := hch.out
            rw [List.drop_eq_getElem_cons hlj, chk_cons] at hch'
            rcases HTS5.out with h0 | ⟨g5, rfl, hg5, hx⟩
            · rw [h0] at hlj; exact absurd hlj (by simp)
            · have hc1 := (hx j _ (List.getElem?_eq_getElem hlj)).1
              clear hx hch
              generalize toks[j] = t at hch' hc1
              by_cases e6 : t.kind = 6
              · rw [if_pos e6] at hch'
                rw [e6, show ((6 : Nat) : Int) = 6 from rfl] at hc1
                have hch2 := hid' hch'
                clear hch' e6
                go_wp2
                go_round
                case rel => exact ⟨j + 1, line, now + 1, by omega, by go_num, rfl, rfl, by omega, by omega, by omega, hch2⟩
                case measure => simp [intOf]; omega
              · rw [if_neg e6] at hch'
                have h6 : ((t.kind : Int) == 6) = false := by rw [beq_eq_false_iff_ne]; omega
                by_cases e7 : t.kind = 7
                · rw [if_pos e7] at hch'
                  rw [e7, show ((7 : Nat) : Int) = 7 from rfl] at hc1
                  have hch2 := hid' hch'
                  clear hch' e6 e7 h6
                  go_wp2
                  go_round
                  case rel => exact ⟨j + 1, line, now - 1, by omega, by go_num, rfl, rfl, by omega, by omega, by omega, hch2⟩
                  case measure => simp [intOf]; omega
                · rw [if_neg e7] at hch'
                  have h7 : ((t.kind : Int) == 7) = false := by rw [beq_eq_false_iff_ne]; omega
                  by_cases e1 : t.kind = 1
                  · rw [if_pos e1] at hch'
                    by_cases hq : line < (OS.map dp).length ∧ (((OS.map dp).getD line 0 : Nat) : Int) = now
                    · rw [if_pos hq] at hch'
                      obtain ⟨gd, cd', ed, _, _, _, hcd⟩ := own_some HD5.out (by omega)
                      injection ed with ed1 ed2 ed3
                      subst ed1
                      clear ed2 ed3
                      have hcl := hcd line _ (by rw [List.getElem?_map, List.getElem?_eq_getElem hq.1]; rfl)
                      have hcv : ((OS.map dp)[line] : Int) = now := by
                        have h2 := hq.2
                        rw [List.getD_eq_getElem?_getD, List.getElem?_eq_getElem hq.1] at h2
                        exact h2
                      unfold iv at hcl
                      rw [hcv] at hcl
                      have hll : ¬ (l.length : Int) ≤ (line : Int) := by have h := hq.1; rw [List.length_map] at h; omega
                      rw [e1, show ((1 : Nat) : Int) = 1 from rfl] at hc1
                      have hch2 := hid' hch'
                      clear hch' e6 e7 h6 h7 e1 hcd hq hcv
                      go_wp2
                      go_round
                      case rel => exact ⟨j + 1, line + 1, now, by omega, by go_num, rfl, by go_num, by omega, by omega, by omega, hch2⟩
                      case measure => simp [intOf]; omega
                    · rw [if_neg hq] at hch'; cases hch'
                  · rw [if_neg e1] at hch'
                    have h1' : ((t.kind : Int) == 1) = false := by rw [beq_eq_false_iff_ne]; omega
                    have hch2 := hid' hch'
                    clear hch' e6 e7 e1
                    go_wp2
                    go_round
                    case rel => exact ⟨j + 1, line, now, by omega, by go_num, rfl, rfl, by omega, by omega, by omega, hch2⟩
                    case measure => simp [intOf]; omega
          · obtain rfl : j = toks.length := by omega
            have hch' := hch.out
            rw [List.drop_eq_nil_of_le (Nat.le_refl _), chk_nil] at hch'
            injection hch' with hch'
            injection hch' with q1 q2
            subst q1 q2
            clear hch
            go_wp2
            go_ret
            exact ⟨rfl, HB5.out⟩
  · have hn1 : (40 : Int) < (l.length : Int) := by omega
    go_enter Tryd.func7, Tryd.ntmps7
    go_wp2_with fail
    refine (HF.out).mono ?_
    rintro e w1 ⟨rfl, b1⟩
    have HB1 := hid' b1
    clear b1
    go_wp2
    go_ret
    exact ⟨rfl, HB1.out⟩
end Go.Proofs.YtjobpcbnolgmnaaDoor
