/- What the document's Replace answers. Conditions: a text of at most 1000 bytes. -/
import Derived.Test.YtdiocmcfaneajaaGreatDoorSrJ
namespace Go.Proofs.YtdiocmcfaneajaaGreatDoor
open Go.RowKit
open Lx
namespace St

theorem byte_onto {ops : Array Oper} {rest : List Oper} {o : Oper} {a : Act} {Q : Exit → Act → World → Prop} {W : World} {B : Nat} {v : Value} {bs : L} (h : OwnB W B v bs) (b : UInt8) (m : Nat) (hm : m = bs.length + 1) (hB : B ≤ W.heap.size) (hl : bs.length < 1000000) (hgd : o.guard = none) (x y : Operand)
    (ho : o.op = .call { callee := .builtin .append, args := #[x, y], argTypes := #[63, 63] }) (hx : a.eval x = v) (hy : a.eval y = .slice (some ⟨W.heap.size, 0, none⟩) 1 1)
    (hK : ∀ g cap w', OwnB w' B (.slice (some ⟨g, 0, none⟩) m cap) (bs ++ [b]) → Below B W w' → wpList Tryz.prog ops Q rest (a.put o.dst (.slice (some ⟨g, 0, none⟩) m cap)) w') : wpList Tryz.prog ops Q (o :: rest) a (W.alloc (.cells #[.int .u8 (b.toNat : Int)] 5)) := by
  subst hm
  refine wpList_plain hgd fun K hKK => ?_
  obtain ⟨i0, hi, hz, hz1, hz2⟩ := parts info_byte
  obtain ⟨u, w', hr, h1, h2, _, h4⟩ := run_append_own_at (P := Tryz.prog) (W.alloc (.cells #[.int .u8 (b.toNat : Int)] 5)) B 63 o.type 5 i0 _ 1 1 Tryz.underlying63 hi hz hz1 hz2 rfl (by decide) v bs.length (bs.map bval)
    (World.ownsRow.alloc h _) ⟨W.heap.size, 0, none⟩ 1 1 [bval b] rfl (fun j u hu => by
      cases j with
      | zero => simp at hu; subst hu; exact (Boxed.new W 5 (bval b)).cell
      | succ j => simp at hu) (fun u hu => by simp at hu; subst hu; rfl) (by unfold maxLen; omega) (by omega) (by simp; omega)
  have h1' : OwnB w' B u (bs ++ [b]) := by unfold OwnB; rw [List.length_append, List.map_append]; exact h1
  obtain ⟨g, cap, e⟩ : ∃ g cap, u = .slice (some ⟨g, 0, none⟩) (bs ++ [b]).length cap := by
    rcases h1'.2 with ⟨_, h0⟩ | ⟨g, cap, _, e, _⟩
    · simp at h0
    · exact ⟨g, cap, e⟩
  subst e
  rw [List.length_append, List.length_singleton] at h1' hr
  unfold Oper.wp execOp
  simp only [ho, resolve, invoke, builtin, Sem.run_bind, Sem.run_pure, Result.andThen_ok, List.map_toArray, List.map_cons, List.map_nil, hx, hy, hr]
  exact hKK _ _ (hK g cap w' h1' (((Below.refl B W).alloc hB _).grown h2 (by simp; omega) fun j hj => (h.lt j hj).1))

theorem rep_skip (old new : L) (f : Nat) (m : Int) (c : UInt8) (t : L) (h : m = 0 ∨ Lib.occAt (c :: t) old 0 = false) : joinF new (splitF old (f + 1) m (c :: t)) = c :: joinF new (splitF old (f + 1) m t) := by
  rw [split_step, split_step]
  by_cases hm : m = 0
  · rw [if_pos hm, if_pos hm]; simp [joinF]
  · rw [if_neg hm, if_neg hm]
    have ho : Lib.occAt (c :: t) old 0 = false := by
      rcases h with h | h
      · exact absurd h hm
      · exact h
    have hi : Lib.index (c :: t) old = if Lib.index t old == -1 then -1 else Lib.index t old + 1 := by
      conv => lhs; unfold Lib.index
      rw [if_neg (by unfold Lib.occAt at ho; rw [List.drop_zero] at ho; rw [ho]; decide)]
    have hge := Lib.index_ge t old
    by_cases h1 : Lib.index t old < 0
    · have h2 : Lib.index t old = -1 := by omega
      have h3 : Lib.index (c :: t) old = -1 := by rw [hi, h2]; rfl
      rw [h3, if_pos (by decide), if_pos h1]
      simp [joinF]
    · have e1 : (Lib.index t old == -1) = false := by rw [beq_eq_false_iff_ne]; omega
      have h3 : Lib.index (c :: t) old = Lib.index t old + 1 := by rw [hi, e1]; rfl
      rw [h3, if_neg (by omega), if_neg h1, show (Lib.index t old + 1).toNat = (Lib.index t old).toNat + 1 by omega, List.take_succ_cons]
      rw [show (Lib.index t old).toNat + 1 + old.length = (Lib.index t old).toNat + old.length + 1 by omega, List.drop_succ_cons]
      rfl
theorem rep_hit (old new : L) (f : Nat) (m : Int) (s : L) (hm : m ≠ 0) (hr : old.length ≤ s.length) (h : Lib.occAt s old 0 = true) : joinF new (splitF old (f + 1) m s) = new ++ joinF new (splitF old f (m - 1) (s.drop old.length)) := by
  rw [split_at old s f m 0 hm (by omega) (fun j hj => absurd hj (by omega)) h, List.take_zero, Nat.zero_add]
  obtain ⟨x, t, e⟩ := split_cons old f (m - 1) (s.drop old.length)
  rw [join_cons _ _ _ (by rw [e]; simp), List.nil_append]
theorem rep_nil (old new : L) (hold : old ≠ []) (f : Nat) (m : Int) : joinF new (splitF old (f + 1) m []) = [] := by
  rw [split_end old [] f m hold (.inr fun j hj => by simp at hj)]
  rfl
/-- A text with new ahead of each byte, and at the end, so often. -/
def repE (new : L) : Int → L → L
  | m, [] => if m = 0 then [] else new
  | m, c :: t => if m = 0 then c :: t else new ++ c :: repE new (m - 1) t
theorem repE_zero (new l : L) : repE new 0 l = l := by cases l <;> rfl
theorem index_empty (l : L) : Lib.index l [] = 0 := by cases l <;> rfl
theorem repF_gap (s new : L) : ∀ (f : Nat) (m : Int) (d : Nat), d ≤ s.length → s.length + 1 ≤ d + f → repF s [] new f m d (d + 1) = (match s.drop d with
    | [] => []
    | c :: t => c :: repE new m t)
  | 0, _, _, h1, h2 => absurd h2 (by omega)
  | f + 1, m, d, h1, h2 => by
    unfold repF
    by_cases hd : d = s.length
    · rw [if_pos (.inr (by omega))]
      have : s.drop d = [] := List.drop_of_length_le (by omega)
      rw [this]
    · have hlt : d < s.length := by omega
      have hds : s.drop d = s[d] :: s.drop (d + 1) := List.drop_eq_getElem_cons hlt
      by_cases hm : m = 0
      · rw [if_pos (.inl hm), hds, hm]
        show s[d] :: s.drop (d + 1) = s[d] :: repE new 0 (s.drop (d + 1))
        rw [repE_zero]
      · rw [if_neg (by omega), index_empty, if_neg (by decide), hds]
        show (s.take (d + 1)).drop d ++ (new ++ repF s [] new f (m - 1) (d + 1) (max (d + 1) (d + 1 + 1))) = s[d] :: repE new m (s.drop (d + 1))
        rw [Nat.max_eq_right (by omega), repF_gap s new f (m - 1) (d + 1) (by omega) (by omega), List.drop_take, hds, show d + 1 - d = 1 by omega]
        show s[d] :: (new ++ _) = _
        congr 1
        cases e : s.drop (d + 1) with
        | nil => rw [repE, if_neg hm]; simp
        | cons c t => rw [repE, if_neg hm]
theorem repF_empty (s new : L) (m : Int) : repF s [] new (s.length + 2) m 0 0 = repE new m s := by
  unfold repF
  by_cases hm : m = 0
  · rw [if_pos (.inl hm), hm, repE_zero, List.drop_zero]
  · rw [if_neg (by omega), index_empty, if_neg (by decide)]
    show (s.take 0).drop 0 ++ (new ++ repF s [] new (s.length + 1) (m - 1) 0 (max 0 (0 + 1))) = _
    rw [List.take_zero, List.drop_zero, List.nil_append, show max 0 (0 + 1) = 0 + 1 by decide, repF_gap s new _ _ 0 (Nat.zero_le _) (by omega), List.drop_zero]
    cases s with
    | nil => rw [repE, if_neg hm]; simp
    | cons c t => rw [repE, if_neg hm]
theorem rjoin_bad {b T : L} (h : ∃ r, b ++ r = T) (hb : 1024 < b.length) : rjoinV T = .tuple #[.string ⟨#[]⟩, .int .i64 108] := by
  obtain ⟨r, rfl⟩ := h
  rw [rjoinV, if_neg (by rw [List.length_append]; omega)]
set_option maxRecDepth 100000 in
set_option maxHeartbeats 6400000 in
theorem rreplace_text (s old new : ByteArray) (most : Int) (w : World) (hs : s.size ≤ 1000) (ho : old.size ≤ 1000) (hn : new.size ≤ 100000) (hold : old.size ≠ 0) :
    Calls Tryz.prog 14 #[.string s, .string old, .string new, .int .i64 most] w fun e w' => e = .returned (rjoinV (joinF new.data.toList (splitF old.data.toList (s.size + 1) most s.data.toList))) ∧ Below w.heap.size w w' := by
  have hsl : Hid (old.data.toList ≠ []) := hidden (fun e => hold (by rw [← size_data, e]; rfl))
  have hne := text_ne old (by omega)
  obtain ⟨T, hT⟩ : ∃ T, joinF new.data.toList (splitF old.data.toList (s.size + 1) most s.data.toList) = T := ⟨_, rfl⟩
  have HT := hidden hT
  rw [hT]
  have HAT := hidden (fun (k : Nat) (hk : k ≤ s.size) (W : World) => rat_any s old k hk (by omega) (by omega) W)
  have hop : 0 < old.size := by omega
  clear hT hold
  go_enter Tryz.func14, Tryz.ntmps14
  go_wp2
  go_loopw [10, 11, 12] (fun vb vn vi wr => ∃ k n f l : Nat, ∃ bo bc, ∃ b : L, vi = .int .i64 k ∧ vn = .int .i64 n ∧ vb = .slice bo l bc ∧ k ≤ s.size + 1 ∧ n ≤ k ∧ l ≤ 1024 ∧ s.size < k + f ∧ 0 < f ∧ Hid (most < 0 ∨ (n : Int) ≤ most) ∧ Hid (b.length = l) ∧ Hid (b ++ joinF new.data.toList (splitF old.data.toList f (most - n) (s.data.toList.drop k)) = T) ∧ Hid (OwnB wr w.heap.size (.slice bo l bc) b) ∧ Hid (Below w.heap.size w wr)) (fun _ _ vi _ => s.size + 1 - (intOf vi).toNat)
  case atStart => exact ⟨0, 0, s.size + 1, 0, none, 0, [], rfl, rfl, rfl, by omega, by omega, by omega, by omega, by omega, hidden (by omega), hidden rfl, hidden (by simpa using HT.out), hidden (ownB_nil _ _), hidden (Below.refl _ _)⟩
  case round =>
    obtain ⟨k, n, f, l, bo, bc, b, rfl, rfl, rfl, hk, hnk, hl, hf, hf0, hmo, hlen, hall, hO, hb⟩ := hrel
    obtain ⟨f, rfl⟩ : ∃ g, f = g + 1 := ⟨f - 1, by omega⟩
    have hbs := hb.out.size
    clear HT
    by_cases hlt : k ≤ s.size
    · have HA := hidden (HAT.out k hlt wr)
      obtain ⟨o, hoc⟩ : ∃ o, Lib.occAt s.data.toList old.data.toList k = o := ⟨_, rfl⟩
      rw [hoc] at HA
      have hod := occ_drop s.data.toList old.data.toList k 0
      rw [Nat.add_zero, hoc] at hod
      by_cases hhit : o = true ∧ most - n ≠ 0
      · obtain ⟨rfl, hm0⟩ := hhit
        have hroom : k + old.size ≤ s.size := by
          rcases Lib.occAt_room hoc with h3 | h3
          · rw [size_data, size_data] at h3; exact h3
          · exact absurd h3 hsl.out
        have R1 : Hid (b ++ new.data.toList ++ joinF new.data.toList (splitF old.data.toList f (most - ((n + 1 : Nat) : Int)) (s.data.toList.drop (k + old.size))) = T) := hidden (by
          rw [← hall.out, rep_hit _ _ f _ _ hm0 (by rw [List.length_drop, size_data, size_data]; omega) hod, List.drop_drop, size_data, show most - ((n + 1 : Nat) : Int) = most - n - 1 by omega, List.append_assoc])
        have hjl : Hid ((b ++ new.data.toList).length = l + new.size) := hidden (by rw [List.length_append, hlen.out, size_data])
        have hor : Hid (most < 0 ∨ (0 ≤ most ∧ (n : Int) < most)) := hidden (by have := hmo.out; omega)
        have R2 : Hid (most < 0 ∨ ((n + 1 : Nat) : Int) ≤ most) := hidden (by have := hmo.out; omega)
        have hki : ((k : Int) == (s.size : Int)) = false := by simp; omega
        clear hoc hod
        by_cases hfit : l + new.size ≤ 1024
        · rcases hor.out with h0 | ⟨h0, h1⟩ <;>
          · go_wp2_with (first | (go_at_call 35; (with_reducible refine HA.out.mono ?_); rintro e w' ⟨rfl, hw⟩; rw [hw]; clear hw) | (at_builtin; refine append_text wr rfl _ _ rfl w.heap.size _ b new rfl hO.out rfl (by rw [hlen.out]; omega) hbs ?_; intro v2 w2 h2 hb2 _; obtain ⟨ao2, cap2, hv2, _, _⟩ := h2.at; rw [hjl.out] at hv2; subst hv2; have H2 := hidden h2; have HB2 := hidden hb2; clear h2 hb2))
            have R3 := hidden (hb.out.trans HB2.out)
            go_roundw
            case rel => exact ⟨k + old.size, n + 1, f, l + new.size, ao2, cap2, _, by go_num, by go_num, rfl, by omega, by omega, by omega, by omega, by omega, R2, hjl, R1, H2, R3⟩
            case measure => simp [intOf]; omega
        · have hbad := hidden (rjoin_bad ⟨_, R1.out⟩ (by rw [hjl.out]; omega))
          rcases hor.out with h0 | ⟨h0, h1⟩ <;>
          · go_wp2_with (first | (go_at_call 35; (with_reducible refine HA.out.mono ?_); rintro e w' ⟨rfl, hw⟩; rw [hw]; clear hw) | (at_builtin; refine append_text wr rfl _ _ rfl w.heap.size _ b new rfl hO.out rfl (by rw [hlen.out]; omega) hbs ?_; intro v2 w2 h2 hb2 _; obtain ⟨ao2, cap2, hv2, _, _⟩ := h2.at; rw [hjl.out] at hv2; subst hv2; have H2 := hidden h2; have HB2 := hidden hb2; clear h2 hb2))
            go_ret2
            exact ⟨by rw [hbad.out]; rfl, hb.out.trans HB2.out⟩
      · have hcs : Hid (most - n = 0 ∨ o = false) := hidden (by
          by_cases h : most - n = 0
          · exact .inl h
          · cases o with
            | true => exact absurd ⟨rfl, h⟩ hhit
            | false => exact .inr rfl)
        have hcs3 : Hid ((0 ≤ most ∧ most ≤ n) ∨ (o = false ∧ most < 0) ∨ (o = false ∧ 0 ≤ most ∧ (n : Int) < most)) := hidden (by
          have h5 := hmo.out
          rcases hcs.out with h | h
          · exact .inl (by omega)
          · by_cases h6 : most < 0
            · exact .inr (.inl ⟨h, h6⟩)
            · by_cases h7 : (n : Int) < most
              · exact .inr (.inr ⟨h, by omega, h7⟩)
              · exact .inl (by omega))
        by_cases hkl : k < s.size
        · have hix := idx_at s k hkl
          have hkl' : k < s.data.toList.length := by rw [size_data]; exact hkl
          have hdr : s.data.toList.drop k = s[k] :: s.data.toList.drop (k + 1) := List.drop_eq_getElem_cons hkl'
          obtain ⟨c, hc⟩ : ∃ c, s[k] = c := ⟨_, rfl⟩
          rw [hc] at hix hdr
          have R1 : Hid (b ++ [c] ++ joinF new.data.toList (splitF old.data.toList (f + 1) (most - n) (s.data.toList.drop (k + 1))) = T) := hidden (by
            rw [← hall.out, hdr, rep_skip _ _ f _ c _ (by
              rcases hcs.out with h | h
              · exact .inl h
              · right
                rw [← hdr, hod, h]), List.append_assoc]
            rfl)
          have hjl : Hid ((b ++ [c]).length = l + 1) := hidden (by rw [List.length_append, hlen.out]; rfl)
          clear hoc hod hc hdr hkl' hhit
          by_cases hfit : l + 1 ≤ 1024
          · rcases hcs3.out with ⟨h0, h1⟩ | ⟨rfl, h0⟩ | ⟨rfl, h0, h1⟩ <;>
            · go_wp2_with (first | (go_at_call 35; (with_reducible refine HA.out.mono ?_); rintro e w' ⟨rfl, hw⟩; rw [hw]; clear hw) | (at_builtin; refine byte_onto hO.out c (l + 1) (by rw [hlen.out]) hbs (by rw [hlen.out]; omega) rfl _ _ rfl rfl rfl ?_; intro g cap2 w2 h2 hb2; have H2 := hidden h2; have HB2 := hidden hb2; clear h2 hb2))
              have R3 := hidden (hb.out.trans HB2.out)
              go_roundw
              case rel => exact ⟨k + 1, n, f + 1, l + 1, some ⟨g, 0, none⟩, cap2, _, by go_num, rfl, rfl, by omega, by omega, by omega, by omega, by omega, hmo, hjl, R1, H2, R3⟩
              case measure => simp [intOf]; omega
          · have hbad := hidden (rjoin_bad ⟨_, R1.out⟩ (by rw [hjl.out]; omega))
            rcases hcs3.out with ⟨h0, h1⟩ | ⟨rfl, h0⟩ | ⟨rfl, h0, h1⟩ <;>
            · go_wp2_with (first | (go_at_call 35; (with_reducible refine HA.out.mono ?_); rintro e w' ⟨rfl, hw⟩; rw [hw]; clear hw) | (at_builtin; refine byte_onto hO.out c (l + 1) (by rw [hlen.out]) hbs (by rw [hlen.out]; omega) rfl _ _ rfl rfl rfl ?_; intro g cap2 w2 h2 hb2; have H2 := hidden h2; have HB2 := hidden hb2; clear h2 hb2))
              go_ret2
              exact ⟨by rw [hbad.out]; rfl, hb.out.trans HB2.out⟩
        · have R1 : Hid (b ++ joinF new.data.toList (splitF old.data.toList (f + 1) (most - n) (s.data.toList.drop (k + 1))) = T) := hidden (by
            have h8 := hall.out
            rw [List.drop_of_length_le (by rw [size_data]; omega)] at h8 ⊢
            exact h8)
          clear hoc hod hhit
          rcases hcs3.out with ⟨h0, h1⟩ | ⟨rfl, h0⟩ | ⟨rfl, h0, h1⟩ <;>
          · go_wp2_with (first | (go_at_call 35; (with_reducible refine HA.out.mono ?_); rintro e w' ⟨rfl, hw⟩; rw [hw]; clear hw))
            go_roundw
            case rel => exact ⟨k + 1, n, f + 1, l, bo, bc, b, by go_num, rfl, rfl, by omega, by omega, by omega, by omega, by omega, hmo, hlen, R1, hO, hb⟩
            case measure => simp [intOf]; omega
    · have hfin : Hid (b = T) := hidden (by
        have h8 := hall.out
        rwa [List.drop_of_length_le (by rw [size_data]; omega), rep_nil _ _ hsl.out, List.append_nil] at h8)
      have HV : Hid (rjoinV T = .tuple #[.string (txt b), .int .i64 0]) := hidden (by rw [← hfin.out, rjoinV, if_pos (by rw [hlen.out]; omega)])
      have hconv := hO.out.conv
      generalize txt b = R at hconv HV
      go_wp2
      go_ret2
      exact ⟨by rw [HV.out]; rfl, hb.out⟩
end St
end Go.Proofs.YtdiocmcfaneajaaGreatDoor
