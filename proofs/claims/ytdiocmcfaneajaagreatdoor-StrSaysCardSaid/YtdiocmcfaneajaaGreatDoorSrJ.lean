/- What the document's Join and Repeat answer. Conditions: short texts. -/
import Derived.Test.YtdiocmcfaneajaaGreatDoorSrS
import Derived.Lib.Repeat
namespace Go.Proofs.YtdiocmcfaneajaaGreatDoor
open Go.RowKit
open Lx
namespace St

def rjoinV (l : L) : Value := if l.length ≤ 1024 then .tuple #[.string (txt l), .int .i64 0] else .tuple #[.string ⟨#[]⟩, .int .i64 108]
set_option maxRecDepth 100000 in
set_option maxHeartbeats 3200000 in
theorem rjoin_any (sep : ByteArray) (ao : Option Addr) (cap n : Nat) (xs : List ByteArray) (w : World) (hn : xs.length = n) (hn2 : n ≤ 100000) (hX : Txs w ao xs) (hs : ∀ x ∈ xs, x.size < 1000000) (hsep : sep.size < 1000000) :
    Calls Tryz.prog 12 #[.string sep, .slice ao n cap] w fun e w' => e = .returned (rjoinV (joinF sep.data.toList (datas xs))) ∧ Below w.heap.size w w' := by
  have HX := hidden hX
  have HS := hidden hs
  have HN := hidden hn
  clear hX hs hn
  go_enter Tryz.func12, Tryz.ntmps12
  go_wp2
  go_loopw [6, 7] (fun vb vi wr => ∃ k l : Nat, ∃ bo bc, vi = .int .i64 k ∧ vb = .slice bo l bc ∧ k ≤ n ∧ l ≤ 1024 ∧ Hid ((joinF sep.data.toList (datas (xs.take k))).length = l) ∧ Hid (OwnB wr w.heap.size (.slice bo l bc) (joinF sep.data.toList (datas (xs.take k)))) ∧ Hid (Below w.heap.size w wr)) (fun _ vi _ => n - (intOf vi).toNat)
  case atStart => exact ⟨0, 0, none, 0, rfl, rfl, by omega, by omega, hidden (by simp [datas, joinF]), hidden (by simpa [datas, joinF] using ownB_nil w w.heap.size), hidden (Below.refl _ _)⟩
  case round =>
    obtain ⟨k, l, bo, bc, rfl, rfl, hk, hl, hlen, hO, hb⟩ := hrel
    have hbs := hb.out.size
    by_cases hlt : k < n
    · have hlt' : k < xs.length := by have := HN.out; omega
      obtain ⟨bk, o, rfl, hbk, hc⟩ := (HX.out.below hb.out).at k hlt'
      have hbkw : bk < w.heap.size := by
        rcases HX.out with h0 | ⟨b2, o2, e, hl2, _⟩
        · rw [h0] at hlt'; simp at hlt'
        · cases e; exact hl2
      have hsz := HS.out _ (List.getElem_mem hlt')
      have hdt := datas_take xs k hlt'
      obtain ⟨x, hx⟩ : ∃ x, xs[k] = x := ⟨_, rfl⟩
      rw [hx] at hc hsz hdt
      have hdn := datas_nil xs k (by omega)
      have hle : Hid ((joinF sep.data.toList (datas (xs.take (k + 1)))).length ≤ (joinF sep.data.toList (datas xs)).length) := hidden (by
        have e : datas xs = datas (xs.take (k + 1)) ++ datas (xs.drop (k + 1)) := by unfold datas; rw [← List.map_append, List.take_append_drop]
        conv => rhs; rw [e]
        exact join_le _ _ _)
      have hcW := hidden ((hb.out.cell (p := ⟨bk, o + k, none⟩) hbkw).symm.trans hc)
      clear hx
      by_cases h0 : ¬ 0 < k
      · have hj : Hid (joinF sep.data.toList (datas (xs.take (k + 1))) = joinF sep.data.toList (datas (xs.take k)) ++ x.data.toList) := hidden (by
          rw [hdt, join_snoc, if_pos (hdn.2 (by omega)), List.nil_append])
        have hjl : Hid ((joinF sep.data.toList (datas (xs.take (k + 1)))).length = l + x.size) := hidden (by rw [hj.out, List.length_append, hlen.out, size_data])
        clear hdt hdn
        by_cases hf : l + x.size ≤ 1024
        · go_wp2_with (at_builtin; refine append_text wr rfl _ _ rfl w.heap.size _ (joinF sep.data.toList (datas (xs.take k))) x rfl hO.out rfl (by rw [hlen.out]; omega) hbs ?_; intro v2 w2 h2 hb2 _; obtain ⟨ao2, cap2, hv2, _, _⟩ := h2.at; rw [← hj.out, hjl.out] at hv2; rw [← hj.out] at h2; subst hv2; have H2 := hidden h2; have HB2 := hidden hb2; clear h2 hb2)
          have R1 := hidden (hb.out.trans HB2.out)
          go_roundw
          case rel => exact ⟨k + 1, l + x.size, ao2, cap2, by go_num, rfl, by omega, by omega, hjl, H2, R1⟩
          case measure => simp [intOf]; omega
        · go_wp2_with (at_builtin; refine append_text wr rfl _ _ rfl w.heap.size _ (joinF sep.data.toList (datas (xs.take k))) x rfl hO.out rfl (by rw [hlen.out]; omega) hbs ?_; intro v2 w2 h2 hb2 _; obtain ⟨ao2, cap2, hv2, _, _⟩ := h2.at; rw [← hj.out, hjl.out] at hv2; rw [← hj.out] at h2; subst hv2; have H2 := hidden h2; have HB2 := hidden hb2; clear h2 hb2)
          go_ret2
          exact ⟨by rw [rjoinV, if_neg (by have := hle.out; have := hjl.out; omega)]; rfl, hb.out.trans HB2.out⟩
      · have hj : Hid (joinF sep.data.toList (datas (xs.take (k + 1))) = joinF sep.data.toList (datas (xs.take k)) ++ sep.data.toList ++ x.data.toList) := hidden (by
          rw [hdt, join_snoc, if_neg (fun e => h0 (by have := hdn.1 e; omega)), List.append_assoc])
        have hjl : Hid ((joinF sep.data.toList (datas (xs.take (k + 1)))).length = l + sep.size + x.size) := hidden (by rw [hj.out, List.length_append, List.length_append, hlen.out, size_data, size_data])
        clear hdt hdn
        have h0' : 0 < k := by omega
        clear h0
        by_cases hf : l + sep.size + x.size ≤ 1024
        · go_wp2_with (at_builtin; first | (refine append_text w3 rfl _ _ rfl w.heap.size _ (joinF sep.data.toList (datas (xs.take k)) ++ sep.data.toList) x rfl H3.out rfl (by rw [List.length_append, hlen.out, size_data]; omega) (by have := HB3.out.size; omega) ?_; intro v2 w2 h2 hb2 _; obtain ⟨ao2, cap2, hv2, _, _⟩ := h2.at; rw [← hj.out, hjl.out] at hv2; rw [← hj.out] at h2; subst hv2; have H2 := hidden h2; have HB2 := hidden (HB3.out.trans hb2); clear h2 hb2) | (refine append_text wr rfl _ _ rfl w.heap.size _ (joinF sep.data.toList (datas (xs.take k))) sep rfl hO.out rfl (by rw [hlen.out]; omega) hbs ?_; intro v3 w3 h3 hb3 _; obtain ⟨ao3, cap3, hv3, _, _⟩ := h3.at; have hl3 : (joinF sep.data.toList (datas (xs.take k)) ++ sep.data.toList).length = l + sep.size := (by rw [List.length_append, hlen.out, size_data]); rw [hl3] at hv3; subst hv3; have H3 := hidden h3; have HB3 := hidden hb3; have hc3 := (hb3.cell (p := ⟨bk, o + k, none⟩) hbkw).trans hc; clear h3 hb3 hl3))
          have R1 := hidden (hb.out.trans HB2.out)
          go_roundw
          case rel => exact ⟨k + 1, l + sep.size + x.size, ao2, cap2, by go_num, rfl, by omega, by omega, hjl, H2, R1⟩
          case measure => simp [intOf]; omega
        · go_wp2_with (at_builtin; first | (refine append_text w3 rfl _ _ rfl w.heap.size _ (joinF sep.data.toList (datas (xs.take k)) ++ sep.data.toList) x rfl H3.out rfl (by rw [List.length_append, hlen.out, size_data]; omega) (by have := HB3.out.size; omega) ?_; intro v2 w2 h2 hb2 _; obtain ⟨ao2, cap2, hv2, _, _⟩ := h2.at; rw [← hj.out, hjl.out] at hv2; rw [← hj.out] at h2; subst hv2; have H2 := hidden h2; have HB2 := hidden (HB3.out.trans hb2); clear h2 hb2) | (refine append_text wr rfl _ _ rfl w.heap.size _ (joinF sep.data.toList (datas (xs.take k))) sep rfl hO.out rfl (by rw [hlen.out]; omega) hbs ?_; intro v3 w3 h3 hb3 _; obtain ⟨ao3, cap3, hv3, _, _⟩ := h3.at; have hl3 : (joinF sep.data.toList (datas (xs.take k)) ++ sep.data.toList).length = l + sep.size := (by rw [List.length_append, hlen.out, size_data]); rw [hl3] at hv3; subst hv3; have H3 := hidden h3; have HB3 := hidden hb3; have hc3 := (hb3.cell (p := ⟨bk, o + k, none⟩) hbkw).trans hc; clear h3 hb3 hl3))
          go_ret2
          exact ⟨by rw [rjoinV, if_neg (by have := hle.out; have := hjl.out; omega)]; rfl, hb.out.trans HB2.out⟩
    · have hall : xs.take k = xs := List.take_of_length_le (by have := HN.out; omega)
      rw [hall] at hO hlen
      have hconv := hO.out.conv
      have HV : Hid (rjoinV (joinF sep.data.toList (datas xs)) = .tuple #[.string (txt (joinF sep.data.toList (datas xs))), .int .i64 0]) := hidden (by rw [rjoinV, if_pos (by rw [hlen.out]; omega)])
      clear hall
      generalize txt (joinF sep.data.toList (datas xs)) = R at hconv HV
      go_wp2
      go_ret2
      exact ⟨by rw [HV.out]; rfl, hb.out⟩

def repV' (s : L) (n : Int) : Value := if s.length = 0 ∨ n < 1 then .tuple #[.string ⟨#[]⟩, .int .i64 0] else if ((1024 / s.length : Nat) : Int) < n then .tuple #[.string ⟨#[]⟩, .int .i64 108] else .tuple #[.string (txt (Lib.repeatL s n.toNat)), .int .i64 0]
set_option maxRecDepth 100000 in
set_option maxHeartbeats 3200000 in
theorem rrepeat_any (s : ByteArray) (n : Int) (w : World) (hs : s.size ≤ 100000) :
    Calls Tryz.prog 16 #[.string s, .int .i64 n] w fun e w' => e = .returned (repV' s.data.toList n) ∧ Below w.heap.size w w' := by
  have hsd := size_data s
  by_cases h1 : n < 1
  · have hR : Hid (repV' s.data.toList n = .tuple #[.string ⟨#[]⟩, .int .i64 0]) := hidden (by rw [repV', if_pos (.inr h1)])
    clear hsd
    go_enter Tryz.func16, Tryz.ntmps16
    go_wp2
    go_ret2
    exact ⟨by rw [hR.out]; rfl, Below.refl _ _⟩
  · by_cases h0 : s.size = 0
    · have hem := text_emp h0
      have hR : Hid (repV' s.data.toList n = .tuple #[.string ⟨#[]⟩, .int .i64 0]) := hidden (by rw [repV', if_pos (.inl (by omega))])
      clear h0 hsd
      go_enter Tryz.func16, Tryz.ntmps16
      go_wp2
      go_ret2
      exact ⟨by rw [hR.out]; rfl, Below.refl _ _⟩
    · have hne := text_ne s (by omega)
      obtain ⟨q, hq⟩ : ∃ q : Nat, 1024 / s.size = q := ⟨_, rfl⟩
      have hqd : (1024 : Int).tdiv (s.size : Int) = (q : Int) := by
        rw [Int.tdiv_eq_ediv_of_nonneg (by omega), ← hq]
        rfl
      have hs0 : ¬ ((s.size : Int) = 0) := by omega
      have hql : q ≤ 1024 := by rw [← hq]; exact Nat.div_le_self _ _
      have hw : IntKind.i64.wrap (q : Int) = q := by rw [IntKind.wrap_i64]; omega
      by_cases h2 : (q : Int) < n
      · have hR : Hid (repV' s.data.toList n = .tuple #[.string ⟨#[]⟩, .int .i64 108]) := hidden (by
          rw [repV', if_neg (by omega), hsd, hq, if_pos h2])
        clear h0 hsd hq
        go_enter Tryz.func16, Tryz.ntmps16
        go_wp2
        go_ret2
        exact ⟨by rw [hR.out]; rfl, Below.refl _ _⟩
      · obtain ⟨c, rfl⟩ : ∃ c : Nat, n = (c : Int) := ⟨n.toNat, by omega⟩
        have hR : Hid (repV' s.data.toList c = .tuple #[.string (txt (Lib.repeatL s.data.toList c)), .int .i64 0]) := hidden (by
          rw [repV', if_neg (by omega), hsd, hq, if_neg h2, Int.toNat_natCast])
        have hcs : c ≤ 1024 := by omega
        have HLEN : Hid (∀ k, k ≤ c → (Lib.repeatL s.data.toList k).length ≤ 1024) := hidden (fun k hk => by
          rw [Lib.repeatL_length, hsd]
          have h5 : k ≤ 1024 / s.size := by omega
          exact (Nat.le_div_iff_mul_le (by omega)).1 h5)
        clear h0 hsd hq
        go_enter Tryz.func16, Tryz.ntmps16
        go_wp2
        go_loopw [6, 7] (fun vb vi wr => ∃ k l : Nat, ∃ bo bc, vi = .int .i64 k ∧ vb = .slice bo l bc ∧ k ≤ c ∧ l ≤ 1024 ∧ Hid ((Lib.repeatL s.data.toList k).length = l) ∧ Hid (OwnB wr w.heap.size (.slice bo l bc) (Lib.repeatL s.data.toList k)) ∧ Hid (Below w.heap.size w wr)) (fun _ vi _ => c - (intOf vi).toNat)
        case atStart => exact ⟨0, 0, none, 0, rfl, rfl, by omega, by omega, hidden rfl, hidden (ownB_nil _ _), hidden (Below.refl _ _)⟩
        case round =>
          obtain ⟨k, l, bo, bc, rfl, rfl, hk, hl, hlen, hO, hb⟩ := hrel
          have hbs := hb.out.size
          by_cases hlt : k < c
          · have hj : Hid (Lib.repeatL s.data.toList (k + 1) = Lib.repeatL s.data.toList k ++ s.data.toList) := hidden (by
              rw [Lib.repeatL_add, Lib.repeatL_one])
            have hjl : Hid ((Lib.repeatL s.data.toList (k + 1)).length = l + s.size) := hidden (by rw [hj.out, List.length_append, hlen.out, size_data])
            have hf : l + s.size ≤ 1024 := by
              have := HLEN.out (k + 1) (by omega)
              rw [hjl.out] at this
              exact this
            go_wp2_with (at_builtin; refine append_text wr rfl _ _ rfl w.heap.size _ (Lib.repeatL s.data.toList k) s rfl hO.out rfl (by rw [hlen.out]; omega) hbs ?_; intro v2 w2 h2 hb2 _; obtain ⟨ao2, cap2, hv2, _, _⟩ := h2.at; rw [← hj.out, hjl.out] at hv2; rw [← hj.out] at h2; subst hv2; have H2 := hidden h2; have HB2 := hidden hb2; clear h2 hb2)
            have R1 := hidden (hb.out.trans HB2.out)
            go_roundw
            case rel => exact ⟨k + 1, l + s.size, ao2, cap2, by go_num, rfl, by omega, by omega, hjl, H2, R1⟩
            case measure => simp [intOf]; omega
          · obtain rfl : c = k := by omega
            have hconv := hO.out.conv
            generalize txt (Lib.repeatL s.data.toList c) = R at hconv hR
            go_wp2
            go_ret2
            exact ⟨by rw [hR.out]; rfl, hb.out⟩
end St
end Go.Proofs.YtdiocmcfaneajaaGreatDoor
