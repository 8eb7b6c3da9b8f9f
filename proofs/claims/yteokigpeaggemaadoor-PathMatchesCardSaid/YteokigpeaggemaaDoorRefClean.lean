/- What smithyref1.Clean answers at every text: what path.Clean does. Condition: a text of fewer than 2^31 bytes. -/
import Derived.Test.YteokigpeaggemaaDoorRefPart
import Derived.Test.YteokigpeaggemaaDoorRefGlue
namespace Go.Proofs.YteokigpeaggemaaDoor
open Go.RowKit

def bytesOf (st : List (List UInt8)) : List ByteArray := st.map fun l => ⟨l.toArray⟩
theorem bytesOf_len (st : List (List UInt8)) : (bytesOf st).length = st.length := by simp [bytesOf]
theorem bytesOf_list (st : List (List UInt8)) : (bytesOf st).map (·.data.toList) = st := by
  unfold bytesOf; rw [List.map_map]
  have : ((fun t : ByteArray => t.data.toList) ∘ fun p : List UInt8 => (⟨p.toArray⟩ : ByteArray)) = id := by funext p; simp
  rw [this, List.map_id]
theorem glueB_bytes (st : List (List UInt8)) : glueB (bytesOf st) = ⟨(Stk.glue st).toArray⟩ := by
  unfold glueB; rw [bytesOf_list]
theorem stack_next {ps : List (List UInt8)} {k : Nat} {st : List (List UInt8)} (h : k < ps.length) (hs : Stk.stack [] (ps.take k) = some st) : Stk.stack [] (ps.take (k + 1)) = Stk.push st ps[k] := by
  rw [List.take_succ_eq_append_getElem h, Stk.stack_append, hs, Option.bind_some, Stk.stack]
  cases Stk.push st ps[k] <;> rfl
theorem stack_fails {ps : List (List UInt8)} {k : Nat} {st : List (List UInt8)} (h : k < ps.length) (hs : Stk.stack [] (ps.take k) = some st) (hp : Stk.push st ps[k] = none) : Stk.stack [] ps = none := by
  have := stack_next h hs
  rw [hp] at this
  rw [← List.take_append_drop (k + 1) ps, Stk.stack_append, this]; rfl
theorem clean_fails {l : List UInt8} {k : Nat} {st : List (List UInt8)} (h : k < (Pth.parts l).length) (hs : Stk.stack [] ((Pth.parts l).take k) = some st) (hp : Stk.push st (Pth.parts l)[k] = none) : Cln.clean l = none := by
  rw [Stk.clean_is, stack_fails h hs hp]; rfl
theorem glue_le {l : List UInt8} {st : List (List UInt8)} (hs : Stk.stack [] (Pth.parts l) = some st) : (Stk.glue st).length ≤ l.length + 1 := by
  have : Cln.run (Pth.parts l) = some (Stk.glue st) := by rw [Stk.run_is, hs]; rfl
  have := Cln.run_le this
  rw [Cln.taken_parts] at this
  exact this
theorem texts_take {L g cap n k : Nat} {W : World} {xs : List Value} (h : W.ownsRow L 9 1 (.slice (some ⟨g, 0, none⟩) n cap) n xs) (hk : k ≤ n) :
    W.ownsRow L 9 1 (.slice (some ⟨g, 0, none⟩) k cap) k (xs.take k) := by
  obtain ⟨hx, h2⟩ := h
  rcases h2 with ⟨h0, _⟩ | ⟨g', cap', cur, hv, hg, hh, hn, hcap, hsz, htake⟩
  · cases h0
  · cases hv
    refine ⟨by rw [List.length_take]; omega, .inr ⟨g, cap, cur, rfl, hg, hh, by omega, hcap, hsz, ?_⟩⟩
    rw [← htake, List.take_take]; congr 1; omega
theorem textsV_take (ps : List (List UInt8)) (k : Nat) : (textsV ps).take k = textsV (ps.take k) := by simp [textsV]
theorem texts_cell {W : World} {L g cap : Nat} {ps : List (List UInt8)} (h : W.ownsRow L 9 1 (.slice (some ⟨g, 0, none⟩) ps.length cap) ps.length (textsV ps)) (j : Nat) (hj : j < ps.length) : W.cell? ⟨g, j, none⟩ = some (.string ⟨ps[j].toArray⟩) := by
  rw [h.cellAt j (by omega), textsV_at ps j hj]
theorem texts_low {W : World} {L g cap n : Nat} {xs : List Value} (h : W.ownsRow L 9 1 (.slice (some ⟨g, 0, none⟩) n cap) n xs) : L ≤ g ∧ g < W.heap.size := h.lt g rfl

def refCleanPost (s : ByteArray) (w : World) (e : Ending) (w' : World) : Prop :=
  e = .returned (.tuple (match Cln.clean s.data.toList with
    | some l => #[.string ⟨l.toArray⟩, .bool true]
    | none => #[.string ⟨#[]⟩, .bool false])) ∧ Below w.heap.size w w'
theorem post_fails {s : ByteArray} {w w' : World} {e : Ending} (h : Cln.clean s.data.toList = none) (he : e = .returned (.tuple #[.string ⟨#[]⟩, .bool false])) (hb : Below w.heap.size w w') : refCleanPost s w e w' := by
  unfold refCleanPost; rw [h]; exact ⟨he, hb⟩
theorem post_holds {s : ByteArray} {w w' : World} {e : Ending} {l : List UInt8} (h : Cln.clean s.data.toList = some l) (he : e = .returned (.tuple #[.string ⟨l.toArray⟩, .bool true])) (hb : Below w.heap.size w w') : refCleanPost s w e w' := by
  unfold refCleanPost; rw [h]; exact ⟨he, hb⟩

set_option maxRecDepth 100000 in
set_option maxHeartbeats 2000000 in
theorem refClean_any (s : ByteArray) (w : World) (hs : s.size < 2147483600) : Calls Tryd.prog 11 #[.string s] w (refCleanPost s w) := by
  obtain ⟨i0, hi, hz0, hz1, hz2⟩ := info_parts info_string
  have HP := Lib.hid (Parts_any s w (by omega))
  have hcount : (Pth.parts s.data.toList).length ≤ s.size + 1 := by
    have := Pth.parts_count s.data.toList
    rw [← Lib.size_eq] at this; exact this
  have Hsz : Hid (∀ p ∈ Pth.parts s.data.toList, p.length ≤ s.size) := Lib.hid fun p hp => by
    have := Pth.parts_le _ p hp
    rw [← Lib.size_eq] at this; exact this
  go_enter Tryd.func11, Tryd.ntmps11
  go_wp2_with fail
  refine HP.out.mono ?_
  rintro e w1 ⟨g, cap, rfl, hrow, hb1⟩
  have Hcell := Lib.hid (texts_cell hrow)
  have hg := (texts_low hrow).2
  have HB := Lib.hid hb1
  have hB1 := hb1.size
  clear hrow hb1 HP
  have Hps := Lib.hid (show Pth.parts s.data.toList = Pth.parts s.data.toList from rfl)
  generalize hPs : Pth.parts s.data.toList = ps at hcount Hsz Hcell ⊢
  clear Hps
  have HPs := Lib.hid hPs
  clear hPs
  go_wp2
  go_loopw [4, 6] (fun v i wr => ∃ k : Nat, ∃ st, k ≤ ps.length ∧ i = .int .i64 k ∧ Hid (Stk.stack [] (ps.take k) = some st) ∧ st.length ≤ k ∧ wr.ownsRow w1.heap.size 9 1 v st.length (textsV st) ∧ Below w1.heap.size w1 wr ∧ w1.heap.size ≤ wr.heap.size) (fun _ i _ => ps.length - (intOf i).toNat)
  case atStart => exact ⟨0, [], Nat.zero_le _, rfl, Lib.hid rfl, Nat.le_refl _, World.ownsRow_nil _ _ _ _, Below.refl _ _, Nat.le_refl _⟩
  case round =>
    obtain ⟨k, st, hk, rfl, hst, hstk, hown, hb, hsz⟩ := hrel
    by_cases hlt : k < ps.length
    · have hcell : wr.cell? ⟨g, k, none⟩ = some (.string ⟨ps[k].toArray⟩) := (hb.cell (p := ⟨g, k, none⟩) hg).trans (Hcell.out k hlt)
      have hpl : (⟨ps[k].toArray⟩ : ByteArray).size ≤ s.size := by
        show ps[k].toArray.size ≤ _
        rw [List.size_toArray]; exact Hsz.out _ (List.getElem_mem hlt)
      have Hnext := Lib.hid (stack_next hlt hst.out)
      have Hbad : Hid (Stk.push st ps[k] = none → Cln.clean s.data.toList = none) := Lib.hid fun h => by
        have := stack_fails hlt hst.out h
        rw [← HPs.out] at this
        rw [Stk.clean_is, this]; rfl
      have HX := Lib.hid (show (⟨ps[k].toArray⟩ : ByteArray).data.toList = ps[k] from rfl)
      have HXt := Lib.hid (Lib.toList_data (⟨ps[k].toArray⟩ : ByteArray))
      generalize (⟨ps[k].toArray⟩ : ByteArray) = x at hcell hpl HX HXt
      generalize ps[k] = p at Hnext Hbad HX
      have HPart := Lib.hid (part_any x false wr (by omega))
      rw [refPart_false] at HPart
      have HBw : Hid (Below w.heap.size w wr) := Lib.hid (HB.out.trans (hb.mono hB1))
      by_cases hskip : x.toList = [] ∨ x.toList = [46]
      · have H : Hid (Stk.stack [] (ps.take (k + 1)) = some st) := Lib.hid (by
          rw [Hnext.out]; unfold Stk.push; rw [if_pos (by rw [← HX.out, ← HXt.out]; exact hskip)])
        clear Hnext Hbad HPart
        rcases hskip with h | h
        all_goals
          go_wp2_with fail
          go_roundw
          case rel => exact ⟨k + 1, st, by omega, by go_num, H, by omega, hown, hb, hsz⟩
          case measure => simp [intOf]; omega
      · have n0 : ¬ x.toList = [] := fun e => hskip (.inl e)
        have n1 : ¬ x.toList = [46] := fun e => hskip (.inr e)
        by_cases hup : x.toList = [46, 46]
        · by_cases hnil : st = []
          · subst hnil
            have H : Hid (Cln.clean s.data.toList = none) := Lib.hid (Hbad.out (by
              unfold Stk.push; rw [if_neg (by rw [← HX.out, ← HXt.out]; exact hskip), if_pos (by rw [← HX.out, ← HXt.out]; exact hup), if_pos rfl]))
            clear Hnext Hbad HPart
            rcases hown.2 with ⟨hv, _⟩ | ⟨g2, cap2, cur, hv, _⟩
            all_goals
              subst hv
              go_wp2_with fail
              go_ret2
              exact post_fails H.out rfl HBw.out
          · have H : Hid (Stk.stack [] (ps.take (k + 1)) = some (st.take (st.length - 1))) := Lib.hid (by
              rw [Hnext.out]; unfold Stk.push; rw [if_neg (by rw [← HX.out, ← HXt.out]; exact hskip), if_pos (by rw [← HX.out, ← HXt.out]; exact hup), if_neg hnil, List.dropLast_eq_take])
            have hpos : 0 < st.length := List.length_pos_iff.2 hnil
            clear Hnext Hbad HPart
            rcases hown.2 with ⟨_, h⟩ | ⟨g2, cap2, cur, hv, _, _, hc2, hm2, _⟩
            · omega
            · subst hv
              have hown2 := texts_take hown (show st.length - 1 ≤ st.length by omega)
              rw [textsV_take] at hown2
              unfold maxLen at hm2
              go_wp2_with fail
              go_roundw
              case rel => exact ⟨k + 1, st.take (st.length - 1), by omega, by go_num, H, by rw [List.length_take]; omega, by rw [List.length_take, Nat.min_eq_left (by omega)]; exact hown2, hb, hsz⟩
              case measure => simp [intOf]; omega
        · have e0 : x.toList.isEmpty = false := by
            cases e : x.toList with
            | nil => exact absurd e n0
            | cons => rfl
          have e1 : (x.toList == [46]) = false := by rw [beq_eq_false_iff_ne]; exact n1
          have e2 : (x.toList == [46, 46]) = false := by rw [beq_eq_false_iff_ne]; exact hup
          cases hok : Pth.partOK x.data.toList with
          | false =>
            have H : Hid (Cln.clean s.data.toList = none) := Lib.hid (Hbad.out (by
              unfold Stk.push; rw [if_neg (by rw [← HX.out, ← HXt.out]; exact hskip), if_neg (by rw [← HX.out, ← HXt.out]; exact hup), if_neg (by rw [← HX.out, hok]; simp)]))
            rw [hok] at HPart
            clear Hnext Hbad hok
            go_wp2_with fail
            refine HPart.out.mono ?_
            rintro e w' ⟨rfl, rfl⟩
            go_wp2
            go_ret2
            exact post_fails H.out rfl HBw.out
          | true =>
            have H : Hid (Stk.stack [] (ps.take (k + 1)) = some (st ++ [x.data.toList])) := Lib.hid (by
              rw [Hnext.out]; unfold Stk.push; rw [if_neg (by rw [← HX.out, ← HXt.out]; exact hskip), if_neg (by rw [← HX.out, ← HXt.out]; exact hup), if_pos (by rw [← HX.out]; exact hok), HX.out])
            rw [hok] at HPart
            clear Hnext Hbad hok
            go_wp2_with fail
            refine HPart.out.mono ?_
            rintro e w' ⟨rfl, rfl⟩
            go_wp2_with (at_builtin; refine append_one wr rfl (.tmp 16) (.tmp 21) 22 rfl w1.heap.size 9 i0 (.string ⟨#[]⟩) 16 Tryd.underlying22 hi hz0 hz1 hz2 rfl _ _ _ rfl hown (.string x) rfl rfl rfl (by omega) (by unfold maxLen; omega) hsz w1.heap.size w1 hb (Nat.le_refl _) ?_; intro g2 cap2 w2 hown2 hb2 hsz2)
            go_roundw
            case rel => exact ⟨k + 1, st ++ [x.data.toList], by omega, by go_num, H, by simp; omega, by rw [← textsV_snoc, List.length_append]; exact hown2, hb2, hsz2⟩
            case measure => simp [intOf]; omega
    · obtain rfl : k = ps.length := by omega
      have hst' : Stk.stack [] (Pth.parts s.data.toList) = some st := by rw [HPs.out]; have := hst.out; rwa [List.take_length] at this
      have hgl := glue_le hst'
      rw [← Lib.size_eq] at hgl
      have HBw : Hid (Below w.heap.size w wr) := Lib.hid (HB.out.trans (hb.mono hB1))
      have Hst := Lib.hid hst'
      clear hst hst'
      rcases hown.2 with ⟨hv, h0⟩ | ⟨g2, cap2, cur, hv, _, _, hc2, hm2, _⟩
      · subst hv
        obtain rfl : st = [] := List.eq_nil_of_length_eq_zero h0
        have H : Hid (Cln.clean s.data.toList = some []) := Lib.hid (Stk.clean_of Hst.out (by decide))
        have HG := Lib.hid (glue_none none 0 wr)
        go_wp2_with fail
        refine HG.out.mono ?_
        rintro e w' ⟨rfl, rfl⟩
        go_wp2
        go_ret2
        exact post_holds H.out rfl HBw.out
      · subst hv
        have HG : Hid (Calls Tryd.prog 39 #[.slice (some ⟨g2, 0, none⟩) st.length cap2] wr fun e w' => e = .returned (.string ⟨(Stk.glue st).toArray⟩) ∧ wr = w') := Lib.hid (by
          have := glue_any (bytesOf st) g2 0 cap2 wr (by rw [bytesOf_len]; omega) (by rw [glueB_bytes]; show (Stk.glue st).toArray.size < _; rw [List.size_toArray]; omega) (fun j hj => by
            rw [bytesOf_len] at hj
            rw [Nat.zero_add, texts_cell hown j hj]
            simp [bytesOf])
          rw [bytesOf_len, glueB_bytes] at this
          exact this)
        have HX := Lib.hid (show (⟨(Stk.glue st).toArray⟩ : ByteArray).size = (Stk.glue st).length from List.size_toArray)
        generalize hGe : (⟨(Stk.glue st).toArray⟩ : ByteArray) = G at HG HX
        have HGe := Lib.hid hGe
        clear hGe
        by_cases hbig : 200 < G.size
        · have H : Hid (Cln.clean s.data.toList = none) := Lib.hid (Stk.clean_big Hst.out (by rw [← HX.out]; exact hbig))
          go_wp2_with fail
          refine HG.out.mono ?_
          rintro e w' ⟨rfl, rfl⟩
          go_wp2
          go_ret2
          exact post_fails H.out rfl HBw.out
        · have H : Hid (Cln.clean s.data.toList = some (Stk.glue st)) := Lib.hid (Stk.clean_of Hst.out (by rw [← HX.out]; omega))
          go_wp2_with fail
          refine HG.out.mono ?_
          rintro e w' ⟨rfl, rfl⟩
          go_wp2
          go_ret2
          exact post_holds H.out (by rw [HGe.out]; rfl) HBw.out

end Go.Proofs.YteokigpeaggemaaDoor
