/- What Split answers. Conditions: a text of at most 1000 bytes; the errors lie in their variables. -/
import Derived.Test.YtdiocmcfaneajaaGreatDoorStC
import Derived.Test.YtdiocmcfaneajaaGreatDoorStJ
namespace Go.Proofs.YtdiocmcfaneajaaGreatDoor
open Go.RowKit
namespace St

theorem OwnT.some {W : World} {B : Nat} {v : Value} {xs : List ByteArray} (h : OwnT W B v xs) (hl : 0 < xs.length) : ∃ g cap, v = .slice (some ⟨g, 0, none⟩) xs.length cap := by
  rcases h.2 with ⟨_, h0⟩ | ⟨g, cap, _, e, _⟩
  · omega
  · exact ⟨g, cap, e⟩
theorem text_onto {ops : Array Oper} {rest : List Oper} {o : Oper} {a : Act} {Q : Exit → Act → World → Prop} {W : World} {B : Nat} {v : Value} {xs : List ByteArray} (h : OwnT W B v xs) (s : ByteArray) (m : Nat) (hm : m = xs.length + 1) (hB : B ≤ W.heap.size) (hl : xs.length < 1000000) (hgd : o.guard = none) (x y : Operand)
    (ho : o.op = .call { callee := .builtin .append, args := #[x, y], argTypes := #[22, 22] }) (hx : a.eval x = v) (hy : a.eval y = .slice (some ⟨W.heap.size, 0, none⟩) 1 1)
    (hK : ∀ g cap w', OwnT w' B (.slice (some ⟨g, 0, none⟩) m cap) (xs ++ [s]) → Below B W w' → wpList Tryz.prog ops Q rest (a.put o.dst (.slice (some ⟨g, 0, none⟩) m cap)) w') : wpList Tryz.prog ops Q (o :: rest) a (W.alloc (.cells #[.string s] 9)) := by
  subst hm
  refine wpList_plain hgd fun K hKK => ?_
  obtain ⟨i0, hi, hz0, hz1, hz2⟩ := parts info_text
  obtain ⟨u, w', hr, h1, h2, _, _⟩ := run_append_own_at (P := Tryz.prog) (W.alloc (.cells #[.string s] 9)) B 22 o.type 9 i0 _ 1 16 Tryz.underlying22 hi hz0 hz1 hz2 rfl (by decide) v xs.length (xs.map Value.string)
    (World.ownsRow.alloc h _) ⟨W.heap.size, 0, none⟩ 1 1 [.string s] rfl (fun j u hu => by
      cases j with
      | zero => simp at hu; subst hu; exact (Boxed.new W 9 (.string s)).cell
      | succ j => simp at hu) (fun u hu => by simp at hu; subst hu; rfl) (by unfold maxLen; omega) (by omega) (by simp; omega)
  have h1' : OwnT w' B u (xs ++ [s]) := by unfold OwnT; rw [List.length_append, List.map_append]; exact h1
  obtain ⟨g, cap, e⟩ := h1'.some (by simp)
  subst e
  rw [List.length_append, List.length_singleton] at h1' hr
  unfold Oper.wp execOp
  simp only [ho, resolve, invoke, builtin, Sem.run_bind, Sem.run_pure, Result.andThen_ok, List.map_toArray, List.map_cons, List.map_nil, hx, hy, hr]
  exact hKK _ _ (hK g cap w' h1' (((Below.refl B W).alloc hB _).grown h2 (by simp; omega) fun j hj => (h.lt j hj).1))
theorem below_drew (w : World) (n : Nat) : Below w.heap.size w (w.drewN n) := ⟨rfl, rfl, rfl, Nat.le_refl _, fun _ _ => rfl⟩
def texts (l : List L) : List ByteArray := l.map txt
theorem datas_texts (l : List L) : datas (texts l) = l := by
  unfold datas texts
  rw [List.map_map]
  exact (List.map_congr_left fun x _ => rfl).trans (List.map_id _)

set_option maxRecDepth 100000 in
theorem split_none (D E : Value) (m : Int) (s : ByteArray) (most : Int) (w : World) (hC : Cx D E m w) :
    Calls Tryz.prog 7 #[.string s, .string ⟨#[]⟩, .int .i64 most] w fun e w' => e = .returned (.tuple #[.slice none 0 0, D]) ∧ Below w.heap.size w w' := by
  have hd := hC.dyn
  clear hC
  go_enter Tryz.func7, Tryz.ntmps7
  go_wp2_with fail
  go_quiet (fail)
  go_wp2
  go_ret2
  exact ⟨rfl, ⟨rfl, rfl, rfl, Nat.le_refl _, fun _ _ => rfl⟩⟩

set_option maxRecDepth 100000 in
set_option maxHeartbeats 3200000 in
theorem split_any (D E : Value) (m : Int) (s sep : ByteArray) (most : Int) (w : World) (hC : Cx D E m w) (hs : s.size ≤ 1000) (hsep : sep.size ≠ 0) :
    Calls Tryz.prog 7 #[.string s, .string sep, .int .i64 most] w fun e w' => ∃ v, e = .returned (.tuple #[v, .nilIface]) ∧ OwnT w' w.heap.size v (texts (splitF sep.data.toList (s.size + 1) most s.data.toList)) ∧ Below w.heap.size w w' := by
  have HC := hidden hC
  have hse := hidden hsep
  have hsl : Hid (sep.data.toList ≠ []) := hidden (fun e => hsep (by rw [← size_data, e]; rfl))
  have hne : (sep.toList == []) = false := by
    rw [ByteArray.toList_eq, beq_eq_false_iff_ne]
    exact hsl.out
  obtain ⟨T, hT⟩ : ∃ T, splitF sep.data.toList (s.size + 1) most s.data.toList = T := ⟨_, rfl⟩
  have HT := hidden hT
  rw [hT]
  clear hC hsep hT
  go_enter Tryz.func7, Tryz.ntmps7
  go_wp2
  go_loopw [0, 8] (fun t l wr => ∃ k f : Nat, ∃ R : ByteArray, ∃ v, ∃ pre : List L, ∃ ao cap, t = .string R ∧ l = v ∧ v = .slice ao k cap ∧ R.size + k ≤ 1000 ∧ R.size < f ∧ Hid (most < 0 ∨ (k : Int) ≤ most) ∧ Hid (pre.length = k) ∧ Hid (pre ++ splitF sep.data.toList f (most - k) R.data.toList = T) ∧ Hid (OwnT wr w.heap.size v (texts pre)) ∧ Hid (Below w.heap.size w wr)) (fun t _ _ => szOf t)
  case atStart => exact ⟨0, s.size + 1, s, _, [], none, 0, rfl, rfl, rfl, by omega, by omega, hidden (by omega), hidden rfl, hidden (by simpa using HT.out), hidden (ownT_nil _ _), hidden (Below.refl _ _)⟩
  case round =>
    obtain ⟨k, f, R, v, pre, ao, cap, rfl, rfl, rfl, hRk, hRf, hmo, hpre, hall, hO, hb⟩ := hrel
    obtain ⟨f, rfl⟩ : ∃ g, f = g + 1 := ⟨f - 1, by omega⟩
    have hpl : (texts pre).length = k := by unfold texts; rw [List.length_map, hpre.out]
    have HPL := hidden hpl
    have hbs := hb.out.size
    clear hpl HT
    by_cases hgo : most - k = 0
    · have HG : Hid (T = pre ++ [R.data.toList]) := hidden (by
        rw [← hall.out]; unfold splitF; rw [if_pos hgo])
      have h1 : ¬ most < 0 := by omega
      have h2 : ¬ (k : Int) < most := by omega
      clear hgo hall
      go_wp2_with (at_builtin; refine text_onto hO.out R (k + 1) (by rw [HPL.out]) hbs (by rw [HPL.out]; omega) rfl _ _ rfl rfl rfl ?_; intro g cap2 w2 hown2 hb2)
      go_ret2
      refine ⟨_, rfl, ?_, hb.out.trans hb2⟩
      have e : texts T = texts pre ++ [R] := by rw [HG.out]; simp [texts, txt_data]
      rw [e]
      exact hown2
    · have hix := Lib.index_ge R.data.toList sep.data.toList
      have hor : Hid (most < 0 ∨ (0 ≤ most ∧ (k : Int) < most)) := hidden (by have := hmo.out; omega)
      by_cases hi0 : Lib.index R.data.toList sep.data.toList < 0
      · have HCUT := hidden (Tryz.strings_Cut R sep m wr (by omega) (HC.out.below hb.out).max)
        rw [Lib.cut, if_neg (by omega)] at HCUT
        have HG : Hid (T = pre ++ [R.data.toList]) := hidden (by
          rw [← hall.out]; unfold splitF; rw [if_neg hgo, if_pos hi0])
        clear hgo hall hix hi0
        have e : Hid (texts T = texts pre ++ [R]) := hidden (by rw [HG.out]; simp [texts, txt_data])
        rcases hor.out with h0 | ⟨h0, h1⟩ <;>
        · go_wp2_with (first | (go_at_call 34; with_reducible refine HCUT.out.mono ?_; rintro e1 wc ⟨rfl, nd, hwc⟩; have hbc : Below wr.heap.size wr wc := hwc ▸ below_drew wr nd; have hbcs := hbc.size; have hO2 := hidden (hO.out.below hbc); have hb2 := hidden (hb.out.trans (hbc.mono hbs)); clear hwc hbc) | (at_builtin; refine text_onto hO2.out R (k + 1) (by rw [HPL.out]) (by omega) (by rw [HPL.out]; omega) rfl _ _ rfl rfl rfl ?_; intro g cap2 w2 hown2 hb3))
          go_ret2
          refine ⟨_, rfl, ?_, hb2.out.trans hb3⟩
          rw [e.out]
          exact hown2
      · have hsm := index_some hi0
        have HCUT := hidden (Tryz.strings_Cut R sep m wr (by omega) (HC.out.below hb.out).max)
        rw [Lib.cut, if_pos (by omega)] at HCUT
        obtain ⟨X, hX⟩ : ∃ X, R.data.toList.take (Lib.index R.data.toList sep.data.toList).toNat = X := ⟨_, rfl⟩
        obtain ⟨Y, hY⟩ : ∃ Y, R.data.toList.drop ((Lib.index R.data.toList sep.data.toList).toNat + sep.data.toList.length) = Y := ⟨_, rfl⟩
        have hYl : Y.length + 1 ≤ R.size := by
          have h5 := size_data R
          have h6 := List.length_pos_iff.2 hsl.out
          have h7 := congrArg List.length hY
          have h8 := hsm.2.1
          rw [List.length_drop] at h7
          omega
        have HG : Hid (pre ++ [X] ++ splitF sep.data.toList f (most - ((k + 1 : Nat) : Int)) Y = T) := hidden (by
          rw [← hall.out]
          conv => rhs; unfold splitF
          rw [if_neg hgo, if_neg hi0, hX, hY, List.append_assoc, show most - ((k + 1 : Nat) : Int) = most - k - 1 by omega]
          rfl)
        rw [hX, hY] at HCUT
        change Hid (Calls Tryz.prog 34 #[.string R, .string sep] wr fun e w' => e = .returned (.tuple #[.string (txt X), .string (txt Y), .bool true]) ∧ ∃ n, w' = wr.drewN n) at HCUT
        clear hgo hall hix hi0 hsm hX hY
        have hYs : (txt Y).size + 1 ≤ R.size := hYl
        obtain ⟨YB, hYB⟩ : ∃ YB, txt Y = YB := ⟨_, rfl⟩
        have HYB : Hid (YB.data.toList = Y) := hidden (by rw [← hYB]; rfl)
        rw [hYB] at HCUT hYs
        obtain ⟨XB, hXB⟩ : ∃ XB, txt X = XB := ⟨_, rfl⟩
        have HXB := hidden hXB
        rw [hXB] at HCUT
        clear hYB hYl hXB
        rcases hor.out with h0 | ⟨h0, h1⟩ <;>
        · go_wp2_with (first | (go_at_call 34; with_reducible refine HCUT.out.mono ?_; rintro e1 wc ⟨rfl, nd, hwc⟩; have hbc : Below wr.heap.size wr wc := hwc ▸ below_drew wr nd; have hbcs := hbc.size; have hO2 := hidden (hO.out.below hbc); have hb2 := hidden (hb.out.trans (hbc.mono hbs)); clear hwc hbc) | (at_builtin; refine text_onto hO2.out XB (k + 1) (by rw [HPL.out]) (by omega) (by rw [HPL.out]; omega) rfl _ _ rfl rfl rfl ?_; intro g cap2 w2 hown2 hb3; have HO3 := hidden hown2; have HB3 := hidden hb3; clear hown2 hb3))
          have R1 : Hid (most < 0 ∨ ((k + 1 : Nat) : Int) ≤ most) := hidden (by omega)
          have R2 : Hid ((pre ++ [X]).length = k + 1) := hidden (by rw [List.length_append, hpre.out]; rfl)
          have R3 : Hid (pre ++ [X] ++ splitF sep.data.toList f (most - ((k + 1 : Nat) : Int)) YB.data.toList = T) := hidden (by rw [HYB.out]; exact HG.out)
          have R4 : Hid (OwnT w2 w.heap.size (.slice (some ⟨g, 0, none⟩) (k + 1) cap2) (texts (pre ++ [X]))) := hidden (by
            have e : texts (pre ++ [X]) = texts pre ++ [XB] := by rw [← HXB.out]; simp [texts]
            rw [e]; exact HO3.out)
          have R5 := hidden (hb2.out.trans HB3.out)
          go_roundw
          case rel => exact ⟨k + 1, f, YB, _, pre ++ [X], _, _, rfl, rfl, rfl, by omega, by omega, R1, R2, R3, R4, R5⟩
          case measure => simp [szOf]; omega
end St
end Go.Proofs.YtdiocmcfaneajaaGreatDoor
