/- smithylaw1.PathAgain answers true at every two texts. Conditions: internal/bytealg.MaxLen holds some number, smithy/api.ErrPath an error. -/
import Derived.Test.YteokigpeaggemaaDoorFirst
import Derived.Test.YteokigpeaggemaaDoorStarsLaw
import Derived.Test.YteokigpeaggemaaDoorJoin
import Derived.Test.YteokigpeaggemaaDoorAgainPlain
namespace Go.Proofs.YteokigpeaggemaaDoor
open Go.RowKit

def gives (vs : Array Value) (w : World) (e : Ending) (w' : World) : Prop := e = .returned (.tuple vs) ∧ Below w.heap.size w w'
theorem post_some {ev : Value} {s c : ByteArray} {w : World} {e : Ending} {w' : World} (h : Cln.clean s.data.toList = some c.data.toList) (hp : cleanPost ev s w e w') : gives #[.string c, .nilIface] w e w' := by
  unfold cleanPost at hp
  rw [h] at hp
  exact ⟨by rw [hp.1], hp.2⟩
theorem post_none {ev : Value} {s : ByteArray} {w : World} {e : Ending} {w' : World} (h : Cln.clean s.data.toList = none) (hp : cleanPost ev s w e w') : gives #[.string ⟨#[]⟩, ev] w e w' := by
  unfold cleanPost at hp
  rw [h] at hp
  exact hp
theorem Clean_some (et : TypeId) (ex : Value) (s c : ByteArray) (w : World) (hs : s.size < 2147483648) (hR : Ready (.iface et ex) w) (h : Cln.clean s.data.toList = some c.data.toList) :
    Calls Tryd.prog 10 #[.string s] w (gives #[.string c, .nilIface] w) := (Clean_any et ex s w hs hR).mono fun _ _ hp => post_some h hp
theorem Clean_none (et : TypeId) (ex : Value) (s : ByteArray) (w : World) (hs : s.size < 2147483648) (hR : Ready (.iface et ex) w) (h : Cln.clean s.data.toList = none) :
    Calls Tryd.prog 10 #[.string s] w (gives #[.string ⟨#[]⟩, .iface et ex] w) := (Clean_any et ex s w hs hR).mono fun _ _ hp => post_none h hp
theorem pair_cells (x y : ByteArray) (w : World) (j : Nat) (z : ByteArray) (h : [x, y][j]? = some z) : (w.alloc (.cells #[.string x, .string y] 9)).cell? ⟨w.heap.size, 0 + j, none⟩ = some (.string z) := by
  have hj : j < 2 := by
    have := (List.getElem?_eq_some_iff.1 h).1
    simpa using this
  rw [Nat.zero_add]
  have := cells_of [x, y] w j hj
  rw [List.getElem?_eq_getElem hj] at h
  rw [← Option.some.inj h]
  exact this
theorem glueB_list (xs : List ByteArray) : (glueB xs).data.toList = Stk.glue (xs.map (·.data.toList)) := rfl
theorem Join_pair (et : TypeId) (ex : Value) (x y : ByteArray) (w : World) (hx : x.size ≤ 300) (hy : y.size ≤ 300) (hR : Ready (.iface et ex) w) :
    Calls Tryd.prog 12 #[.slice (some ⟨w.heap.size, 0, none⟩) 2 2] (w.alloc (.cells #[.string x, .string y] 9)) (cleanPost (.iface et ex) (glueB [x, y]) (w.alloc (.cells #[.string x, .string y] 9))) := by
  refine Join_any et ex w.heap.size 0 2 [x, y] _ (fun j z h => pair_cells x y w j z h) (by simp) (Nat.le_refl _) (by simp) ?_ (hR.alloc _)
  rw [Lib.size_eq, glueB_list, Agn.glueB_two]
  simp only [List.length_append, List.length_cons]
  rw [← Lib.size_eq, ← Lib.size_eq]; omega
theorem gives_alloc {vs : Array Value} {w : World} {o : Obj} {e : Ending} {w' : World} (h : gives vs (w.alloc o) e w') : gives vs w e w' :=
  ⟨h.1, ((Below.refl _ w).alloc (Nat.le_refl _) o).trans (h.2.mono (by simp))⟩
theorem Join_some (et : TypeId) (ex : Value) (x y c : ByteArray) (w : World) (hx : x.size ≤ 300) (hy : y.size ≤ 300) (hR : Ready (.iface et ex) w) (h : Cln.clean (x.data.toList ++ 47 :: y.data.toList) = some c.data.toList) :
    Calls Tryd.prog 12 #[.slice (some ⟨w.heap.size, 0, none⟩) 2 2] (w.alloc (.cells #[.string x, .string y] 9)) (gives #[.string c, .nilIface] w) :=
  (Join_pair et ex x y w hx hy hR).mono fun _ _ hp => gives_alloc (post_some (by rw [glueB_list, Agn.glueB_two]; exact h) hp)
theorem Join_fails (et : TypeId) (ex : Value) (x y : ByteArray) (w : World) (hx : x.size ≤ 300) (hy : y.size ≤ 300) (hR : Ready (.iface et ex) w) (h : Cln.clean (x.data.toList ++ 47 :: y.data.toList) = none) :
    Calls Tryd.prog 12 #[.slice (some ⟨w.heap.size, 0, none⟩) 2 2] (w.alloc (.cells #[.string x, .string y] 9)) (gives #[.string ⟨#[]⟩, .iface et ex] w) :=
  (Join_pair et ex x y w hx hy hR).mono fun _ _ hp => gives_alloc (post_none (by rw [glueB_list, Agn.glueB_two]; exact h) hp)
theorem Base_is (s b : ByteArray) (w : World) (hs : s.size < 4294967281) (h : s.extract (baseN s) s.size = b) : Calls Tryd.prog 20 #[.string s] w fun e w' => e = .returned (.string b) ∧ w = w' := by
  rw [← h]; exact Base_any s w hs

set_option maxRecDepth 100000 in
set_option maxHeartbeats 1000000 in
theorem PathAgain_any (et : TypeId) (ex : Value) (p q : ByteArray) (w : World) (hR : Ready (.iface et ex) w) :
    Calls Tryd.prog 5 #[.string p, .string q] w (saysB w.heap.size w true) := by
  have HF := Lib.hid (first_any et ex w hR)
  by_cases hp : 300 < p.size
  · go_enter Tryd.func5, Tryd.ntmps5
    go_wp2_with (go_at_call 9; refine HF.out.mono ?_; rintro e w1 ⟨rfl, hb1⟩)
    go_ret
    exact ⟨rfl, hb1⟩
  by_cases hq : 300 < q.size
  · go_enter Tryd.func5, Tryd.ntmps5
    go_wp2_with (go_at_call 9; refine HF.out.mono ?_; rintro e w1 ⟨rfl, hb1⟩)
    go_ret
    exact ⟨rfl, hb1⟩
  cases hc : Cln.clean p.data.toList with
  | none =>
    have HC := Lib.hid (fun W (hW : Ready (.iface et ex) W) => Clean_none et ex p W (by omega) hW hc)
    have HV := Lib.hid (fun W (hW : Ready (.iface et ex) W) => Valid_ready (.iface et ex) p W (by omega) hW)
    rw [Agn.not_valid hc] at HV
    clear hc
    go_enter Tryd.func5, Tryd.ntmps5
    go_wp2_with fail
    refine HF.out.mono ?_
    rintro e w1 ⟨rfl, hb1⟩
    have R1 := hR.below hb1
    go_wp2_with fail
    refine (HC.out w1 R1).mono ?_
    rintro e w2 ⟨rfl, hb2⟩
    have R2 := R1.below hb2
    go_wp2_with fail
    refine (HV.out w2 R2).mono ?_
    rintro e w3 ⟨rfl, hb3⟩
    go_wp2
    go_ret
    exact ⟨rfl, (hb1.trans (hb2.mono hb1.size)).trans (hb3.mono (Nat.le_trans hb1.size hb2.size))⟩
  | some l =>
    have ca := Agn.cleaned_of hc
    have hca : Cln.clean p.data.toList = some (⟨l.toArray⟩ : ByteArray).data.toList := hc
    generalize (⟨l.toArray⟩ : ByteArray) = a at ca hca
    clear hc
    have hsa : a.size ≤ 200 := by obtain ⟨_, _, _, h⟩ := ca; exact h
    have HC := Lib.hid (fun W (hW : Ready (.iface et ex) W) => Clean_some et ex p a W (by omega) hW hca)
    have HA := Lib.hid (fun W (hW : Ready (.iface et ex) W) => Clean_some et ex a a W (by omega) hW ca.again)
    have HD := Lib.hid (fun W => Dir_any a W (by omega))
    have HB := Lib.hid (fun W => Base_any a W (by omega))
    have HJ := Lib.hid (fun W (hW : Ready (.iface et ex) W) => Join_some et ex (a.extract 0 (dirN a)) (a.extract (baseN a) a.size) a W (by rw [ByteArray.size_extract]; omega) (by rw [ByteArray.size_extract]; omega) hW ca.halves)
    have CA := Lib.hid ca
    have HV := Lib.hid (fun (hne : ¬ a.toList = []) W (hW : Ready (.iface et ex) W) => Valid_ready (.iface et ex) a W (by omega) hW)
    clear hca
    go_enter Tryd.func5, Tryd.ntmps5
    go_wp2_with fail
    refine HF.out.mono ?_
    rintro e w1 ⟨rfl, hb1⟩
    have R1 := hR.below hb1
    go_wp2_with fail
    refine (HC.out w1 R1).mono ?_
    rintro e w2 ⟨rfl, hb2⟩
    have R2 := R1.below hb2
    go_wp2_with fail
    refine (HA.out w2 R2).mono ?_
    rintro e w3 ⟨rfl, hb3⟩
    have R3 := R2.below hb3
    have HB3 := Lib.hid ((hb1.trans (hb2.mono hb1.size)).trans (hb3.mono (Nat.le_trans hb1.size hb2.size)))
    clear hb1 hb2 hb3
    have HT : Hid (∀ (d : ByteArray), Cln.clean q.data.toList = some d.data.toList → d.size ≤ 200 → ¬ d.toList = [] →
        (Cln.clean (a.data.toList ++ 47 :: d.data.toList) = none ∧ 200 < a.size + d.size + 1) ∨
        (∃ x : ByteArray, Cln.clean (a.data.toList ++ 47 :: d.data.toList) = some x.data.toList ∧ x.size ≤ 200 ∧ underB x a = true ∧ x ≠ a ∧ x.extract (baseN x) x.size = d.extract (baseN d) d.size)) := Lib.hid fun d hd _ hne => by
      rcases CA.out.behind (Agn.cleaned_of hd) (by rw [Lib.toList_data] at hne; exact hne) with h | ⟨x, h1, h2, h3, h4, h5⟩
      · exact .inl h
      · exact .inr ⟨⟨x.toArray⟩, h1, by rw [Lib.size_eq]; exact h2, h3, h4, h5⟩
    have HQ : Hid (∀ d : ByteArray, Cln.clean q.data.toList = some d.data.toList → d.size ≤ 200) := Lib.hid fun d hd => by
      obtain ⟨_, _, _, h⟩ := Agn.cleaned_of hd
      exact h
    have HVt : Hid (¬ a.toList = [] → Pth.splitOK Pth.partOK a.data.toList = true) := Lib.hid fun hne => CA.out.valid (by rw [Lib.toList_data] at hne; exact hne)
    clear ca
    by_cases ha : a.toList = []
    case' neg =>
      have e0 : a.toList.isEmpty = false := by
        cases e : a.toList with
        | nil => exact absurd e ha
        | cons => rfl
      go_wp2_with fail
      refine (HV.out ha w3 R3).mono ?_
      rintro e w4 ⟨rfl, hb4⟩
      rw [HVt.out ha]
      have R4 := R3.below hb4
      have HB4 := Lib.hid (HB3.out.trans (hb4.mono HB3.out.size))
      clear hb4 R3 HB3 e0
      go_wp2_with fail
      obtain ⟨W, hWe⟩ : ∃ W, W = w4 := ⟨_, rfl⟩
      subst hWe
      have R := R4
      have HW := HB4
      clear R4 HB4
    case' pos =>
      go_wp2_with fail
      obtain ⟨W, hWe⟩ : ∃ W, W = w3 := ⟨_, rfl⟩
      subst hWe
      have R := R3
      have HW := HB3
      clear R3 HB3
    all_goals
      refine (HD.out W).mono ?_
      rintro e w5 ⟨rfl, rfl⟩
      go_wp2_with fail
      refine (HB.out W).mono ?_
      rintro e w5 ⟨rfl, rfl⟩
      go_wp2_with fail
      refine (HJ.out W R).mono ?_
      rintro e w5 ⟨rfl, hb5⟩
      have R5 := R.below hb5
      have HW5 := Lib.hid (HW.out.trans (hb5.mono HW.out.size))
      clear hb5 R HW HJ HB HD
      have HQn := Lib.hid (fun W (hW : Ready (.iface et ex) W) (hn : Cln.clean q.data.toList = none) => Clean_none et ex q W (by omega) hW hn)
      have HQs := Lib.hid (fun d W (hW : Ready (.iface et ex) W) (hn : Cln.clean q.data.toList = some d.data.toList) => Clean_some et ex q d W (by omega) hW hn)
      cases hcq : Cln.clean q.data.toList with
      | none =>
        go_wp2_with fail
        refine (HQn.out w5 R5 hcq).mono ?_
        rintro e w6 ⟨rfl, hb6⟩
        have HW6 := Lib.hid (HW5.out.trans (hb6.mono HW5.out.size))
        clear hb6
        go_wp2
        go_ret
        exact ⟨rfl, HW6.out⟩
      | some ld =>
        have hcd : Cln.clean q.data.toList = some (⟨ld.toArray⟩ : ByteArray).data.toList := hcq
        generalize (⟨ld.toArray⟩ : ByteArray) = d at hcd
        clear hcq
        have hsd := HQ.out d hcd
        go_wp2_with fail
        refine (HQs.out d w5 R5 hcd).mono ?_
        rintro e w6 ⟨rfl, hb6⟩
        have R6 := R5.below hb6
        have HW6 := Lib.hid (HW5.out.trans (hb6.mono HW5.out.size))
        clear hb6 R5 HW5
        by_cases hd : d.toList = []
        · go_wp2
          go_ret
          exact ⟨rfl, HW6.out⟩
        · have e1 : d.toList.isEmpty = false := by
            cases e : d.toList with
            | nil => exact absurd e hd
            | cons => rfl
          rcases HT.out d hcd hsd hd with ⟨hj, hbig⟩ | ⟨x, hj, hsx, hu, hnx, hbx⟩
          · have HJ2 := Lib.hid (Join_fails et ex a d w6 (by omega) (by omega) R6 hj)
            clear hj hd
            go_wp2_with fail
            refine HJ2.out.mono ?_
            rintro e w7 ⟨rfl, hb7⟩
            have HW7 := Lib.hid (HW6.out.trans (hb7.mono HW6.out.size))
            clear hb7
            go_wp2
            go_ret
            exact ⟨ret_bool (decide_eq_true (by omega)), HW7.out⟩
          · have HJ2 := Lib.hid (Join_some et ex a d x w6 (by omega) (by omega) R6 hj)
            have HU := Lib.hid (fun W => Under_is x a true W hu)
            have HB1 := Lib.hid (fun W => Base_is x (d.extract (baseN d) d.size) W (by omega) hbx)
            have HB2 := Lib.hid (fun W => Base_any d W (by omega))
            have hx0 : ¬ x.toList = [] := by
              intro e
              unfold underB at hu
              rw [Lib.toList_data] at e
              rw [Lib.toList_data, Lib.toList_data, e] at hu
              cases e2 : a.data.toList with
              | nil => rw [e2] at hu; cases hu
              | cons b r => rw [e2] at hu; cases hu
            have ex0 : x.toList.isEmpty = false := by
              cases e : x.toList with
              | nil => exact absurd e hx0
              | cons => rfl
            have hxa : ¬ x.toList = a.toList := by
              intro e
              rw [Lib.toList_data, Lib.toList_data] at e
              exact hnx (ByteArray.ext (Array.ext' e))
            clear hj hd hu hbx
            go_wp2_with fail
            refine HJ2.out.mono ?_
            rintro e w7 ⟨rfl, hb7⟩
            have HW7 := Lib.hid (HW6.out.trans (hb7.mono HW6.out.size))
            clear hb7
            go_wp2_with fail
            refine (HU.out w7).mono ?_
            rintro e w8 ⟨rfl, rfl⟩
            go_wp2_with fail
            refine (HB1.out w7).mono ?_
            rintro e w8 ⟨rfl, rfl⟩
            go_wp2_with fail
            refine (HB2.out w7).mono ?_
            rintro e w8 ⟨rfl, rfl⟩
            go_wp2
            go_ret
            exact ⟨by first | rfl | exact ret_bool (by simp [hxa]), HW7.out⟩

end Go.Proofs.YteokigpeaggemaaDoor
