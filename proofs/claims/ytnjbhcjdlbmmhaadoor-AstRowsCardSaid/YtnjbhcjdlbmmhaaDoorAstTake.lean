/- What (kin).take and (kin).whole answer. Conditions: the flags lie in a block of their own, the kids below it. -/
import Derived.Test.YtnjbhcjdlbmmhaaDoorAstMem
import Derived.IntWalk
namespace Go.Proofs.YtnjbhcjdlbmmhaaDoor
open Go.RowKit
open Lx Ax

theorem takeF_cons (z : Int) (r : List Int) (k : List Bool) : takeF (z :: r) k = if 0 ≤ z ∧ k[z.toNat]? = some false then takeF r (k.set z.toNat true) else none := rfl
set_option maxRecDepth 10000 in
set_option maxHeartbeats 800000 in
theorem take_any (g n : Nat) (T : List Bool) (i : Nat) (v : Value) (zs : List Int) (w : World) (hi : i ≤ T.length) (hR : RowV w g 4 (flags T)) (hz : KidsAt n w v zs) (hn : n ≤ g) :
    Calls Tryd.prog 26 #[.slice (some ⟨g, 0, none⟩) T.length T.length, .int .i64 (i : Int), v] w fun e w' => e = .returned (.bool (takeF zs (T.take i)).isSome) ∧ (∃ T', RowV w' g 4 (flags T') ∧ T'.length = T.length ∧ ∀ k, takeF zs (T.take i) = some k → T' = k ++ T.drop i) ∧ Only g w w' := by
  obtain ⟨res, hres⟩ : ∃ r, takeF zs (T.take i) = r := ⟨_, rfl⟩
  rw [hres]
  have HRES := hid' hres
  have HR0 := hid' hR
  have HZ := hid' hz
  obtain ⟨ao, cap, rfl, ⟨hcap, hzl⟩, hcells⟩ := hz
  clear hres hR hcells
  go_enter Tryd.func26, Tryd.ntmps26
  go_wp2
  go_loopw [11] (fun c wr => ∃ (j : Nat) (T1 : List Bool), j ≤ zs.length ∧ c = .int .i64 j ∧ T1.length = T.length ∧ Hid (RowV wr g 4 (flags T1)) ∧ Hid (T1.drop i = T.drop i) ∧ Hid (res = takeF (zs.drop j) (T1.take i)) ∧ Hid (Only g w wr)) (fun c _ => zs.length - (intOf c).toNat)
  case atStart => exact ⟨0, T, Nat.zero_le _, rfl, rfl, HR0, hid' rfl, hid' HRES.out.symm, hid' (Only.refl _ _)⟩
  case round =>
    obtain ⟨j, T1, hj, rfl, hl1, hr1, hd1, ht1, ho1⟩ := hrel
    by_cases hlt : j < zs.length
    · obtain ⟨z, hzj⟩ : ∃ z, zs[j] = z := ⟨_, rfl⟩
      have ht2 := ht1.out
      rw [List.drop_eq_getElem_cons hlt, hzj, takeF_cons] at ht2
      obtain ⟨b, o, hao, hcz⟩ : ∃ b o, ao = some ⟨b, o, none⟩ ∧ wr.cell? ⟨b, o + j, none⟩ = some (.int .i64 z) := by
        obtain ⟨ao', cap', e, _, h2⟩ := HZ.out.keep (ho1.out.below (B := n) hn) (Nat.le_refl _)
        injection e with e1 e2 e3
        subst e1
        rcases h2 with h2 | ⟨b, o, e1, _, e3⟩
        · rw [h2] at hlt; simp at hlt
        · exact ⟨b, o, e1, e3 j z (by rw [List.getElem?_eq_getElem hlt, hzj])⟩
      subst hao
      by_cases h0 : z < 0
      · have hno : Hid (res = none) := hid' (by rw [ht2, if_neg (by omega)])
        clear ht1 ht2 hzj
        go_wp2
        go_ret
        exact ⟨ret_bool' (by rw [hno.out]; rfl), ⟨T1, hr1.out, hl1, fun k hk => by rw [hno.out] at hk; cases hk⟩, ho1.out⟩
      · obtain ⟨m, rfl⟩ : ∃ m : Nat, z = (m : Int) := ⟨z.toNat, by omega⟩
        by_cases hmi : m < i
        · have hm1 : m < T1.length := by omega
          have hmi' : ¬ (i : Int) ≤ (m : Int) := by omega
          obtain ⟨fl, hfl⟩ : ∃ fl, T1[m]? = some fl := ⟨_, List.getElem?_eq_getElem hm1⟩
          have hc := hr1.out.cell (flags_at hfl)
          have hop := hr1.out.open_ m
          have htk : (T1.take i)[m]? = some fl := by rw [List.getElem?_take, if_pos hmi, hfl]
          rw [Int.toNat_natCast, htk] at ht2
          cases fl with
          | true =>
            have hno : Hid (res = none) := hid' (by rw [ht2, if_neg (by simp)])
            clear ht1 ht2 hzj hfl htk
            go_wp2
            go_ret
            exact ⟨ret_bool' (by rw [hno.out]; rfl), ⟨T1, hr1.out, hl1, fun k hk => by rw [hno.out] at hk; cases hk⟩, ho1.out⟩
          | false =>
            have hyes : Hid (res = takeF (zs.drop (j + 1)) ((T1.set m true).take i)) := hid' (by rw [ht2, if_pos ⟨by omega, rfl⟩, List.take_set])
            have hd2 : Hid ((T1.set m true).drop i = T.drop i) := hid' (by rw [List.drop_set_of_lt hmi, hd1.out])
            have hr2 := hr1.out.set m (.bool true)
            rw [flags_set] at hr2
            have HR2 := hid' hr2
            have HO2 := hid' (ho1.out.set m (.bool true))
            have hl2 : (T1.set m true).length = T.length := by rw [List.length_set]; exact hl1
            clear ht1 ht2 hzj hfl htk hr2
            go_wp2
            go_roundw
            case rel => exact ⟨j + 1, T1.set m true, by omega, by go_num, hl2, HR2, hd2, hyes, HO2⟩
            case measure => simp [intOf]; omega
        · have hmi' : (i : Int) ≤ (m : Int) := by omega
          have hno : Hid (res = none) := hid' (by rw [ht2, if_neg (fun h => by
            have := (List.getElem?_eq_some_iff.1 h.2).1
            rw [List.length_take, Int.toNat_natCast] at this
            omega)])
          clear ht1 ht2 hzj
          go_wp2
          go_ret
          exact ⟨ret_bool' (by rw [hno.out]; rfl), ⟨T1, hr1.out, hl1, fun k hk => by rw [hno.out] at hk; cases hk⟩, ho1.out⟩
    · obtain rfl : j = zs.length := by omega
      have hyes : Hid (res = some (T1.take i)) := hid' (by rw [ht1.out, List.drop_eq_nil_of_le (Nat.le_refl _)]; rfl)
      clear ht1 hlt
      go_wp2
      go_ret
      refine ⟨ret_bool' (by rw [hyes.out]; rfl), ⟨T1, hr1.out, hl1, fun k hk => ?_⟩, ho1.out⟩
      rw [hyes.out] at hk
      injection hk with hk
      rw [← hk, ← hd1.out, List.take_append_drop]
/-- Where the first one lies that is not taken. -/
def freeI (T : List Bool) : Int := match T.findIdx? (· == false) with
  | some i => i
  | none => -1
theorem free_here {T : List Bool} {k : Nat} (h : ∀ j, j < k → T[j]? = some true) (hk : T[k]? = some false) : freeI T = (k : Int) := by
  have hl := (List.getElem?_eq_some_iff.1 hk).1
  have e : T.findIdx? (· == false) = some k := by
    rw [List.findIdx?_eq_some_iff_getElem]
    refine ⟨hl, ?_, fun j hj => ?_⟩
    · rw [(List.getElem?_eq_some_iff.1 hk).2]; rfl
    · have := h j hj
      rw [(List.getElem?_eq_some_iff.1 this).2]; simp
  unfold freeI; rw [e]
theorem free_none {T : List Bool} (h : ∀ j, j < T.length → T[j]? = some true) : freeI T = -1 := by
  have e : T.findIdx? (· == false) = none := by
    rw [List.findIdx?_eq_none_iff]
    intro x hx
    obtain ⟨j, hj, rfl⟩ := List.getElem_of_mem hx
    have := h j hj
    rw [(List.getElem?_eq_some_iff.1 this).2]; rfl
  unfold freeI; rw [e]
theorem free_all (T : List Bool) : (freeI T < 0) ↔ T.all id = true := by
  unfold freeI
  cases h : T.findIdx? (· == false) with
  | none =>
    rw [List.findIdx?_eq_none_iff] at h
    simp only [List.all_eq_true, id]
    refine ⟨fun _ x hx => ?_, fun _ => by decide⟩
    have := h x hx
    cases x <;> simp_all
  | some i =>
    rw [List.findIdx?_eq_some_iff_getElem] at h
    obtain ⟨hl, h1, _⟩ := h
    refine ⟨fun h => absurd h (by simp), fun h2 => ?_⟩
    have := List.all_eq_true.1 h2 _ (List.getElem_mem hl)
    simp only [id] at this
    rw [this] at h1
    cases h1
set_option maxRecDepth 10000 in
set_option maxHeartbeats 400000 in
theorem index_any (g cap N : Nat) (T : List Bool) (w : World) (hN : N = T.length) (hl : T.length ≤ 1048576) (hR : ∀ (j : Nat) b, T[j]? = some b → w.cell? ⟨g, j, none⟩ = some (.bool b)) :
    Calls Tryd.prog 43 #[.slice (some ⟨g, 0, none⟩) N cap, .bool false] w fun e w' => e = .returned (.int .i64 (freeI T)) ∧ w' = w := by
  subst hN
  obtain ⟨res, hres⟩ : ∃ r, freeI T = r := ⟨_, rfl⟩
  rw [hres]
  have HRES := hid' hres
  have HR := hid' hR
  clear hres hR
  go_enter Tryd.func43, Tryd.ntmps43
  go_wp2
  go_loop [8] (fun c => ∃ j : Nat, j ≤ T.length ∧ c = .int .i64 j ∧ Hid (∀ i, i < j → T[i]? = some true)) (fun c => T.length - (intOf c).toNat)
  case atStart => exact ⟨0, Nat.zero_le _, rfl, hid' (fun i hi => absurd hi (by omega))⟩
  case round =>
    obtain ⟨j, hj, rfl, hb⟩ := hrel
    by_cases hlt : j < T.length
    · have hjt := List.getElem?_eq_getElem hlt
      have hc := HR.out j _ hjt
      obtain ⟨fl, hfl⟩ : ∃ fl, T[j] = fl := ⟨_, rfl⟩
      rw [hfl] at hc hjt
      cases fl with
      | true =>
        have hb2 : Hid (∀ i, i < j + 1 → T[i]? = some true) := hid' (fun i hi => by
          by_cases e : i = j
          · rw [e]; exact hjt
          · exact hb.out i (by omega))
        clear hfl hjt hb
        go_wp2
        go_round
        case rel => exact ⟨j + 1, by omega, by go_num, hb2⟩
        case measure => simp [intOf]; omega
      | false =>
        have hend : Hid ((j : Int) = res) := hid' (by rw [← HRES.out]; exact (free_here hb.out hjt).symm)
        clear hfl hjt hb
        go_wp2
        go_ret
        exact ⟨ret_i hend.out, rfl⟩
    · obtain rfl : j = T.length := by omega
      have hend : Hid (res = -1) := hid' (by rw [← HRES.out]; exact free_none hb.out)
      clear hb hlt
      go_wp2
      go_ret
      exact ⟨ret_i hend.out.symm, rfl⟩
set_option maxRecDepth 10000 in
set_option maxHeartbeats 400000 in
theorem contains_any (g cap N : Nat) (T : List Bool) (w : World) (hN : N = T.length) (hl : T.length ≤ 1048576) (hR : ∀ (j : Nat) b, T[j]? = some b → w.cell? ⟨g, j, none⟩ = some (.bool b)) :
    Calls Tryd.prog 30 #[.slice (some ⟨g, 0, none⟩) N cap, .bool false] w fun e w' => e = .returned (.bool (!T.all id)) ∧ w' = w := by
  have HI := hid' (index_any g cap N T w hN hl hR)
  have HA := hid' (free_all T)
  generalize freeI T = r at HI HA
  generalize T.all id = al at HA ⊢
  clear hR hN hl
  go_enter Tryd.func30, Tryd.ntmps30
  go_wp2_with fail
  refine (HI.out).mono ?_
  rintro e w1 ⟨rfl, rfl⟩
  go_wp2
  go_ret
  refine ⟨ret_bool' ?_, rfl⟩
  have := HA.out
  cases al with
  | true => exact decide_eq_false (by have := this.2 rfl; omega)
  | false =>
    refine decide_eq_true ?_
    rcases Int.lt_or_le r 0 with h | h
    · exact absurd (this.1 h) (by decide)
    · exact h
set_option maxRecDepth 10000 in
set_option maxHeartbeats 400000 in
theorem whole_any (g : Nat) (T : List Bool) (w : World) (hl : T.length ≤ 1048576) (hR : RowV w g 4 (flags T)) :
    Calls Tryd.prog 19 #[.slice (some ⟨g, 0, none⟩) T.length T.length] w fun e w' => e = .returned (.bool (wholeF T)) ∧ w' = w := by
  unfold wholeF
  by_cases h0 : T = []
  · subst h0
    go_enter Tryd.func19, Tryd.ntmps19
    go_wp2
    go_ret
    exact ⟨rfl, rfl⟩
  · have hp := List.length_pos_iff.2 h0
    have hp' : (0 : Int) < (T.length : Int) := by omega
    have he : T.isEmpty = false := by simpa using h0
    have hm : (T.length : Int) - 1 = ((T.length - 1 : Nat) : Int) := by omega
    have hw : IntKind.i64.wrap ((T.length : Int) - 1) = (T.length : Int) - 1 := IntWalk.i64_in _ ⟨by omega, by omega⟩
    have HC := hid' (contains_any g T.length (T.length - 1) T.dropLast w (by rw [List.length_dropLast]) (by rw [List.length_dropLast]; omega) (fun j b hj => by
      rw [List.getElem?_dropLast] at hj
      split at hj
      · exact hR.cell (flags_at hj)
      · cases hj))
    rw [he]
    generalize T.dropLast.all id = al at HC ⊢
    have k1 : T.length - 1 ≤ T.length := by omega
    clear hR he h0 hw
    go_enter Tryd.func19, Tryd.ntmps19
    go_wp2_with fail
    refine (HC.out).mono ?_
    rintro e w1 ⟨rfl, rfl⟩
    go_wp2
    go_ret
    exact ⟨by first | rfl | exact ret_bool' (by simp), rfl⟩
end Go.Proofs.YtnjbhcjdlbmmhaaDoor
