/- Parts of the proof, together. What (kin).take and (kin).whole answer. Conditions: the flags lie in a block of their own, the kids below it. What (*former).all and (*former).are answer. Conditions: the kids lie ahead; the sorts lie in a block of their own. What ast's isNumber answers. Conditions: short texts. What saysRight and (*former).sortOf answer, for those Ops. Conditions: short texts; the words lie in their variable. What (*former).expressionHas, statementHas and hasRight answer, for those Ops. Conditions: the kids lie ahead; the sorts lie in a block of their own. What ast's isTree answers. Conditions: the nodes lie below the world's end; at most 2^20. -/
import Derived.IntWalk
import Derived.Test.YtpjjofdphlgeiaaGreatDoorVvar
import Derived.Test.YtpjjofdphlgeiaaGreatDoorVvaf
import Derived.Test.YtpjjofdphlgeiaaGreatDoorVvan
namespace Go.Proofs.YtpjjofdphlgeiaaGreatDoor
open Go.RowKit
open Lx Ax

theorem takeF_cons (z : Int) (r : List Int) (k : List Bool) : takeF (z :: r) k = if 0 ≤ z ∧ k[z.toNat]? = some false then takeF r (k.set z.toNat true) else none := rfl
set_option maxRecDepth 10000 in
set_option maxHeartbeats 800000 in
theorem take_any (g n : Nat) (T : List Bool) (i : Nat) (v : Value) (zs : List Int) (w : World) (hi : i ≤ T.length) (hR : RowV w g 4 (flags T)) (hz : KidsAt n w v zs) (hn : n ≤ g) :
    Calls Tryz.prog 37 #[.slice (some ⟨g, 0, none⟩) T.length T.length, .int .i64 (i : Int), v] w fun e w' => e = .returned (.bool (takeF zs (T.take i)).isSome) ∧ (∃ T', RowV w' g 4 (flags T') ∧ T'.length = T.length ∧ ∀ k, takeF zs (T.take i) = some k → T' = k ++ T.drop i) ∧ Only g w w' := by
  obtain ⟨res, hres⟩ : ∃ r, takeF zs (T.take i) = r := ⟨_, rfl⟩
  rw [hres]
  have HRES := hid' hres
  have HR0 := hid' hR
  have HZ := hid' hz
  obtain ⟨ao, cap, rfl, ⟨hcap, hzl⟩, hcells⟩ := hz
  clear hres hR hcells
  go_enter Tryz.func37, Tryz.ntmps37
  go_wp2
  go_loopw [11] (fun c wr => ∃ (j : Nat) (T1 : List Bool), j ≤ zs.length ∧ c = .int .i64 j ∧ T1.length = T.length ∧ Hid (RowV wr g 4 (flags T1)) ∧ Hid (T1.drop i = T.drop i) ∧ Hid (res = takeF (zs.drop j) (T1.take i)) ∧ Hid (Only g w wr)) (fun c _ => zs.length - (intOf c).toNat)
  case atStart => exact ⟨0, T, Nat.zero_le _, rfl, rfl, HR0, hid' rfl, hid' HRES.out.symm, hid' (Only.refl _ _)⟩
  case round =>
    obtain ⟨j, T1, hj, rfl, hl1, hr1, hd1, ht1, ho1⟩ := hrel
    by_cases hlt : j < zs.length
    · obtain ⟨z, hzj⟩ : ∃ z, zs[j] = z := ⟨_, rfl⟩
      have ht2 := ht1.out
      rw [List.drop_eq_getElem_cons hlt, hzj, takeF_cons] at ht2
      obtain ⟨b, o, hao, hcz⟩ : ∃ b o, ao = some ⟨b, o, none⟩ ∧ wr.cell? ⟨b, o + j, none⟩ = some (.int .i64 z) := by
        obtain ⟨ao', cap', e, _, h2⟩ := HZ.out.keep (ho1.out.below (B := n) hn) (Nat.le_refl _)
        injection e with e1 e2 e3
        subst e1
        rcases h2 with h2 | ⟨b, o, e1, _, e3⟩
        · rw [h2] at hlt; simp at hlt
        · exact ⟨b, o, e1, e3 j z (by rw [List.getElem?_eq_getElem hlt, hzj])⟩
      subst hao
      by_cases h0 : z < 0
      · have hno : Hid (res = none) := hid' (by rw [ht2, if_neg (by omega)])
        clear ht1 ht2 hzj
        go_wp2
        go_ret
        exact ⟨ret_bool' (by rw [hno.out]; rfl), ⟨T1, hr1.out, hl1, fun k hk => by rw [hno.out] at hk; cases hk⟩, ho1.out⟩
      · obtain ⟨m, rfl⟩ : ∃ m : Nat, z = (m : Int) := ⟨z.toNat, by omega⟩
        by_cases hmi : m < i
        · have hm1 : m < T1.length := by omega
          have hmi' : ¬ (i : Int) ≤ (m : Int) := by omega
          obtain ⟨fl, hfl⟩ : ∃ fl, T1[m]? = some fl := ⟨_, List.getElem?_eq_getElem hm1⟩
          have hc := hr1.out.cell (flags_at hfl)
          have hop := hr1.out.open_ m
          have htk : (T1.take i)[m]? = some fl := by rw [List.getElem?_take, if_pos hmi, hfl]
          rw [Int.toNat_natCast, htk] at ht2
          cases fl with
          | true =>
            have hno : Hid (res = none) := hid' (by rw [ht2, if_neg (by simp)])
            clear ht1 ht2 hzj hfl htk
            go_wp2
            go_ret
            exact ⟨ret_bool' (by rw [hno.out]; rfl), ⟨T1, hr1.out, hl1, fun k hk => by rw [hno.out] at hk; cases hk⟩, ho1.out⟩
          | false =>
            have hyes : Hid (res = takeF (zs.drop (j + 1)) ((T1.set m true).take i)) := hid' (by rw [ht2, if_pos ⟨by omega, rfl⟩, List.take_set])
            have hd2 : Hid ((T1.set m true).drop i = T.drop i) := hid' (by rw [List.drop_set_of_lt hmi, hd1.out])
            have hr2 := hr1.out.set m (.bool true)
            rw [flags_set] at hr2
            have HR2 := hid' hr2
            have HO2 := hid' (ho1.out.set m (.bool true))
            have hl2 : (T1.set m true).length = T.length := by rw [List.length_set]; exact hl1
            clear ht1 ht2 hzj hfl htk hr2
            go_wp2
            go_roundw
            case rel => exact ⟨j + 1, T1.set m true, by omega, by go_num, hl2, HR2, hd2, hyes, HO2⟩
            case measure => simp [intOf]; omega
        · have hmi' : (i : Int) ≤ (m : Int) := by omega
          have hno : Hid (res = none) := hid' (by rw [ht2, if_neg (fun h => by
            have := (List.getElem?_eq_some_iff.1 h.2).1
            rw [List.length_take, Int.toNat_natCast] at this
            omega)])
          clear ht1 ht2 hzj
          go_wp2
          go_ret
          exact ⟨ret_bool' (by rw [hno.out]; rfl), ⟨T1, hr1.out, hl1, fun k hk => by rw [hno.out] at hk; cases hk⟩, ho1.out⟩
    · obtain rfl : j = zs.length := by omega
      have hyes : Hid (res = some (T1.take i)) := hid' (by rw [ht1.out, List.drop_eq_nil_of_le (Nat.le_refl _)]; rfl)
      clear ht1 hlt
      go_wp2
      go_ret
      refine ⟨ret_bool' (by rw [hyes.out]; rfl), ⟨T1, hr1.out, hl1, fun k hk => ?_⟩, ho1.out⟩
      rw [hyes.out] at hk
      injection hk with hk
      rw [← hk, ← hd1.out, List.take_append_drop]
/-- Where the first one lies that is not taken. -/
def freeI (T : List Bool) : Int := match T.findIdx? (· == false) with
  | some i => i
  | none => -1
theorem free_here {T : List Bool} {k : Nat} (h : ∀ j, j < k → T[j]? = some true) (hk : T[k]? = some false) : freeI T = (k : Int) := by
  have hl := (List.getElem?_eq_some_iff.1 hk).1
  have e : T.findIdx? (· == false) = some k := by
    rw [List.findIdx?_eq_some_iff_getElem]
    refine ⟨hl, ?_, fun j hj => ?_⟩
    · rw [(List.getElem?_eq_some_iff.1 hk).2]; rfl
    · have := h j hj
      rw [(List.getElem?_eq_some_iff.1 this).2]; simp
  unfold freeI; rw [e]
theorem free_none {T : List Bool} (h : ∀ j, j < T.length → T[j]? = some true) : freeI T = -1 := by
  have e : T.findIdx? (· == false) = none := by
    rw [List.findIdx?_eq_none_iff]
    intro x hx
    obtain ⟨j, hj, rfl⟩ := List.getElem_of_mem hx
    have := h j hj
    rw [(List.getElem?_eq_some_iff.1 this).2]; rfl
  unfold freeI; rw [e]
theorem free_all (T : List Bool) : (freeI T < 0) ↔ T.all id = true := by
  unfold freeI
  cases h : T.findIdx? (· == false) with
  | none =>
    rw [List.findIdx?_eq_none_iff] at h
    simp only [List.all_eq_true, id]
    refine ⟨fun _ x hx => ?_, fun _ => by decide⟩
    have := h x hx
    cases x <;> simp_all
  | some i =>
    rw [List.findIdx?_eq_some_iff_getElem] at h
    obtain ⟨hl, h1, _⟩ := h
    refine ⟨fun h => absurd h (by simp), fun h2 => ?_⟩
    have := List.all_eq_true.1 h2 _ (List.getElem_mem hl)
    simp only [id] at this
    rw [this] at h1
    cases h1
set_option maxRecDepth 10000 in
set_option maxHeartbeats 400000 in
theorem index_any (g cap N : Nat) (T : List Bool) (w : World) (hN : N = T.length) (hl : T.length ≤ 1048576) (hR : ∀ (j : Nat) b, T[j]? = some b → w.cell? ⟨g, j, none⟩ = some (.bool b)) :
    Calls Tryz.prog 64 #[.slice (some ⟨g, 0, none⟩) N cap, .bool false] w fun e w' => e = .returned (.int .i64 (freeI T)) ∧ w' = w := by
  subst hN
  obtain ⟨res, hres⟩ : ∃ r, freeI T = r := ⟨_, rfl⟩
  rw [hres]
  have HRES := hid' hres
  have HR := hid' hR
  clear hres hR
  go_enter Tryz.func64, Tryz.ntmps64
  go_wp2
  go_loop [8] (fun c => ∃ j : Nat, j ≤ T.length ∧ c = .int .i64 j ∧ Hid (∀ i, i < j → T[i]? = some true)) (fun c => T.length - (intOf c).toNat)
  case atStart => exact ⟨0, Nat.zero_le _, rfl, hid' (fun i hi => absurd hi (by omega))⟩
  case round =>
    obtain ⟨j, hj, rfl, hb⟩ := hrel
    by_cases hlt : j < T.length
    · have hjt := List.getElem?_eq_getElem hlt
      have hc := HR.out j _ hjt
      obtain ⟨fl, hfl⟩ : ∃ fl, T[j] = fl := ⟨_, rfl⟩
      rw [hfl] at hc hjt
      cases fl with
      | true =>
        have hb2 : Hid (∀ i, i < j + 1 → T[i]? = some true) := hid' (fun i hi => by
          by_cases e : i = j
          · rw [e]; exact hjt
          · exact hb.out i (by omega))
        clear hfl hjt hb
        go_wp2
        go_round
        case rel => exact ⟨j + 1, by omega, by go_num, hb2⟩
        case measure => simp [intOf]; omega
      | false =>
        have hend : Hid ((j : Int) = res) := hid' (by rw [← HRES.out]; exact (free_here hb.out hjt).symm)
        clear hfl hjt hb
        go_wp2
        go_ret
        exact ⟨ret_i hend.out, rfl⟩
    · obtain rfl : j = T.length := by omega
      have hend : Hid (res = -1) := hid' (by rw [← HRES.out]; exact free_none hb.out)
      clear hb hlt
      go_wp2
      go_ret
      exact ⟨ret_i hend.out.symm, rfl⟩
set_option maxRecDepth 10000 in
set_option maxHeartbeats 400000 in
theorem contains_any (g cap N : Nat) (T : List Bool) (w : World) (hN : N = T.length) (hl : T.length ≤ 1048576) (hR : ∀ (j : Nat) b, T[j]? = some b → w.cell? ⟨g, j, none⟩ = some (.bool b)) :
    Calls Tryz.prog 41 #[.slice (some ⟨g, 0, none⟩) N cap, .bool false] w fun e w' => e = .returned (.bool (!T.all id)) ∧ w' = w := by
  have HI := hid' (index_any g cap N T w hN hl hR)
  have HA := hid' (free_all T)
  generalize freeI T = r at HI HA
  generalize T.all id = al at HA ⊢
  clear hR hN hl
  go_enter Tryz.func41, Tryz.ntmps41
  go_wp2_with fail
  refine (HI.out).mono ?_
  rintro e w1 ⟨rfl, rfl⟩
  go_wp2
  go_ret
  refine ⟨ret_bool' ?_, rfl⟩
  have := HA.out
  cases al with
  | true => exact decide_eq_false (by have := this.2 rfl; omega)
  | false =>
    refine decide_eq_true ?_
    rcases Int.lt_or_le r 0 with h | h
    · exact absurd (this.1 h) (by decide)
    · exact h
set_option maxRecDepth 10000 in
set_option maxHeartbeats 400000 in
theorem whole_any (g : Nat) (T : List Bool) (w : World) (hl : T.length ≤ 1048576) (hR : RowV w g 4 (flags T)) :
    Calls Tryz.prog 22 #[.slice (some ⟨g, 0, none⟩) T.length T.length] w fun e w' => e = .returned (.bool (wholeF T)) ∧ w' = w := by
  unfold wholeF
  by_cases h0 : T = []
  · subst h0
    go_enter Tryz.func22, Tryz.ntmps22
    go_wp2
    go_ret
    exact ⟨rfl, rfl⟩
  · have hp := List.length_pos_iff.2 h0
    have hp' : (0 : Int) < (T.length : Int) := by omega
    have he : T.isEmpty = false := by simpa using h0
    have hm : (T.length : Int) - 1 = ((T.length - 1 : Nat) : Int) := by omega
    have hw : IntKind.i64.wrap ((T.length : Int) - 1) = (T.length : Int) - 1 := IntWalk.i64_in _ ⟨by omega, by omega⟩
    have HC := hid' (contains_any g T.length (T.length - 1) T.dropLast w (by rw [List.length_dropLast]) (by rw [List.length_dropLast]; omega) (fun j b hj => by
      rw [List.getElem?_dropLast] at hj
      split at hj
      · exact hR.cell (flags_at hj)
      · cases hj))
    rw [he]
    generalize T.dropLast.all id = al at HC ⊢
    have k1 : T.length - 1 ≤ T.length := by omega
    clear hR he h0 hw
    go_enter Tryz.func22, Tryz.ntmps22
    go_wp2_with fail
    refine (HC.out).mono ?_
    rintro e w1 ⟨rfl, rfl⟩
    go_wp2
    go_ret
    exact ⟨by first | rfl | exact ret_bool' (by simp), rfl⟩
end Go.Proofs.YtpjjofdphlgeiaaGreatDoor

namespace Go.Proofs.YtpjjofdphlgeiaaGreatDoor
open Go.RowKit
open Lx Ax

theorem drewN_cell (w : World) (q : Nat) (a : Addr) : (w.drewN q).cell? a = w.cell? a := rfl
section
variable {W : World} {n fb gs : Nat} {S : List Int}
theorem kid_at {v : Value} {zs : List Int} (h : KidsAt n W v zs) {j : Nat} (hj : j < zs.length) : ∃ b o cap, v = .slice (some ⟨b, o, none⟩) zs.length cap ∧ zs.length ≤ cap ∧ W.cell? ⟨b, o + j, none⟩ = some (.int .i64 zs[j]) := by
  obtain ⟨ao, cap, e, h1, h2⟩ := h
  rcases h2 with h2 | ⟨b, o, rfl, _, e3⟩
  · rw [h2] at hj; simp at hj
  · exact ⟨b, o, cap, e, h1.1, e3 j _ (List.getElem?_eq_getElem hj)⟩
set_option maxRecDepth 10000 in
set_option maxHeartbeats 400000 in
theorem kall_any (hf : W.cell? ⟨fb, 2, none⟩ = some (.slice (some ⟨gs, 0, none⟩) S.length S.length)) (hS : RowV W gs 81 (sorts S)) (v : Value) (zs : List Int) (hz : KidsAt n W v zs) (hr : ∀ z ∈ zs, 0 ≤ z ∧ z < S.length) (s : Int) :
    Calls Tryz.prog 63 #[.pointer (some ⟨fb, 0, none⟩), v, .int .u16 s] W fun e w' => e = .returned (.bool (allF S s zs)) ∧ w' = W := by
  obtain ⟨res, hres⟩ : ∃ r, allF S s zs = r := ⟨_, rfl⟩
  rw [hres]
  have HRES := hid' hres
  have HZ := hid' hz
  have HR := hid' hr
  have HS := hid' hS
  obtain ⟨ao, cap, rfl, ⟨hcap, hzl⟩, _⟩ := hz
  clear hres hr hS
  go_enter Tryz.func63, Tryz.ntmps63
  go_wp2
  go_loop [11] (fun c => ∃ j : Nat, j ≤ zs.length ∧ c = .int .i64 j ∧ Hid (res = allF S s (zs.drop j))) (fun c => zs.length - (intOf c).toNat)
  case atStart => exact ⟨0, Nat.zero_le _, rfl, hid' HRES.out.symm⟩
  case round =>
    obtain ⟨j, hj, rfl, ht⟩ := hrel
    by_cases hlt : j < zs.length
    · have hlt' : (j : Int) < (zs.length : Int) := by omega
      have ht2 := ht.out
      rw [List.drop_eq_getElem_cons hlt, allF] at ht2
      obtain ⟨b, o, cap', e, _, hc⟩ := kid_at HZ.out hlt
      injection e with e1 e2 e3
      subst e1 e3
      clear e2
      have hzr := HR.out _ (List.getElem_mem hlt)
      generalize zs[j] = z at ht2 hc hzr
      obtain ⟨m, rfl⟩ : ∃ m : Nat, z = (m : Int) := ⟨z.toNat, by omega⟩
      have hm : m < S.length := by omega
      have hcs := HS.out.cell (sorts_at (List.getElem?_eq_getElem hm))
      rw [Int.toNat_natCast, List.getD_eq_getElem?_getD, List.getElem?_eq_getElem hm, Option.getD_some] at ht2
      unfold okS at ht2
      generalize S[m] = x at hcs ht2
      obtain ⟨bb, hbb⟩ : ∃ bb, bits BinOp.and IntKind.u16 x s = bb := ⟨_, rfl⟩
      rw [hbb] at ht2
      by_cases h0 : bb = 0
      · have hend : Hid (false = res) := hid' (by rw [ht2, h0]; rfl)
        subst h0
        clear ht ht2
        go_wp2
        go_ret
        exact ⟨ret_bool' hend.out, rfl⟩
      · have h0' : (bb == 0) = false := by simpa using h0
        have ht3 : Hid (res = allF S s (zs.drop (j + 1))) := hid' (by rw [ht2, h0']; rfl)
        clear ht ht2 h0
        go_wp2
        go_round
        case rel => exact ⟨j + 1, by omega, by go_num, ht3⟩
        case measure => simp [intOf]; omega
    · obtain rfl : j = zs.length := by omega
      have hend : Hid (true = res) := hid' (by rw [ht.out, List.drop_eq_nil_of_le (Nat.le_refl _)]; rfl)
      clear ht hlt
      go_wp2
      go_ret
      exact ⟨ret_bool' hend.out, rfl⟩
/-- The sorts that kids are held against. -/
def SortsAt (W : World) (v : Value) (ss : List Int) : Prop := ∃ ao, v = .slice ao ss.length ss.length ∧ ss.length ≤ 4 ∧ (ss = [] ∨ ∃ b, ao = some ⟨b, 0, none⟩ ∧ ∀ (j : Nat) s, ss[j]? = some s → W.cell? ⟨b, j, none⟩ = some (.int .u16 s))
set_option maxRecDepth 10000 in
set_option maxHeartbeats 400000 in
theorem are_any (hf : W.cell? ⟨fb, 2, none⟩ = some (.slice (some ⟨gs, 0, none⟩) S.length S.length)) (hS : RowV W gs 81 (sorts S)) (v : Value) (zs : List Int) (hz : KidsAt n W v zs) (hr : ∀ z ∈ zs, 0 ≤ z ∧ z < S.length) (u : Value) (ss : List Int) (hu : SortsAt W u ss) :
    Calls Tryz.prog 86 #[.pointer (some ⟨fb, 0, none⟩), v, u] W fun e w' => e = .returned (.bool (areF S zs ss)) ∧ ∃ q, w' = W.drewN q := by
  obtain ⟨res, hres⟩ : ∃ r, areF S zs ss = r := ⟨_, rfl⟩
  rw [hres]
  have HRES := hid' hres
  have HZ := hid' hz
  have HR := hid' hr
  have HS := hid' hS
  have HU := hid' hu
  obtain ⟨ao, cap, rfl, ⟨hcap, hzl⟩, _⟩ := hz
  obtain ⟨uo, rfl, hul, _⟩ := hu
  by_cases hne : zs.length = ss.length
  · have hne' : (zs.length : Int) = (ss.length : Int) := by omega
    clear hres hr hS hne
    go_enter Tryz.func86, Tryz.ntmps86
    go_wp2
    go_loopw [16] (fun c wr => ∃ j q : Nat, j ≤ zs.length ∧ c = .int .i64 j ∧ Hid (res = areF S (zs.drop j) (ss.drop j)) ∧ wr = W.drewN q) (fun c _ => zs.length - (intOf c).toNat)
    case atStart => exact ⟨0, 0, Nat.zero_le _, rfl, hid' HRES.out.symm, rfl⟩
    case round =>
      obtain ⟨j, q, hj, rfl, ht, rfl⟩ := hrel
      by_cases hlt : j < zs.length
      · have hlt' : (j : Int) < (zs.length : Int) := by omega
        have hls : j < ss.length := by omega
        have hls' : (j : Int) < (ss.length : Int) := by omega
        have ht2 := ht.out
        rw [List.drop_eq_getElem_cons hlt, List.drop_eq_getElem_cons hls, areF] at ht2
        obtain ⟨b, o, cap', e, _, hc⟩ := kid_at HZ.out hlt
        injection e with e1 e2 e3
        subst e1 e3
        clear e2
        obtain ⟨ub, huo, hcu⟩ : ∃ b, uo = some ⟨b, 0, none⟩ ∧ W.cell? ⟨b, j, none⟩ = some (.int .u16 ss[j]) := by
          obtain ⟨uo', e, _, h2⟩ := HU.out
          injection e with e1 _ _
          subst e1
          rcases h2 with h2 | ⟨b, e1, e3⟩
          · rw [h2] at hls; simp at hls
          · exact ⟨b, e1, e3 j _ (List.getElem?_eq_getElem hls)⟩
        subst huo
        have hzr := HR.out _ (List.getElem_mem hlt)
        generalize zs[j] = z at ht2 hc hzr
        generalize ss[j] = s at ht2 hcu
        obtain ⟨m, rfl⟩ : ∃ m : Nat, z = (m : Int) := ⟨z.toNat, by omega⟩
        have hm : m < S.length := by omega
        have hcs := HS.out.cell (sorts_at (List.getElem?_eq_getElem hm))
        rw [Int.toNat_natCast, List.getD_eq_getElem?_getD, List.getElem?_eq_getElem hm, Option.getD_some] at ht2
        unfold okS at ht2
        generalize S[m] = x at hcs ht2
        obtain ⟨bb, hbb⟩ : ∃ bb, bits BinOp.and IntKind.u16 x s = bb := ⟨_, rfl⟩
        rw [hbb] at ht2
        have hf' : (W.drewN q).cell? ⟨fb, 2, none⟩ = some (.slice (some ⟨gs, 0, none⟩) S.length S.length) := hf
        by_cases h0 : bb = 0
        · have hend : Hid (false = res) := hid' (by rw [ht2, h0]; rfl)
          subst h0
          clear ht ht2
          go_wp2_with fail
          go_quiet (fail)
          go_wp2
          go_ret
          exact ⟨ret_bool' hend.out, _, by first | exact World.drewN_drewN .. | rfl⟩
        · have h0' : (bb == 0) = false := by simpa using h0
          have ht3 : Hid (res = areF S (zs.drop (j + 1)) (ss.drop (j + 1))) := hid' (by rw [ht2, h0']; rfl)
          clear ht ht2 h0
          go_wp2_with fail
          go_quiet (fail)
          go_wp2
          go_roundw
          case rel => exact ⟨j + 1, q + nq, by omega, by go_num, ht3, rfl⟩
          case measure => simp [intOf]; omega
      · obtain rfl : j = zs.length := by omega
        have hend : Hid (true = res) := hid' (by rw [ht.out, List.drop_eq_nil_of_le (Nat.le_refl _), List.drop_eq_nil_of_le (by omega)]; rfl)
        clear ht hlt
        go_wp2
        go_ret
        exact ⟨ret_bool' hend.out, _, by first | exact World.drewN_drewN .. | rfl⟩
  · have hne' : ((zs.length : Int) == (ss.length : Int)) = false := by simpa using fun h => hne (by omega)
    have hne2 : ((zs.length : Int) != (ss.length : Int)) = true := by simpa using fun h => hne (by omega)
    have hend : Hid (false = res) := hid' (by
      rw [← hres]
      have : ∀ (a b : List Int), a.length ≠ b.length → areF S a b = false := by
        intro a
        induction a with
        | nil => intro b h; cases b with | nil => simp at h | cons y b => rfl
        | cons x a ih => intro b h; cases b with | nil => rfl | cons y b => simp only [areF]; rw [ih b (by simpa using h)]; simp
      exact (this _ _ hne).symm)
    clear hres hr hS hne
    go_enter Tryz.func86, Tryz.ntmps86
    go_wp2
    go_ret
    exact ⟨ret_bool' hend.out, 0, rfl⟩
end
end Go.Proofs.YtpjjofdphlgeiaaGreatDoor

namespace Go.Proofs.YtpjjofdphlgeiaaGreatDoor
open Go.RowKit
open Lx Ax

set_option maxRecDepth 10000 in
set_option maxHeartbeats 800000 in
theorem isNumber_any (s : ByteArray) (hs : s.size ≤ 1000000) (w : World) : Calls Tryz.prog 59 #[.string s] w fun e w' => e = .returned (.bool (numB s.data.toList)) ∧ w' = w := by
  obtain ⟨r, hr⟩ : ∃ r, numB s.data.toList = r := ⟨_, rfl⟩
  rw [hr]
  have HR := hid' hr
  clear hr
  go_enter Tryz.func59, Tryz.ntmps59
  go_wp2
  go_loop [6] (fun c => ∃ k : Nat, k ≤ s.size ∧ c = .int .i64 k ∧ Hid (s.data.toList.all dg = (s.data.toList.drop k).all dg)) (fun c => s.size - (intOf c).toNat)
  case atStart => exact ⟨0, Nat.zero_le _, rfl, hid' (by simp)⟩
  case round =>
    obtain ⟨k, hk, rfl, hrest⟩ := hrel
    by_cases hlt : k < s.size
    · have hat := drop_at s k hlt
      have hrest2 := hrest.out
      rw [hat, List.all_cons] at hrest2
      have hd := dg_iff s[k]
      have hlt' : (k : Int) < (s.size : Int) := by omega
      by_cases h1 : 48 ≤ (s[k].toNat : Int)
      · by_cases h2 : (s[k].toNat : Int) ≤ 57
        · have hrest' : Hid (s.data.toList.all dg = (s.data.toList.drop (k + 1)).all dg) := hid' (by rw [hrest2, hd, decide_eq_true ⟨h1, h2⟩, Bool.true_and])
          clear hrest hat hd hrest2
          go_wp2
          go_round
          case rel => exact ⟨k + 1, by omega, by go_num, hrest'⟩
          case measure => simp [intOf]; omega
        · have hend : Hid (false = r) := hid' (by rw [← HR.out, numB, hrest2, hd, decide_eq_false (fun h => h2 h.2)]; rfl)
          clear hrest hat hd hrest2
          go_wp2
          go_ret
          exact ⟨ret_bool' hend.out, rfl⟩
      · have hend : Hid (false = r) := hid' (by rw [← HR.out, numB, hrest2, hd, decide_eq_false (fun h => h1 h.1)]; rfl)
        have h1' : (s[k].toNat : Int) < 48 := by omega
        clear hrest hat hd hrest2 h1
        go_wp2
        go_ret
        exact ⟨ret_bool' hend.out, rfl⟩
    · obtain rfl : k = s.size := by omega
      have hall : s.data.toList.all dg = true := by rw [hrest.out, List.drop_eq_nil_of_le (by simp)]; rfl
      by_cases h0 : s.data.toList = [48]
      · have hend : Hid (true = r) := hid' (by rw [← HR.out, numB, hall, h0]; rfl)
        have hq : (s.toList == [48]) = true := by rw [ByteArray.toList_eq, h0]; rfl
        clear hrest hall h0 hlt
        go_wp2
        go_ret
        exact ⟨ret_bool' hend.out, rfl⟩
      · have hq : (s.toList == [48]) = false := by rw [ByteArray.toList_eq]; simpa using h0
        have hnm : numB s.data.toList = (!s.data.toList.isEmpty && s.data.toList.headD 0 != 48 && decide (s.data.toList.length ≤ 600)) := by
          rw [numB, hall, show (s.data.toList == [48]) = false by simpa using h0]; rfl
        by_cases he : s.size = 0
        · have hnil : s.data.toList = [] := by apply List.eq_nil_of_length_eq_zero; rw [Array.length_toList]; exact he
          have he' : s.toList.isEmpty = true := by rw [ByteArray.toList_eq, hnil]; rfl
          have hend : Hid (false = r) := hid' (by rw [← HR.out, hnm, hnil]; rfl)
          clear hrest hall h0 hlt hnm hnil
          go_wp2
          go_ret
          exact ⟨ret_bool' hend.out, rfl⟩
        · have hpos : 0 < s.size := by omega
          have hcons : s.data.toList = s[0] :: s.data.toList.drop 1 := by have := drop_at s 0 hpos; rwa [List.drop_zero] at this
          have he' : s.toList.isEmpty = false := by rw [ByteArray.toList_eq, hcons]; rfl
          have hlen : s.data.toList.length = s.size := by rw [Array.length_toList]; rfl
          have hidx : ∀ W, (Instr.index 9 (.string s) (.int .i64 0)).run Tryz.prog W = .ok (.int .u8 (s[0].toNat : Int)) W := fun W => by go_simp
          have hnm2 : numB s.data.toList = (s[0] != 48 && decide (s.size ≤ 600)) := by
            rw [hnm, hlen, hcons]; simp
          have hb : (s[0] != 48) = ((s[0].toNat : Int) != 48) := by
            rw [Bool.eq_iff_iff]; simp [← UInt8.toNat_inj]; omega
          rw [hb] at hnm2
          generalize (s[0].toNat : Int) = n at hidx hnm2
          clear hnm hcons hb
          by_cases h48 : n = 48
          · have hend : Hid (false = r) := hid' (by rw [← HR.out, hnm2, h48]; rfl)
            subst h48
            clear hrest hall h0 hlt hnm2 hlen
            go_wp2
            go_ret
            exact ⟨ret_bool' hend.out, rfl⟩
          · have h48' : (n != 48) = true := by simpa using h48
            have h48'' : (n == 48) = false := by simpa using h48
            have hend : Hid (decide ((s.size : Int) ≤ 600) = r) := hid' (by rw [← HR.out, hnm2, h48', Bool.true_and]; simp; omega)
            clear hrest hall h0 hlt hnm2 hlen h48
            by_cases h6 : (s.size : Int) ≤ 600
            · rw [decide_eq_true h6] at hend
              go_wp2
              go_ret
              exact ⟨ret_bool' hend.out, rfl⟩
            · rw [decide_eq_false h6] at hend
              have h6' : (600 : Int) < (s.size : Int) := by omega
              go_wp2
              go_ret
              exact ⟨ret_bool' hend.out, rfl⟩
end Go.Proofs.YtpjjofdphlgeiaaGreatDoor

namespace Go.Proofs.YtpjjofdphlgeiaaGreatDoor
open Go.RowKit
open Lx Ax

/-- A node by value. -/
def nodeV (x : Nd) (v : Value) : Value := .agg #[.int .i64 x.op, .int .i64 x.n, .int .i64 x.pos, .string x.s, v]
set_option maxRecDepth 10000 in
set_option maxHeartbeats 400000 in
theorem says_any (x : Nd) (v : Value) (w : World) (ho : OpOK x.op) (hs : x.s.size ≤ 1000000) (hw : WordsAt w) :
    Calls Tryz.prog 38 #[nodeV x v] w fun e w' => e = .returned (.bool (saysF x)) ∧ Below w.heap.size w w' := by
  obtain ⟨op, num, pos, s, kids⟩ := x
  have hN := hid' (fun W (h : WordsAt W) => lexName_any s hs W h)
  have hM := hid' (fun W => isNumber_any s hs W)
  have HW := hid' (hw.below ((Below.refl w.heap.size w).alloc (Nat.le_refl _) (.cells #[.int .i64 6, .int .i64 num, .int .i64 pos, .string s, v] 32)))
  clear hw
  unfold nodeV saysF
  simp only at ho hs ⊢
  rcases ho.each with rfl | rfl | rfl | rfl | rfl | rfl | rfl | rfl | rfl | rfl | rfl | rfl | rfl | rfl | rfl | rfl | rfl | rfl | rfl | rfl | rfl | rfl | rfl
  · rw [if_pos rfl]
    generalize nameB s.data.toList = nb at hN ⊢
    go_enter Tryz.func38, Tryz.ntmps38
    go_wp2_with fail
    refine (hN.out _ HW.out).mono ?_
    rintro e w2 ⟨rfl, rfl⟩
    go_wp2
    go_ret
    exact ⟨rfl, (Below.refl _ _).alloc (Nat.le_refl _) _⟩
  · rw [if_neg (by decide), if_pos rfl]
    generalize numB s.data.toList = nb at hM ⊢
    go_enter Tryz.func38, Tryz.ntmps38
    go_wp2_with fail
    refine (hM.out _).mono ?_
    rintro e w2 ⟨rfl, rfl⟩
    go_wp2
    go_ret
    exact ⟨rfl, (Below.refl _ _).alloc (Nat.le_refl _) _⟩
  all_goals
    rw [if_neg (by decide), if_neg (by decide), ← ByteArray.toList_eq]
    clear hN hM
    go_enter Tryz.func38, Tryz.ntmps38
    go_wp2
    go_ret
    exact ⟨by first | rfl | exact ret_bool' (by cases s.toList <;> simp), (Below.refl _ _).alloc (Nat.le_refl _) _⟩
set_option maxRecDepth 10000 in
set_option maxHeartbeats 400000 in
theorem sortOf_any (p : Value) (x : Nd) (v : Value) (w : World) (ho : OpOK x.op) :
    Calls Tryz.prog 40 #[p, nodeV x v] w fun e w' => e = .returned (.int .u16 (sortN x.op)) ∧ Below w.heap.size w w' := by
  obtain ⟨op, num, pos, s, kids⟩ := x
  unfold nodeV
  simp only at ho ⊢
  rcases ho.each with rfl | rfl | rfl | rfl | rfl | rfl | rfl | rfl | rfl | rfl | rfl | rfl | rfl | rfl | rfl | rfl | rfl | rfl | rfl | rfl | rfl | rfl | rfl
  all_goals
    go_enter Tryz.func40, Tryz.ntmps40
    go_wp2
    go_ret
    exact ⟨rfl, (Below.refl _ _).alloc (Nat.le_refl _) _⟩
end Go.Proofs.YtpjjofdphlgeiaaGreatDoor

namespace Go.Proofs.YtpjjofdphlgeiaaGreatDoor
open Go.RowKit
open Lx Ax

/-- The former's sorts. -/
structure FS (W : World) (fb gs : Nat) (S : List Int) : Prop where
  ptr : W.cell? ⟨fb, 2, none⟩ = some (.slice (some ⟨gs, 0, none⟩) S.length S.length)
  row : RowV W gs 81 (sorts S)
theorem FS.keep {W W' : World} {fb gs : Nat} {S : List Int} (h : FS W fb gs S) (hb : Below W.heap.size W W') : FS W' fb gs S :=
  ⟨(hb.cell (World.block_lt_of_cell? W _ h.ptr)).trans h.ptr, h.row.far (hb.block gs h.row.lt)⟩
theorem below_drewN {W w : World} {n : Nat} (h : Below n W w) (q : Nat) : Below n W (w.drewN q) := ⟨h.os, h.tape, h.output, h.size, h.block⟩
theorem sorts_none (W : World) : SortsAt W (.slice none 0 0) [] := ⟨none, rfl, by simp, .inl rfl⟩
theorem sorts_new (W : World) (ss : List Int) (h : ss.length ≤ 4) (arr : Array Value) (ha : arr = (sorts ss).toArray) : SortsAt (W.alloc (.cells arr 81)) (.slice (some ⟨W.heap.size, 0, none⟩) ss.length ss.length) ss := by
  subst ha
  exact ⟨_, rfl, h, .inr ⟨W.heap.size, rfl, fun j s hs => (row_new W _ _).cell (sorts_at hs)⟩⟩
section
variable {W : World} {n fb gs : Nat} {S : List Int}
def exprF (S : List Int) (op : Int) (zs : List Int) : Bool := if op = 35 ∨ op = 36 ∨ op = 47 then false else areF S zs (kidS op)
def stmtF (S : List Int) (op : Int) (zs : List Int) : Bool := if op = 47 then !zs.isEmpty && allF S 32 zs else if op = 35 ∨ op = 36 then areF S zs (kidS op) else false
set_option maxRecDepth 10000 in
set_option maxHeartbeats 3200000 in
theorem kexpr_any (hF : FS W fb gs S) (v : Value) (zs : List Int) (hz : KidsAt n W v zs) (hn : n ≤ W.heap.size) (hr : ∀ z ∈ zs, 0 ≤ z ∧ z < S.length) (op : Int) (ho : OpOK op) :
    Calls Tryz.prog 61 #[.pointer (some ⟨fb, 0, none⟩), .int .i64 op, v] W fun e w' => e = .returned (.bool (exprF S op zs)) ∧ Below W.heap.size W w' := by
  have HA := hid' (fun (W' : World) (hb : Below W.heap.size W W') (u : Value) (ss : List Int) (hu : SortsAt W' u ss) => are_any (n := n) (hF.keep hb).ptr (hF.keep hb).row v zs (hz.keep (hb.mono hn) (Nat.le_refl _)) hr u ss hu)
  unfold exprF
  clear hF hz hr
  have e0 : ∀ z, (z = 6 ∨ z = 4) → areF S zs (kidS z) = areF S zs [] := by rintro z (rfl | rfl) <;> rfl
  have e1 : ∀ z, (z = 16 ∨ z = 17 ∨ z = 35) → areF S zs (kidS z) = areF S zs [1] := by rintro z (rfl | rfl | rfl) <;> rfl
  have e3 : ∀ z, z = 20 → areF S zs (kidS z) = areF S zs [1, 1, 1] := by rintro z rfl; rfl
  have e4 : ∀ z, z = 36 → areF S zs (kidS z) = areF S zs [8, 1] := by rintro z rfl; rfl
  have e2 : ∀ z : Int, (17 < z ∧ z < 34 ∧ z ≠ 20) → areF S zs (kidS z) = areF S zs [1, 1] := fun z hz => by
    have : kidS z = [1, 1] := by unfold kidS; rw [if_neg (by omega), if_neg (by omega), if_neg (by omega), if_neg (by omega)]
    rw [this]
  rcases ho.each with rfl | rfl | rfl | rfl | rfl | rfl | rfl | rfl | rfl | rfl | rfl | rfl | rfl | rfl | rfl | rfl | rfl | rfl | rfl | rfl | rfl | rfl | rfl
  -- 6, 4
  · rw [if_neg (by decide), e0]
    rotate_left
    decide
    have H1 := hid' (HA.out W (Below.refl _ _) _ _ (sorts_none W))
    clear HA e0 e1 e2 e3 e4
    generalize areF S zs [] = r at H1 ⊢
    go_enter Tryz.func61, Tryz.ntmps61
    go_wp2_with fail
    refine (H1.out).mono ?_
    rintro e w2 ⟨rfl, q, rfl⟩
    go_wp2
    go_ret
    exact ⟨rfl, below_drewN (Below.refl _ _) _⟩
  · rw [if_neg (by decide), e0]
    rotate_left
    decide
    have H1 := hid' (HA.out W (Below.refl _ _) _ _ (sorts_none W))
    clear HA e0 e1 e2 e3 e4
    generalize areF S zs [] = r at H1 ⊢
    go_enter Tryz.func61, Tryz.ntmps61
    go_wp2_with fail
    refine (H1.out).mono ?_
    rintro e w2 ⟨rfl, q, rfl⟩
    go_wp2
    go_ret
    exact ⟨rfl, below_drewN (Below.refl _ _) _⟩
  -- 47, 35, 36
  · rw [if_pos (by decide)]
    clear HA e0 e1 e2 e3 e4
    go_enter Tryz.func61, Tryz.ntmps61
    go_wp2
    go_ret
    exact ⟨rfl, Below.refl _ _⟩
  · rw [if_pos (by decide)]
    clear HA e0 e1 e2 e3 e4
    go_enter Tryz.func61, Tryz.ntmps61
    go_wp2
    go_ret
    exact ⟨rfl, Below.refl _ _⟩
  · rw [if_pos (by decide)]
    clear HA e0 e1 e2 e3 e4
    go_enter Tryz.func61, Tryz.ntmps61
    go_wp2
    go_ret
    exact ⟨rfl, Below.refl _ _⟩
  · rw [if_neg (by decide), e1]
    rotate_left
    decide
    have H1 := hid' (HA.out _ ((Below.refl _ _).alloc (Nat.le_refl _) _) _ _ (sorts_new W [1] (by simp) #[.int .u16 1] rfl))
    clear HA e0 e1 e2 e3 e4
    generalize areF S zs [1] = r at H1 ⊢
    go_enter Tryz.func61, Tryz.ntmps61
    go_wp2_with fail
    refine (H1.out).mono ?_
    rintro e w2 ⟨rfl, q, rfl⟩
    go_wp2
    go_ret
    exact ⟨rfl, below_drewN ((Below.refl _ _).alloc (Nat.le_refl _) _) _⟩
  · rw [if_neg (by decide), e1]
    rotate_left
    decide
    have H1 := hid' (HA.out _ ((Below.refl _ _).alloc (Nat.le_refl _) _) _ _ (sorts_new W [1] (by simp) #[.int .u16 1] rfl))
    clear HA e0 e1 e2 e3 e4
    generalize areF S zs [1] = r at H1 ⊢
    go_enter Tryz.func61, Tryz.ntmps61
    go_wp2_with fail
    refine (H1.out).mono ?_
    rintro e w2 ⟨rfl, q, rfl⟩
    go_wp2
    go_ret
    exact ⟨rfl, below_drewN ((Below.refl _ _).alloc (Nat.le_refl _) _) _⟩
  · rw [if_neg (by decide), e3]
    rotate_left
    decide
    have H1 := hid' (HA.out _ ((Below.refl _ _).alloc (Nat.le_refl _) _) _ _ (sorts_new W [1, 1, 1] (by simp) #[.int .u16 1, .int .u16 1, .int .u16 1] rfl))
    clear HA e0 e1 e2 e3 e4
    generalize areF S zs [1, 1, 1] = r at H1 ⊢
    go_enter Tryz.func61, Tryz.ntmps61
    go_wp2_with fail
    refine (H1.out).mono ?_
    rintro e w2 ⟨rfl, q, rfl⟩
    go_wp2
    go_ret
    exact ⟨rfl, below_drewN ((Below.refl _ _).alloc (Nat.le_refl _) _) _⟩
  all_goals
    rw [if_neg (by decide), e2]
    rotate_left
    decide
    have H1 := hid' (HA.out _ ((Below.refl _ _).alloc (Nat.le_refl _) _) _ _ (sorts_new W [1, 1] (by simp) #[.int .u16 1, .int .u16 1] rfl))
    clear HA e0 e1 e2 e3 e4
    generalize areF S zs [1, 1] = r at H1 ⊢
    go_enter Tryz.func61, Tryz.ntmps61
    go_wp2_with fail
    refine (H1.out).mono ?_
    rintro e w2 ⟨rfl, q, rfl⟩
    go_wp2
    go_ret
    exact ⟨rfl, below_drewN ((Below.refl _ _).alloc (Nat.le_refl _) _) _⟩
set_option maxRecDepth 10000 in
set_option maxHeartbeats 3200000 in
theorem stmt_any (hF : FS W fb gs S) (v : Value) (zs : List Int) (hz : KidsAt n W v zs) (hn : n ≤ W.heap.size) (hr : ∀ z ∈ zs, 0 ≤ z ∧ z < S.length) (op : Int) (ho : OpOK op) :
    Calls Tryz.prog 62 #[.pointer (some ⟨fb, 0, none⟩), .int .i64 op, v] W fun e w' => e = .returned (.bool (stmtF S op zs)) ∧ Below W.heap.size W w' := by
  have HA := hid' (fun (W' : World) (hb : Below W.heap.size W W') (u : Value) (ss : List Int) (hu : SortsAt W' u ss) => are_any (n := n) (hF.keep hb).ptr (hF.keep hb).row v zs (hz.keep (hb.mono hn) (Nat.le_refl _)) hr u ss hu)
  have HL := hid' (kall_any (n := n) hF.ptr hF.row v zs hz hr 32)
  obtain ⟨ao, cap, rfl, ⟨hcap, hzl⟩, _⟩ := hz
  unfold stmtF
  clear hF hr
  have e0 : ∀ z, (z = 6 ∨ z = 4) → areF S zs (kidS z) = areF S zs [] := by rintro z (rfl | rfl) <;> rfl
  have e1 : ∀ z, (z = 16 ∨ z = 17 ∨ z = 35) → areF S zs (kidS z) = areF S zs [1] := by rintro z (rfl | rfl | rfl) <;> rfl
  have e3 : ∀ z, z = 20 → areF S zs (kidS z) = areF S zs [1, 1, 1] := by rintro z rfl; rfl
  have e4 : ∀ z, z = 36 → areF S zs (kidS z) = areF S zs [8, 1] := by rintro z rfl; rfl
  have e2 : ∀ z : Int, (17 < z ∧ z < 34 ∧ z ≠ 20) → areF S zs (kidS z) = areF S zs [1, 1] := fun z hz => by
    have : kidS z = [1, 1] := by unfold kidS; rw [if_neg (by omega), if_neg (by omega), if_neg (by omega), if_neg (by omega)]
    rw [this]
  by_cases h47 : op = 47
  · subst h47
    rw [if_pos rfl]
    clear HA e0 e1 e2 e3 e4
    generalize allF S 32 zs = r at HL ⊢
    by_cases h0 : zs = []
    · subst h0
      clear HL
      go_enter Tryz.func62, Tryz.ntmps62
      go_wp2
      go_ret
      exact ⟨rfl, Below.refl _ _⟩
    · have hp := List.length_pos_iff.2 h0
      have hp' : (0 : Int) < (zs.length : Int) := by omega
      have he : zs.isEmpty = false := by simpa using h0
      rw [he]
      clear he h0
      go_enter Tryz.func62, Tryz.ntmps62
      go_wp2_with fail
      refine (HL.out).mono ?_
      rintro e w2 ⟨rfl, rfl⟩
      go_wp2
      go_ret
      exact ⟨rfl, Below.refl _ _⟩
  rw [if_neg h47]
  clear HL
  by_cases h35 : op = 35
  · subst h35
    rw [if_pos (by decide), e1]
    rotate_left
    decide
    have H1 := hid' (HA.out _ ((Below.refl _ _).alloc (Nat.le_refl _) _) _ _ (sorts_new W [1] (by simp) #[.int .u16 1] rfl))
    clear HA e0 e1 e2 e3 e4
    generalize areF S zs [1] = r at H1 ⊢
    go_enter Tryz.func62, Tryz.ntmps62
    go_wp2_with fail
    refine (H1.out).mono ?_
    rintro e w2 ⟨rfl, q, rfl⟩
    go_wp2
    go_ret
    exact ⟨rfl, below_drewN ((Below.refl _ _).alloc (Nat.le_refl _) _) _⟩
  by_cases h36 : op = 36
  · subst h36
    rw [if_pos (by decide), e4]
    rotate_left
    decide
    have H1 := hid' (HA.out _ ((Below.refl _ _).alloc (Nat.le_refl _) _) _ _ (sorts_new W [8, 1] (by simp) #[.int .u16 8, .int .u16 1] rfl))
    clear HA e0 e1 e2 e3 e4
    generalize areF S zs [8, 1] = r at H1 ⊢
    go_enter Tryz.func62, Tryz.ntmps62
    go_wp2_with fail
    refine (H1.out).mono ?_
    rintro e w2 ⟨rfl, q, rfl⟩
    go_wp2
    go_ret
    exact ⟨rfl, below_drewN ((Below.refl _ _).alloc (Nat.le_refl _) _) _⟩
  rw [if_neg (by omega)]
  clear HA
  rcases ho.each with rfl | rfl | rfl | rfl | rfl | rfl | rfl | rfl | rfl | rfl | rfl | rfl | rfl | rfl | rfl | rfl | rfl | rfl | rfl | rfl | rfl | rfl | rfl
  all_goals first | exact absurd rfl h47 | exact absurd rfl h35 | exact absurd rfl h36 | skip
  all_goals
    clear h47 h35 h36
    go_enter Tryz.func62, Tryz.ntmps62
    go_wp2
    go_ret
    exact ⟨rfl, Below.refl _ _⟩
theorem has_two (S : List Int) (x : Nd) : hasF S x = (exprF S x.op x.kids || stmtF S x.op x.kids) := by
  unfold hasF exprF stmtF
  by_cases h1 : x.op = 47
  · simp [h1]
  · by_cases h2 : x.op = 35 ∨ x.op = 36
    · rw [if_neg h1, if_pos (by omega), if_neg h1, if_pos h2]; rfl
    · rw [if_neg h1, if_neg (by omega), if_neg h1, if_neg h2]; simp
set_option maxRecDepth 10000 in
set_option maxHeartbeats 800000 in
theorem has_any (hF : FS W fb gs S) (x : Nd) (v : Value) (hz : KidsAt n W v x.kids) (hn : n ≤ W.heap.size) (hr : ∀ z ∈ x.kids, 0 ≤ z ∧ z < S.length) (ho : OpOK x.op) :
    Calls Tryz.prog 39 #[.pointer (some ⟨fb, 0, none⟩), nodeV x v] W fun e w' => e = .returned (.bool (hasF S x)) ∧ Below W.heap.size W w' := by
  rw [has_two S x]
  have hbA : Below W.heap.size W (W.alloc (.cells #[.int .i64 x.op, .int .i64 x.n, .int .i64 x.pos, .string x.s, v] 32)) := (Below.refl _ _).alloc (Nat.le_refl _) _
  have HE := hid' (kexpr_any (hF.keep hbA) v x.kids (hz.keep (hbA.mono hn) (Nat.le_refl _)) (by simp; omega) hr x.op ho)
  have HT := hid' (fun (W' : World) (hb : Below W.heap.size W W') => stmt_any (hF.keep hb) v x.kids (hz.keep (hb.mono hn) (Nat.le_refl _)) (Nat.le_trans hn hb.size) hr x.op ho)
  have HBA := hid' hbA
  clear hF hz hr hbA ho
  generalize exprF S x.op x.kids = a at HE ⊢
  generalize stmtF S x.op x.kids = b at HT ⊢
  obtain ⟨op, num, pos, s, kids⟩ := x
  unfold nodeV
  simp only at HE HT HBA ⊢
  go_enter Tryz.func39, Tryz.ntmps39
  go_wp2_with fail
  refine (HE.out).mono ?_
  rintro e w2 ⟨rfl, b2⟩
  have hlt : (W.alloc (.cells #[.int .i64 op, .int .i64 num, .int .i64 pos, .string s, v] 32)).heap.size = W.heap.size + 1 := by simp
  have HB2 := hid' (HBA.out.trans (b2.mono (by omega)))
  cases a with
  | true =>
    clear b2 HE HT hlt
    go_wp2
    go_ret
    exact ⟨rfl, HB2.out⟩
  | false =>
    have hr2 : RowV w2 W.heap.size 32 [.int .i64 op, .int .i64 num, .int .i64 pos, .string s, v] := (row_new W _ _).far (b2.block _ (by omega))
    have c0 := hr2.cell (j := 0) rfl
    have c4 := hr2.cell (j := 4) rfl
    have HT2 := hid' (HT.out w2 HB2.out)
    clear b2 HE HT hlt hr2
    go_wp2_with fail
    refine (HT2.out).mono ?_
    rintro e w3 ⟨rfl, b3⟩
    have HB3 := hid' (HB2.out.trans (b3.mono HB2.out.size))
    clear b3
    go_wp2
    go_ret
    exact ⟨by first | rfl | exact ret_bool' (by simp), HB3.out⟩
end
end Go.Proofs.YtpjjofdphlgeiaaGreatDoor

namespace Go.Proofs.YtpjjofdphlgeiaaGreatDoor
open Go.RowKit
open Lx Ax

theorem pad_next (k : List Bool) (n : Nat) (h : 0 < n) : k ++ List.replicate n false = (k ++ [false]) ++ List.replicate (n - 1) false := by
  obtain ⟨m, rfl⟩ : ∃ m, n = m + 1 := ⟨n - 1, by omega⟩
  rw [List.replicate_succ]; simp
end Go.Proofs.YtpjjofdphlgeiaaGreatDoor
