/- What (*former).all and (*former).are answer. Conditions: the kids lie ahead; the sorts lie in a block of their own. -/
import Derived.Test.YtnjbhcjdlbmmhaaDoorAstTake
namespace Go.Proofs.YtnjbhcjdlbmmhaaDoor
open Go.RowKit
open Lx Ax

theorem drewN_cell (w : World) (q : Nat) (a : Addr) : (w.drewN q).cell? a = w.cell? a := rfl
section
variable {W : World} {n fb gs : Nat} {S : List Int}
theorem kid_at {v : Value} {zs : List Int} (h : KidsAt n W v zs) {j : Nat} (hj : j < zs.length) : ∃ b o cap, v = .slice (some ⟨b, o, none⟩) zs.length cap ∧ zs.length ≤ cap ∧ W.cell? ⟨b, o + j, none⟩ = some (.int .i64 zs[j]) := by
  obtain ⟨ao, cap, e, h1, h2⟩ := h
  rcases h2 with h2 | ⟨b, o, rfl, _, e3⟩
  · rw [h2] at hj; simp at hj
  · exact ⟨b, o, cap, e, h1.1, e3 j _ (List.getElem?_eq_getElem hj)⟩
set_option maxRecDepth 10000 in
set_option maxHeartbeats 400000 in
theorem all_any (hf : W.cell? ⟨fb, 2, none⟩ = some (.slice (some ⟨gs, 0, none⟩) S.length S.length)) (hS : RowV W gs 60 (sorts S)) (v : Value) (zs : List Int) (hz : KidsAt n W v zs) (hr : ∀ z ∈ zs, 0 ≤ z ∧ z < S.length) (s : Int) :
    Calls Tryd.prog 42 #[.pointer (some ⟨fb, 0, none⟩), v, .int .u16 s] W fun e w' => e = .returned (.bool (allF S s zs)) ∧ w' = W := by
  obtain ⟨res, hres⟩ : ∃ r, allF S s zs = r := ⟨_, rfl⟩
  rw [hres]
  have HRES := hid' hres
  have HZ := hid' hz
  have HR := hid' hr
  have HS := hid' hS
  obtain ⟨ao, cap, rfl, ⟨hcap, hzl⟩, _⟩ := hz
  clear hres hr hS
  go_enter Tryd.func42, Tryd.ntmps42
  go_wp2
  go_loop [11] (fun c => ∃ j : Nat, j ≤ zs.length ∧ c = .int .i64 j ∧ Hid (res = allF S s (zs.drop j))) (fun c => zs.length - (intOf c).toNat)
  case atStart => exact ⟨0, Nat.zero_le _, rfl, hid' HRES.out.symm⟩
  case round =>
    obtain ⟨j, hj, rfl, ht⟩ := hrel
    by_cases hlt : j < zs.length
    · have hlt' : (j : Int) < (zs.length : Int) := by omega
      have ht2 := ht.out
      rw [List.drop_eq_getElem_cons hlt, allF] at ht2
      obtain ⟨b, o, cap', e, _, hc⟩ := kid_at HZ.out hlt
      injection e with e1 e2 e3
      subst e1 e3
      clear e2
      have hzr := HR.out _ (List.getElem_mem hlt)
      generalize zs[j] = z at ht2 hc hzr
      obtain ⟨m, rfl⟩ : ∃ m : Nat, z = (m : Int) := ⟨z.toNat, by omega⟩
      have hm : m < S.length := by omega
      have hcs := HS.out.cell (sorts_at (List.getElem?_eq_getElem hm))
      rw [Int.toNat_natCast, List.getD_eq_getElem?_getD, List.getElem?_eq_getElem hm, Option.getD_some] at ht2
      unfold okS at ht2
      generalize S[m] = x at hcs ht2
      obtain ⟨bb, hbb⟩ : ∃ bb, bits BinOp.and IntKind.u16 x s = bb := ⟨_, rfl⟩
      rw [hbb] at ht2
      by_cases h0 : bb = 0
      · have hend : Hid (false = res) := hid' (by rw [ht2, h0]; rfl)
        subst h0
        clear ht ht2
        go_wp2
        go_ret
        exact ⟨ret_bool' hend.out, rfl⟩
      · have h0' : (bb == 0) = false := by simpa using h0
        have ht3 : Hid (res = allF S s (zs.drop (j + 1))) := hid' (by rw [ht2, h0']; rfl)
        clear ht ht2 h0
        go_wp2
        go_round
        case rel => exact ⟨j + 1, by omega, by go_num, ht3⟩
        case measure => simp [intOf]; omega
    · obtain rfl : j = zs.length := by omega
      have hend : Hid (true = res) := hid' (by rw [ht.out, List.drop_eq_nil_of_le (Nat.le_refl _)]; rfl)
      clear ht hlt
      go_wp2
      go_ret
      exact ⟨ret_bool' hend.out, rfl⟩
/-- The sorts that kids are held against. -/
def SortsAt (W : World) (v : Value) (ss : List Int) : Prop := ∃ ao, v = .slice ao ss.length ss.length ∧ ss.length ≤ 4 ∧ (ss = [] ∨ ∃ b, ao = some ⟨b, 0, none⟩ ∧ ∀ (j : Nat) s, ss[j]? = some s → W.cell? ⟨b, j, none⟩ = some (.int .u16 s))
set_option maxRecDepth 10000 in
set_option maxHeartbeats 400000 in
theorem are_any (hf : W.cell? ⟨fb, 2, none⟩ = some (.slice (some ⟨gs, 0, none⟩) S.length S.length)) (hS : RowV W gs 60 (sorts S)) (v : Value) (zs : List Int) (hz : KidsAt n W v zs) (hr : ∀ z ∈ zs, 0 ≤ z ∧ z < S.length) (u : Value) (ss : List Int) (hu : SortsAt W u ss) :
    Calls Tryd.prog 51 #[.pointer (some ⟨fb, 0, none⟩), v, u] W fun e w' => e = .returned (.bool (areF S zs ss)) ∧ ∃ q, w' = W.drewN q := by
  obtain ⟨res, hres⟩ : ∃ r, areF S zs ss = r := ⟨_, rfl⟩
  rw [hres]
  have HRES := hid' hres
  have HZ := hid' hz
  have HR := hid' hr
  have HS := hid' hS
  have HU := hid' hu
  obtain ⟨ao, cap, rfl, ⟨hcap, hzl⟩, _⟩ := hz
  obtain ⟨uo, rfl, hul, _⟩ := hu
  by_cases hne : zs.length = ss.length
  · have hne' : (zs.length : Int) = (ss.length : Int) := by omega
    clear hres hr hS hne
    go_enter Tryd.func51, Tryd.ntmps51
    go_wp2
    go_loopw [16] (fun c wr => ∃ j q : Nat, j ≤ zs.length ∧ c = .int .i64 j ∧ Hid (res = areF S (zs.drop j) (ss.drop j)) ∧ wr = W.drewN q) (fun c _ => zs.length - (intOf c).toNat)
    case atStart => exact ⟨0, 0, Nat.zero_le _, rfl, hid' HRES.out.symm, rfl⟩
    case round =>
      obtain ⟨j, q, hj, rfl, ht, rfl⟩ := hrel
      by_cases hlt : j < zs.length
      · have hlt' : (j : Int) < (zs.length : Int) := by omega
        have hls : j < ss.length := by omega
        have hls' : (j : Int) < (ss.length : Int) := by omega
        have ht2 := ht.out
        rw [List.drop_eq_getElem_cons hlt, List.drop_eq_getElem_cons hls, areF] at ht2
        obtain ⟨b, o, cap', e, _, hc⟩ := kid_at HZ.out hlt
        injection e with e1 e2 e3
        subst e1 e3
        clear e2
        obtain ⟨ub, huo, hcu⟩ : ∃ b, uo = some ⟨b, 0, none⟩ ∧ W.cell? ⟨b, j, none⟩ = some (.int .u16 ss[j]) := by
          obtain ⟨uo', e, _, h2⟩ := HU.out
          injection e with e1 _ _
          subst e1
          rcases h2 with h2 | ⟨b, e1, e3⟩
          · rw [h2] at hls; simp at hls
          · exact ⟨b, e1, e3 j _ (List.getElem?_eq_getElem hls)⟩
        subst huo
        have hzr := HR.out _ (List.getElem_mem hlt)
        generalize zs[j] = z at ht2 hc hzr
        generalize ss[j] = s at ht2 hcu
        obtain ⟨m, rfl⟩ : ∃ m : Nat, z = (m : Int) := ⟨z.toNat, by omega⟩
        have hm : m < S.length := by omega
        have hcs := HS.out.cell (sorts_at (List.getElem?_eq_getElem hm))
        rw [Int.toNat_natCast, List.getD_eq_getElem?_getD, List.getElem?_eq_getElem hm, Option.getD_some] at ht2
        unfold okS at ht2
        generalize S[m] = x at hcs ht2
        obtain ⟨bb, hbb⟩ : ∃ bb, bits BinOp.and IntKind.u16 x s = bb := ⟨_, rfl⟩
        rw [hbb] at ht2
        have hf' : (W.drewN q).cell? ⟨fb, 2, none⟩ = some (.slice (some ⟨gs, 0, none⟩) S.length S.length) := hf
        by_cases h0 : bb = 0
        · have hend : Hid (false = res) := hid' (by rw [ht2, h0]; rfl)
          subst h0
          clear ht ht2
          go_wp2_with fail
          go_quiet (fail)
          go_wp2
          go_ret
          exact ⟨ret_bool' hend.out, _, by first | exact World.drewN_drewN .. | rfl⟩
        · have h0' : (bb == 0) = false := by simpa using h0
          have ht3 : Hid (res = areF S (zs.drop (j + 1)) (ss.drop (j + 1))) := hid' (by rw [ht2, h0']; rfl)
          clear ht ht2 h0
          go_wp2_with fail
          go_quiet (fail)
          go_wp2
          go_roundw
          case rel => exact ⟨j + 1, q + nq, by omega, by go_num, ht3, rfl⟩
          case measure => simp [intOf]; omega
      · obtain rfl : j = zs.length := by omega
        have hend : Hid (true = res) := hid' (by rw [ht.out, List.drop_eq_nil_of_le (Nat.le_refl _), List.drop_eq_nil_of_le (by omega)]; rfl)
        clear ht hlt
        go_wp2
        go_ret
        exact ⟨ret_bool' hend.out, _, by first | exact World.drewN_drewN .. | rfl⟩
  · have hne' : ((zs.length : Int) == (ss.length : Int)) = false := by simpa using fun h => hne (by omega)
    have hne2 : ((zs.length : Int) != (ss.length : Int)) = true := by simpa using fun h => hne (by omega)
    have hend : Hid (false = res) := hid' (by
      rw [← hres]
      have : ∀ (a b : List Int), a.length ≠ b.length → areF S a b = false := by
        intro a
        induction a with
        | nil => intro b h; cases b with | nil => simp at h | cons y b => rfl
        | cons x a ih => intro b h; cases b with | nil => rfl | cons y b => simp only [areF]; rw [ih b (by simpa using h)]; simp
      exact (this _ _ hne).symm)
    clear hres hr hS hne
    go_enter Tryd.func51, Tryd.ntmps51
    go_wp2
    go_ret
    exact ⟨ret_bool' hend.out, 0, rfl⟩
end
end Go.Proofs.YtnjbhcjdlbmmhaaDoor
