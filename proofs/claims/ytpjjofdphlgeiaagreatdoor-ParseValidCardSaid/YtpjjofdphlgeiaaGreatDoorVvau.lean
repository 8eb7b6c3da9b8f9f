/- Parts of the proof, together. What (*former).calls answers; kids' lists cut. Conditions: the kids lie ahead; the sorts lie in a block of their own. What (*former).expressionHas, statementHas and hasRight answer, of whatever Op. Conditions: the kids lie ahead; the sorts lie in a block of their own. What (*former).sortOf answers, of whatever Op. Conditions: the kids lie ahead; the sorts lie in a block of their own. -/
import Derived.Deep.QuietTactic
import Derived.Test.YtpjjofdphlgeiaaGreatDoorVvat
import Derived.Test.YtpjjofdphlgeiaaGreatDoorVvas
namespace Go.Proofs.YtpjjofdphlgeiaaGreatDoor
open Go.RowKit
open Lx Ax Ay

section
variable {W : World} {n fb gs : Nat} {S : List Int}
/-- A part of a list of kids. -/
theorem KidsAt.part {b o cap : Nat} {zs : List Int} (h : KidsAt n W (.slice (some ⟨b, o, none⟩) zs.length cap) zs) (i k : Nat) (hk : i + k ≤ zs.length) (c : Nat) (hc : k ≤ c) : KidsAt n W (.slice (some ⟨b, o + i, none⟩) k c) ((zs.drop i).take k) := by
  obtain ⟨ao, cap', e, ⟨h1, h2⟩, h3⟩ := h
  simp only [Value.slice.injEq] at e
  obtain ⟨e1, _, _⟩ := e
  have hl : ((zs.drop i).take k).length = k := by rw [List.length_take, List.length_drop]; omega
  refine ⟨_, c, by rw [hl], ⟨by omega, by omega⟩, ?_⟩
  rcases h3 with h3 | ⟨b', o', e3, h4, h5⟩
  · exact .inl (by rw [h3]; simp)
  · rw [← e1] at e3
    injection e3 with e3
    injection e3 with e3 e4 _
    subst e3 e4
    refine .inr ⟨b, o + i, rfl, h4, fun j z hz => ?_⟩
    rw [List.getElem?_take] at hz
    split at hz
    · rw [List.getElem?_drop] at hz
      rw [Nat.add_assoc]
      exact h5 _ _ hz
    · cases hz
set_option maxRecDepth 10000 in
set_option maxHeartbeats 3200000 in
theorem calls_any (hF : FS W fb gs S) (v : Value) (zs : List Int) (hz : KidsAt n W v zs) (hn : n ≤ W.heap.size) (hr : ∀ z ∈ zs, 0 ≤ z ∧ z < S.length) :
    Calls Tryz.prog 87 #[.pointer (some ⟨fb, 0, none⟩), v] W fun e w' => e = .returned (.bool (callsF S zs)) ∧ Below W.heap.size W w' := by
  have HZ := hid' hz
  have HF := hid' hF
  have HR := hid' hr
  obtain ⟨ao, cap, rfl, ⟨hcap, hzl⟩, _⟩ := hz
  unfold callsF
  clear hF hr
  go_enter Tryz.func87, Tryz.ntmps87
  go_wp2
  go_loopw [5] (fun c wr => ∃ j : Nat, j ≤ zs.length ∧ c = .int .i64 j ∧ Hid (byF S zs zs.length = byF S zs j) ∧ Hid (Below W.heap.size W wr)) (fun c _ => (intOf c).toNat)
  case atStart => exact ⟨zs.length, Nat.le_refl _, rfl, hid' rfl, hid' (Below.refl _ _)⟩
  case round =>
    obtain ⟨j, hj, rfl, hby, hb⟩ := hrel
    cases j with
    | zero =>
      have e0 : byF S zs zs.length = 0 := hby.out
      have HB := hid' hb.out
      have HE0 := hid' e0
      clear e0
      go_wp2
      go_ret
      exact ⟨by rw [HE0.out]; rfl, HB.out⟩
    | succ j =>
      obtain ⟨b, o, cap', e, _, hc⟩ := kid_at HZ.out (j := j) (by omega)
      simp only [Value.slice.injEq] at e
      obtain ⟨rfl, _, rfl⟩ := e
      clear hc
      have hgt : decide (((j + 1 : Nat) : Int) > 0) = true := decide_eq_true (by omega)
      have hw : IntKind.i64.wrap (((j + 1 : Nat) : Int) - 1) = (j : Int) := by rw [IntWalk.i64_in _ ⟨by omega, by omega⟩]; omega
      have hb0 := hb.out
      have HZr := hid' ((HZ.out.keep (hb0.mono hn) (Nat.le_refl _)).part j 1 (by omega) (cap - j) (by omega))
      go_wp2_with fail
      have hbA : Below W.heap.size W (wr.alloc (.cells #[.int .u16 4] 81)) := hb0.alloc hb0.size _
      have hzj : ((zs.drop j).take 1) = [zs[j]] := by rw [List.drop_eq_getElem_cons (by omega)]; rfl
      have hka := (HZ.out.keep (hbA.mono hn) (Nat.le_refl _)).part j 1 (by omega) (cap - j) (by omega)
      rw [hzj] at hka
      have hF2 := HF.out.keep hbA
      refine (are_any hF2.ptr hF2.row _ [zs[j]] hka (fun z hz => by rw [List.mem_singleton.1 hz]; exact HR.out _ (List.getElem_mem _)) _ [4] (sorts_new wr [4] (by simp) #[.int .u16 4] rfl)).mono ?_
      rintro e w2 ⟨rfl, q, hw2⟩
      have HB2 : Hid (Below W.heap.size W w2) := hid' (by rw [hw2]; exact below_drewN hbA _)
      have hby2 := hby.out
      have hstep : byF S zs (j + 1) = if okS (S.getD (zs.getD j 0).toNat 0) 4 then byF S zs j else j + 1 := rfl
      rw [hstep] at hby2
      clear hstep
      have hgd : zs.getD j 0 = zs[j] := by rw [List.getD_eq_getElem?_getD, List.getElem?_eq_getElem (by omega), Option.getD_some]
      rw [hgd] at hby2
      have hare : areF S [zs[j]] [4] = okS (S.getD zs[j].toNat 0) 4 := by unfold areF areF; rw [Bool.and_true]
      rw [hare]
      generalize okS (S.getD zs[j].toNat 0) 4 = ob at hby2 ⊢
      clear hw2 hka hzj hbA hF2 hb0 HZr hgd hare
      cases ob with
      | true =>
        rw [if_pos rfl] at hby2
        have HBY := hid' hby2
        clear hby2 hby
        go_wp2
        go_roundw
        case rel => exact ⟨j, by omega, by first | rfl | go_num, HBY, HB2⟩
        case measure => simp [intOf] <;> omega
      | false =>
        rw [if_neg (by simp)] at hby2
        have hl3 := (HZ.out.keep (HB2.out.mono hn) (Nat.le_refl _)).part 0 (j + 1) (by omega) cap (by omega)
        rw [List.drop_zero] at hl3
        have hF3 := HF.out.keep HB2.out
        have HL := hid' (kall_any hF3.ptr hF3.row _ (zs.take (j + 1)) hl3 (fun z hz => HR.out z (List.mem_of_mem_take hz)) 1)
        have HFI : Hid ((decide (0 < byF S zs zs.length) && allF S 1 (zs.take (byF S zs zs.length))) = allF S 1 (zs.take (j + 1))) := hid' (by rw [hby2]; simp)
        generalize allF S 1 (zs.take (j + 1)) = r at HL HFI
        clear hl3 hF3 hby2 hby
        rw [Nat.add_zero] at HL
        go_wp2_with fail
        refine (HL.out).mono ?_
        rintro e w3 ⟨rfl, rfl⟩
        go_wp2
        go_ret
        exact ⟨ret_bool' HFI.out.symm, HB2.out⟩
end
end Go.Proofs.YtpjjofdphlgeiaaGreatDoor

namespace Go.Proofs.YtpjjofdphlgeiaaGreatDoor
open Go.RowKit
open Lx Ax Ay

section
variable {W : World} {n fb gs : Nat} {S : List Int}
set_option maxRecDepth 10000 in
set_option maxHeartbeats 6400000 in
theorem expr_all (hF : FS W fb gs S) (v : Value) (zs : List Int) (hz : KidsAt n W v zs) (hn : n ≤ W.heap.size) (hr : ∀ z ∈ zs, 0 ≤ z ∧ z < S.length) (op : Int) (ho : OpK op) :
    Calls Tryz.prog 61 #[.pointer (some ⟨fb, 0, none⟩), .int .i64 op, v] W fun e w' => e = .returned (.bool (exprG S op zs)) ∧ Below W.heap.size W w' := by
  have HA := hid' (fun (W' : World) (hb : Below W.heap.size W W') (u : Value) (ss : List Int) (hu : SortsAt W' u ss) => are_any (n := n) (hF.keep hb).ptr (hF.keep hb).row v zs (hz.keep (hb.mono hn) (Nat.le_refl _)) hr u ss hu)
  have HL := hid' (fun s => kall_any (n := n) hF.ptr hF.row v zs hz hr s)
  have HC := hid' (calls_any (n := n) hF v zs hz hn hr)
  obtain ⟨ao, cap, rfl, ⟨hcap, hzl⟩, _⟩ := hz
  unfold exprG
  by_cases g0 : op ≤ 6 ∨ op = 15
  · rw [if_pos g0]
    have g1 : op = 1 ∨ op = 2 ∨ op = 3 ∨ op = 4 ∨ op = 5 ∨ op = 6 ∨ op = 15 := by unfold OpK at ho; omega
    clear ho g0 HC
    rcases g1 with rfl | rfl | rfl | rfl | rfl | rfl | rfl
    all_goals
      have H1 := hid' (HA.out W (Below.refl _ _) _ _ (sorts_none W))
      clear HA HL
      generalize areF S zs [] = r at H1 ⊢
      go_enter Tryz.func61, Tryz.ntmps61
      go_wp2_with fail
      refine (H1.out).mono ?_
      rintro e w2 ⟨rfl, q, rfl⟩
      go_wp2
      go_ret
      exact ⟨rfl, below_drewN (Below.refl _ _) _⟩
  rw [if_neg g0]
  by_cases g1 : op = 7 ∨ op = 8
  · rw [if_pos g1]
    clear ho g0 HC HA
    have HL1 := hid' (HL.out 1)
    clear HL
    generalize allF S 1 zs = r at HL1 ⊢
    rcases g1 with rfl | rfl
    all_goals
      go_enter Tryz.func61, Tryz.ntmps61
      go_wp2_with fail
      refine (HL1.out).mono ?_
      rintro e w2 ⟨rfl, rfl⟩
      go_wp2
      go_ret
      exact ⟨rfl, Below.refl _ _⟩
  rw [if_neg g1]
  by_cases g2 : op = 9
  · rw [if_pos g2]
    clear ho g0 g1 HC HA
    have HL1 := hid' (HL.out 1)
    clear HL
    generalize allF S 1 zs = r at HL1 ⊢
    subst g2
    by_cases he : zs.length % 2 = 0
    · rw [decide_eq_true he]
      have hm4 : (zs.length : Int) % 2 = 0 := by omega
      have hm3 : ((zs.length : Int) % 2 == 0) = true := by rw [hm4]; rfl
      clear he
      go_enter Tryz.func61, Tryz.ntmps61
      go_wp2_with fail
      refine (HL1.out).mono ?_
      rintro e w2 ⟨rfl, rfl⟩
      go_wp2
      go_ret
      exact ⟨rfl, Below.refl _ _⟩
    · rw [decide_eq_false he]
      have hm4 : ¬ (zs.length : Int) % 2 = 0 := by omega
      have hm3 : ((zs.length : Int) % 2 == 0) = false := by rw [beq_eq_false_iff_ne]; exact hm4
      clear he HL1
      go_enter Tryz.func61, Tryz.ntmps61
      go_wp2
      go_ret
      exact ⟨rfl, Below.refl _ _⟩
  rw [if_neg g2]
  by_cases g3 : op = 10
  · rw [if_pos g3]
    clear ho g0 g1 g2 HA HL
    generalize callsF S zs = r at HC ⊢
    subst g3
    go_enter Tryz.func61, Tryz.ntmps61
    go_wp2_with fail
    refine (HC.out).mono ?_
    rintro e w2 ⟨rfl, b2⟩
    go_wp2
    go_ret
    exact ⟨rfl, b2⟩
  rw [if_neg g3]
  clear HC
  by_cases g4 : op = 11 ∨ op = 12 ∨ op = 16 ∨ op = 17
  · rw [if_pos g4]
    clear ho g0 g1 g2 g3
    rcases g4 with rfl | rfl | rfl | rfl
    all_goals
      have H1 := hid' (HA.out _ ((Below.refl _ _).alloc (Nat.le_refl _) _) _ _ (sorts_new W [1] (by simp) #[.int .u16 1] rfl))
      clear HA HL
      generalize areF S zs [1] = r at H1 ⊢
      go_enter Tryz.func61, Tryz.ntmps61
      go_wp2_with fail
      refine (H1.out).mono ?_
      rintro e w2 ⟨rfl, q, rfl⟩
      go_wp2
      go_ret
      exact ⟨rfl, below_drewN ((Below.refl _ _).alloc (Nat.le_refl _) _) _⟩
  rw [if_neg g4]
  by_cases g5 : op = 14
  · rw [if_pos g5]
    clear ho g0 g1 g2 g3 g4
    subst g5
    have H1 := hid' (HA.out _ ((Below.refl _ _).alloc (Nat.le_refl _) _) _ _ (sorts_new W [1, 3, 3] (by simp) #[.int .u16 1, .int .u16 3, .int .u16 3] rfl))
    clear HA HL
    generalize areF S zs [1, 3, 3] = r at H1 ⊢
    go_enter Tryz.func61, Tryz.ntmps61
    go_wp2_with fail
    refine (H1.out).mono ?_
    rintro e w2 ⟨rfl, q, rfl⟩
    go_wp2
    go_ret
    exact ⟨rfl, below_drewN ((Below.refl _ _).alloc (Nat.le_refl _) _) _⟩
  rw [if_neg g5]
  by_cases g6 : op = 20
  · rw [if_pos g6]
    clear ho g0 g1 g2 g3 g4 g5
    subst g6
    have H1 := hid' (HA.out _ ((Below.refl _ _).alloc (Nat.le_refl _) _) _ _ (sorts_new W [1, 1, 1] (by simp) #[.int .u16 1, .int .u16 1, .int .u16 1] rfl))
    clear HA HL
    generalize areF S zs [1, 1, 1] = r at H1 ⊢
    go_enter Tryz.func61, Tryz.ntmps61
    go_wp2_with fail
    refine (H1.out).mono ?_
    rintro e w2 ⟨rfl, q, rfl⟩
    go_wp2
    go_ret
    exact ⟨rfl, below_drewN ((Below.refl _ _).alloc (Nat.le_refl _) _) _⟩
  rw [if_neg g6]
  by_cases g7 : op = 34
  · rw [if_pos g7]
    clear ho g0 g1 g2 g3 g4 g5 g6
    subst g7
    have H1 := hid' (HA.out _ ((Below.refl _ _).alloc (Nat.le_refl _) (.cells #[.int .u16 1, .int .u16 8, .int .u16 1] 81)) _ _ (sorts_new W [1, 8, 1] (by simp) #[.int .u16 1, .int .u16 8, .int .u16 1] rfl))
    have HBA := hid' ((Below.refl W.heap.size W).alloc (Nat.le_refl _) (.cells #[.int .u16 1, .int .u16 8, .int .u16 1] 81))
    have H2 := hid' (fun (w2 : World) (hb : Below W.heap.size W w2) => HA.out _ (hb.alloc hb.size (.cells #[.int .u16 1, .int .u16 8, .int .u16 1, .int .u16 1] 81)) _ _ (sorts_new w2 [1, 8, 1, 1] (by simp) #[.int .u16 1, .int .u16 8, .int .u16 1, .int .u16 1] rfl))
    clear HA HL
    generalize areF S zs [1, 8, 1] = r at H1 ⊢
    generalize areF S zs [1, 8, 1, 1] = r2 at H2 ⊢
    go_enter Tryz.func61, Tryz.ntmps61
    go_wp2_with fail
    refine (H1.out).mono ?_
    rintro e w2 ⟨rfl, q, hw2⟩
    have HB2 : Hid (Below W.heap.size W w2) := hid' (by rw [hw2]; exact below_drewN HBA.out _)
    clear hw2 HBA
    cases r with
    | true =>
      clear H2
      go_wp2
      go_ret
      exact ⟨rfl, HB2.out⟩
    | false =>
      go_wp2_with fail
      refine (H2.out _ HB2.out).mono ?_
      rintro e w3 ⟨rfl, q3, rfl⟩
      go_wp2
      go_ret
      exact ⟨by first | rfl | exact ret_bool' (by simp), below_drewN (HB2.out.alloc HB2.out.size _) _⟩
  rw [if_neg g7]
  by_cases g8 : op ≤ 33
  · rw [if_pos g8]
    have g9 : op = 13 ∨ op = 18 ∨ op = 19 ∨ op = 21 ∨ op = 22 ∨ op = 23 ∨ op = 24 ∨ op = 25 ∨ op = 26 ∨ op = 27 ∨ op = 28 ∨ op = 29 ∨ op = 30 ∨ op = 31 ∨ op = 32 ∨ op = 33 := by unfold OpK at ho; omega
    clear ho g0 g1 g2 g3 g4 g5 g6 g7 g8
    rcases g9 with rfl | rfl | rfl | rfl | rfl | rfl | rfl | rfl | rfl | rfl | rfl | rfl | rfl | rfl | rfl | rfl
    all_goals
      have H1 := hid' (HA.out _ ((Below.refl _ _).alloc (Nat.le_refl _) _) _ _ (sorts_new W [1, 1] (by simp) #[.int .u16 1, .int .u16 1] rfl))
      clear HA HL
      generalize areF S zs [1, 1] = r at H1 ⊢
      go_enter Tryz.func61, Tryz.ntmps61
      go_wp2_with fail
      refine (H1.out).mono ?_
      rintro e w2 ⟨rfl, q, rfl⟩
      go_wp2
      go_ret
      exact ⟨rfl, below_drewN ((Below.refl _ _).alloc (Nat.le_refl _) _) _⟩
  rw [if_neg g8]
  have g9 : op = 35 ∨ op = 36 ∨ op = 37 ∨ op = 38 ∨ op = 39 ∨ op = 40 ∨ op = 41 ∨ op = 42 ∨ op = 43 ∨ op = 44 ∨ op = 45 ∨ op = 46 ∨ op = 47 := by unfold OpK at ho; omega
  clear ho g0 g1 g2 g3 g4 g5 g6 g7 g8
  rcases g9 with rfl | rfl | rfl | rfl | rfl | rfl | rfl | rfl | rfl | rfl | rfl | rfl | rfl
  all_goals
    clear HA HL
    go_enter Tryz.func61, Tryz.ntmps61
    go_wp2
    go_ret
    exact ⟨rfl, Below.refl _ _⟩
set_option maxRecDepth 10000 in
set_option maxHeartbeats 6400000 in
theorem stmt_all (hF : FS W fb gs S) (v : Value) (zs : List Int) (hz : KidsAt n W v zs) (hn : n ≤ W.heap.size) (hr : ∀ z ∈ zs, 0 ≤ z ∧ z < S.length) (op : Int) (ho : OpK op) :
    Calls Tryz.prog 62 #[.pointer (some ⟨fb, 0, none⟩), .int .i64 op, v] W fun e w' => e = .returned (.bool (stmtG S op zs)) ∧ Below W.heap.size W w' := by
  have HA := hid' (fun (W' : World) (hb : Below W.heap.size W W') (u : Value) (ss : List Int) (hu : SortsAt W' u ss) => are_any (n := n) (hF.keep hb).ptr (hF.keep hb).row v zs (hz.keep (hb.mono hn) (Nat.le_refl _)) hr u ss hu)
  have HL := hid' (fun s => kall_any (n := n) hF.ptr hF.row v zs hz hr s)
  have HSUB := hid' (And.intro hF (And.intro hz hr))
  obtain ⟨ao, cap, rfl, ⟨hcap, hzl⟩, _⟩ := hz
  unfold stmtG
  by_cases g0 : op ≤ 34
  · rw [if_pos g0]
    have g9 : (op = 1 ∨ op = 2 ∨ op = 3 ∨ op = 4 ∨ op = 5 ∨ op = 6 ∨ op = 7 ∨ op = 8 ∨ op = 9 ∨ op = 10 ∨ op = 11 ∨ op = 12 ∨ op = 13 ∨ op = 14 ∨ op = 15 ∨ op = 16 ∨ op = 17) ∨ (op = 18 ∨ op = 19 ∨ op = 20 ∨ op = 21 ∨ op = 22 ∨ op = 23 ∨ op = 24 ∨ op = 25 ∨ op = 26 ∨ op = 27 ∨ op = 28 ∨ op = 29 ∨ op = 30 ∨ op = 31 ∨ op = 32 ∨ op = 33 ∨ op = 34) := by
      unfold OpK at ho
      by_cases h17 : op ≤ 17
      · exact .inl (by omega)
      · exact .inr (by omega)
    clear ho g0 HSUB
    rcases g9 with g9 | g9
    · rcases g9 with rfl | rfl | rfl | rfl | rfl | rfl | rfl | rfl | rfl | rfl | rfl | rfl | rfl | rfl | rfl | rfl | rfl
      all_goals
        clear HA HL
        go_enter Tryz.func62, Tryz.ntmps62
        go_wp2
        go_ret
        exact ⟨rfl, Below.refl _ _⟩
    · rcases g9 with rfl | rfl | rfl | rfl | rfl | rfl | rfl | rfl | rfl | rfl | rfl | rfl | rfl | rfl | rfl | rfl | rfl
      all_goals
        clear HA HL
        go_enter Tryz.func62, Tryz.ntmps62
        go_wp2
        go_ret
        exact ⟨rfl, Below.refl _ _⟩
  rw [if_neg g0]
  by_cases g1 : op = 38 ∨ op = 39 ∨ op = 40
  · rw [if_pos g1]
    clear ho g0 HSUB
    rcases g1 with rfl | rfl | rfl
    all_goals
      have H1 := hid' (HA.out W (Below.refl _ _) _ _ (sorts_none W))
      clear HA HL
      generalize areF S zs [] = r at H1 ⊢
      go_enter Tryz.func62, Tryz.ntmps62
      go_wp2_with fail
      refine (H1.out).mono ?_
      rintro e w2 ⟨rfl, q, rfl⟩
      go_wp2
      go_ret
      exact ⟨rfl, below_drewN (Below.refl _ _) _⟩
  rw [if_neg g1]
  by_cases g2 : op = 35
  · rw [if_pos g2]
    clear ho g0 g1 HSUB
    subst g2
    have H1 := hid' (HA.out _ ((Below.refl _ _).alloc (Nat.le_refl _) _) _ _ (sorts_new W [1] (by simp) #[.int .u16 1] rfl))
    clear HA HL
    generalize areF S zs [1] = r at H1 ⊢
    go_enter Tryz.func62, Tryz.ntmps62
    go_wp2_with fail
    refine (H1.out).mono ?_
    rintro e w2 ⟨rfl, q, rfl⟩
    go_wp2
    go_ret
    exact ⟨rfl, below_drewN ((Below.refl _ _).alloc (Nat.le_refl _) _) _⟩
  rw [if_neg g2]
  by_cases g3 : op = 41 ∨ op = 46
  · rw [if_pos g3]
    clear ho g0 g1 g2 HSUB
    rcases g3 with rfl | rfl
    all_goals
      have H1 := hid' (HA.out W (Below.refl _ _) _ _ (sorts_none W))
      have HBA := hid' (Below.refl W.heap.size W)
      have H2 := hid' (fun (w2 : World) (hb : Below W.heap.size W w2) => HA.out _ (hb.alloc hb.size (.cells #[.int .u16 1] 81)) _ _ (sorts_new w2 [1] (by simp) #[.int .u16 1] rfl))
      clear HA HL
      generalize areF S zs [] = r at H1 ⊢
      generalize areF S zs [1] = r2 at H2 ⊢
      go_enter Tryz.func62, Tryz.ntmps62
      go_wp2_with fail
      refine (H1.out).mono ?_
      rintro e w2 ⟨rfl, q, hw2⟩
      have HB2 : Hid (Below W.heap.size W w2) := hid' (by rw [hw2]; exact below_drewN HBA.out _)
      clear hw2 HBA
      cases r with
      | true =>
        clear H2
        go_wp2
        go_ret
        exact ⟨rfl, HB2.out⟩
      | false =>
        go_wp2_with fail
        refine (H2.out _ HB2.out).mono ?_
        rintro e w3 ⟨rfl, q3, rfl⟩
        go_wp2
        go_ret
        exact ⟨by first | rfl | exact ret_bool' (by simp), below_drewN (HB2.out.alloc HB2.out.size _) _⟩
  rw [if_neg g3]
  by_cases g4 : op = 36
  · rw [if_pos g4]
    clear ho g0 g1 g2 g3 HSUB
    subst g4
    have H1 := hid' (HA.out _ ((Below.refl _ _).alloc (Nat.le_refl _) _) _ _ (sorts_new W [8, 1] (by simp) #[.int .u16 8, .int .u16 1] rfl))
    clear HA HL
    generalize areF S zs [8, 1] = r at H1 ⊢
    go_enter Tryz.func62, Tryz.ntmps62
    go_wp2_with fail
    refine (H1.out).mono ?_
    rintro e w2 ⟨rfl, q, rfl⟩
    go_wp2
    go_ret
    exact ⟨rfl, below_drewN ((Below.refl _ _).alloc (Nat.le_refl _) _) _⟩
  rw [if_neg g4]
  by_cases g5 : op = 37
  · rw [if_pos g5]
    clear ho g0 g1 g2 g3 g4 HSUB
    subst g5
    have H1 := hid' (HA.out _ ((Below.refl _ _).alloc (Nat.le_refl _) _) _ _ (sorts_new W [16, 1] (by simp) #[.int .u16 16, .int .u16 1] rfl))
    clear HA HL
    generalize areF S zs [16, 1] = r at H1 ⊢
    go_enter Tryz.func62, Tryz.ntmps62
    go_wp2_with fail
    refine (H1.out).mono ?_
    rintro e w2 ⟨rfl, q, rfl⟩
    go_wp2
    go_ret
    exact ⟨rfl, below_drewN ((Below.refl _ _).alloc (Nat.le_refl _) _) _⟩
  rw [if_neg g5]
  by_cases g6 : op = 42
  · rw [if_pos g6]
    clear ho g0 g1 g2 g3 g4 g5
    subst g6
    clear HA HSUB
    have HL1 := hid' (HL.out 128)
    clear HL
    generalize allF S 128 zs = r at HL1 ⊢
    by_cases h0 : zs = []
    · subst h0
      clear HL1
      go_enter Tryz.func62, Tryz.ntmps62
      go_wp2
      go_ret
      exact ⟨rfl, Below.refl _ _⟩
    · have hp := List.length_pos_iff.2 h0
      have hp' : (0 : Int) < (zs.length : Int) := by omega
      have he : zs.isEmpty = false := by simpa using h0
      rw [he]
      clear he h0
      go_enter Tryz.func62, Tryz.ntmps62
      go_wp2_with fail
      refine (HL1.out).mono ?_
      rintro e w2 ⟨rfl, rfl⟩
      go_wp2
      go_ret
      exact ⟨rfl, Below.refl _ _⟩
  rw [if_neg g6]
  by_cases g7 : op = 43
  · rw [if_pos g7]
    clear ho g0 g1 g2 g3 g4 g5 g6 HSUB
    subst g7
    have H1 := hid' (HA.out _ ((Below.refl _ _).alloc (Nat.le_refl _) (.cells #[.int .u16 1, .int .u16 256] 81)) _ _ (sorts_new W [1, 256] (by simp) #[.int .u16 1, .int .u16 256] rfl))
    have HBA := hid' ((Below.refl W.heap.size W).alloc (Nat.le_refl _) (.cells #[.int .u16 1, .int .u16 256] 81))
    have H2 := hid' (fun (w2 : World) (hb : Below W.heap.size W w2) => HA.out _ (hb.alloc hb.size (.cells #[.int .u16 1, .int .u16 256, .int .u16 256] 81)) _ _ (sorts_new w2 [1, 256, 256] (by simp) #[.int .u16 1, .int .u16 256, .int .u16 256] rfl))
    clear HA HL
    generalize areF S zs [1, 256] = r at H1 ⊢
    generalize areF S zs [1, 256, 256] = r2 at H2 ⊢
    go_enter Tryz.func62, Tryz.ntmps62
    go_wp2_with fail
    refine (H1.out).mono ?_
    rintro e w2 ⟨rfl, q, hw2⟩
    have HB2 : Hid (Below W.heap.size W w2) := hid' (by rw [hw2]; exact below_drewN HBA.out _)
    clear hw2 HBA
    cases r with
    | true =>
      clear H2
      go_wp2
      go_ret
      exact ⟨rfl, HB2.out⟩
    | false =>
      go_wp2_with fail
      refine (H2.out _ HB2.out).mono ?_
      rintro e w3 ⟨rfl, q3, rfl⟩
      go_wp2
      go_ret
      exact ⟨by first | rfl | exact ret_bool' (by simp), below_drewN (HB2.out.alloc HB2.out.size _) _⟩
  rw [if_neg g7]
  by_cases g8 : op = 44
  · rw [if_pos g8]
    clear ho g0 g1 g2 g3 g4 g5 g6 g7 HSUB
    subst g8
    have H1 := hid' (HA.out _ ((Below.refl _ _).alloc (Nat.le_refl _) _) _ _ (sorts_new W [8, 1, 256] (by simp) #[.int .u16 8, .int .u16 1, .int .u16 256] rfl))
    clear HA HL
    generalize areF S zs [8, 1, 256] = r at H1 ⊢
    go_enter Tryz.func62, Tryz.ntmps62
    go_wp2_with fail
    refine (H1.out).mono ?_
    rintro e w2 ⟨rfl, q, rfl⟩
    go_wp2
    go_ret
    exact ⟨rfl, below_drewN ((Below.refl _ _).alloc (Nat.le_refl _) _) _⟩
  rw [if_neg g8]
  by_cases g9 : op = 45
  · rw [if_pos g9]
    clear ho g0 g1 g2 g3 g4 g5 g6 g7 g8 HA HL
    subst g9
    by_cases h0 : zs = []
    · subst h0
      clear HSUB
      go_enter Tryz.func62, Tryz.ntmps62
      go_wp2
      go_ret
      exact ⟨rfl, Below.refl _ _⟩
    have hp := List.length_pos_iff.2 h0
    have he : zs.isEmpty = false := by simpa using h0
    rw [he]
    obtain ⟨m, hm⟩ : ∃ m, zs.length = m + 1 := ⟨zs.length - 1, by omega⟩
    rw [show zs.length - 1 = m by omega]
    obtain ⟨hF, hz, hr⟩ := HSUB.out
    obtain ⟨b, o, cap', e, _, _⟩ := kid_at hz (j := m) (by omega)
    simp only [Value.slice.injEq] at e
    obtain ⟨rfl, _, rfl⟩ := e
    have hp1 := hz.part 0 m (by omega) cap (by omega)
    rw [List.drop_zero, Nat.add_zero] at hp1
    have HS3 := hid' (kall_any (n := n) hF.ptr hF.row _ (zs.take m) hp1 (fun z hz => hr z (List.mem_of_mem_take hz)) 64)
    have hbA := (Below.refl W.heap.size W).alloc (Nat.le_refl _) (.cells #[.int .u16 256] 81)
    have hp2 := (hz.keep (hbA.mono hn) (Nat.le_refl _)).part m 1 (by omega) (cap - m) (by omega)
    rw [List.take_of_length_le (by rw [List.length_drop]; omega)] at hp2
    have hF2 := hF.keep hbA
    have HS4 := hid' (are_any (n := n) hF2.ptr hF2.row _ (zs.drop m) hp2 (fun z hz => hr z (List.mem_of_mem_drop hz)) _ [256] (sorts_new W [256] (by simp) #[.int .u16 256] rfl))
    clear hp1 hp2 hF2 hbA he hF hz hr
    generalize allF S 64 (zs.take m) = r at HS3 ⊢
    generalize areF S (zs.drop m) [256] = r2 at HS4 ⊢
    have hl1 : IntKind.i64.wrap ((zs.length : Int) - 1) = (m : Int) := by rw [IntWalk.i64_in _ ⟨by omega, by omega⟩]; omega
    have hge : decide ((m : Int) ≥ 0) = true := decide_eq_true (by omega)
    go_enter Tryz.func62, Tryz.ntmps62
    go_wp2_with fail
    refine (HS3.out).mono ?_
    rintro e w2 ⟨rfl, rfl⟩
    cases r with
    | false =>
      go_wp2
      go_ret
      exact ⟨rfl, Below.refl _ _⟩
    | true =>
      go_wp2_with fail
      refine (HS4.out).mono ?_
      rintro e w3 ⟨rfl, q, rfl⟩
      go_wp2
      go_ret
      exact ⟨by first | rfl | exact ret_bool' (by simp), below_drewN ((Below.refl _ _).alloc (Nat.le_refl _) _) _⟩
  rw [if_neg g9]
  obtain rfl : op = 47 := by unfold OpK at ho; omega
  clear ho g0 g1 g2 g3 g4 g5 g6 g7 g8 g9
  clear HA HSUB
  have HL1 := hid' (HL.out 32)
  clear HL
  generalize allF S 32 zs = r at HL1 ⊢
  by_cases h0 : zs = []
  · subst h0
    clear HL1
    go_enter Tryz.func62, Tryz.ntmps62
    go_wp2
    go_ret
    exact ⟨rfl, Below.refl _ _⟩
  · have hp := List.length_pos_iff.2 h0
    have hp' : (0 : Int) < (zs.length : Int) := by omega
    have he : zs.isEmpty = false := by simpa using h0
    rw [he]
    clear he h0
    go_enter Tryz.func62, Tryz.ntmps62
    go_wp2_with fail
    refine (HL1.out).mono ?_
    rintro e w2 ⟨rfl, rfl⟩
    go_wp2
    go_ret
    exact ⟨rfl, Below.refl _ _⟩
set_option maxRecDepth 10000 in
set_option maxHeartbeats 800000 in
theorem has_all (hF : FS W fb gs S) (x : Nd) (v : Value) (hz : KidsAt n W v x.kids) (hn : n ≤ W.heap.size) (hr : ∀ z ∈ x.kids, 0 ≤ z ∧ z < S.length) (ho : OpK x.op) :
    Calls Tryz.prog 39 #[.pointer (some ⟨fb, 0, none⟩), nodeW x v] W fun e w' => e = .returned (.bool (hasG S x)) ∧ Below W.heap.size W w' := by
  unfold hasG
  have hbA : Below W.heap.size W (W.alloc (.cells #[.int .i64 x.op, .int .i64 x.n, .int .i64 x.pos, .string x.s, v] 32)) := (Below.refl _ _).alloc (Nat.le_refl _) _
  have HE := hid' (expr_all (hF.keep hbA) v x.kids (hz.keep (hbA.mono hn) (Nat.le_refl _)) (by simp; omega) hr x.op ho)
  have HT := hid' (fun (W' : World) (hb : Below W.heap.size W W') => stmt_all (hF.keep hb) v x.kids (hz.keep (hb.mono hn) (Nat.le_refl _)) (Nat.le_trans hn hb.size) hr x.op ho)
  have HBA := hid' hbA
  clear hF hz hr hbA ho
  generalize exprG S x.op x.kids = a at HE ⊢
  generalize stmtG S x.op x.kids = b at HT ⊢
  obtain ⟨op, num, pos, s, kids⟩ := x
  unfold nodeW
  simp only at HE HT HBA ⊢
  go_enter Tryz.func39, Tryz.ntmps39
  go_wp2_with fail
  refine (HE.out).mono ?_
  rintro e w2 ⟨rfl, b2⟩
  have hlt : (W.alloc (.cells #[.int .i64 op, .int .i64 num, .int .i64 pos, .string s, v] 32)).heap.size = W.heap.size + 1 := by simp
  have HB2 := hid' (HBA.out.trans (b2.mono (by omega)))
  cases a with
  | true =>
    clear b2 HE HT hlt
    go_wp2
    go_ret
    exact ⟨rfl, HB2.out⟩
  | false =>
    have hr2 : RowV w2 W.heap.size 32 [.int .i64 op, .int .i64 num, .int .i64 pos, .string s, v] := (row_new W _ _).far (b2.block _ (by omega))
    have c0 := hr2.cell (j := 0) rfl
    have c4 := hr2.cell (j := 4) rfl
    have HT2 := hid' (HT.out w2 HB2.out)
    clear b2 HE HT hlt hr2
    go_wp2_with fail
    refine (HT2.out).mono ?_
    rintro e w3 ⟨rfl, b3⟩
    have HB3 := hid' (HB2.out.trans (b3.mono HB2.out.size))
    clear b3
    go_wp2
    go_ret
    exact ⟨by first | rfl | exact ret_bool' (by simp), HB3.out⟩
end
end Go.Proofs.YtpjjofdphlgeiaaGreatDoor

namespace Go.Proofs.YtpjjofdphlgeiaaGreatDoor
open Go.RowKit
open Lx Ax Ay

section
variable {W : World} {n fb gs cap : Nat} {S : List Int} {ao : Option Addr} {l : List Nd}
set_option maxRecDepth 10000 in
set_option maxHeartbeats 3200000 in
theorem sort_all (hF : FS W fb gs S) (h0 : W.cell? ⟨fb, 0, none⟩ = some (.slice ao l.length cap)) (hN : NodesAt n W ao l) (hn : n ≤ W.heap.size) (x : Nd) (v : Value) (hz : KidsAt n W v x.kids) (hr : ∀ z ∈ x.kids, 0 ≤ z ∧ z < S.length) (hSl : S.length = l.length) (ho : OpK x.op) :
    Calls Tryz.prog 40 #[.pointer (some ⟨fb, 0, none⟩), nodeW x v] W fun e w' => e = .returned (.int .u16 (sortG l S x)) ∧ Below W.heap.size W w' := by
  obtain ⟨op, num, pos, s, kids⟩ := x
  dsimp only at hz hr ho
  have hz' := hz
  obtain ⟨ako, kcap, rfl, ⟨hkc, hkl⟩, _⟩ := hz'
  have bA := (Below.refl W.heap.size W).alloc (Nat.le_refl _) (.cells #[.int .i64 op, .int .i64 num, .int .i64 pos, .string s, .slice ako kids.length kcap] 32)
  have HB := hid' bA
  unfold nodeW sortG
  dsimp only
  by_cases g1 : op = 6 ∨ op = 13
  · rw [if_pos g1]
    clear bA hz hr hN hF h0 ho
    rcases g1 with rfl | rfl
    all_goals
      go_enter Tryz.func40, Tryz.ntmps40
      go_wp2
      go_ret
      exact ⟨rfl, HB.out⟩
  rw [if_neg g1]
  by_cases g2 : op = 8
  · rw [if_pos g2]
    subst g2
    by_cases hk0 : kids = []
    · rw [if_neg (by rintro ⟨h, _⟩; exact h hk0)]
      subst hk0
      clear bA hz hr hN hF h0 ho g1
      go_enter Tryz.func40, Tryz.ntmps40
      go_wp2
      go_ret
      exact ⟨rfl, HB.out⟩
    · have hpos : (0 : Int) < (kids.length : Int) := by have := List.length_pos_iff.2 hk0; omega
      have hgt : decide ((kids.length : Int) > 0) = true := decide_eq_true hpos
      have hF2 := hF.keep bA
      have HL := hid' (kall_any (n := n) hF2.ptr hF2.row _ kids (hz.keep (bA.mono hn) (Nat.le_refl _)) hr 8)
      clear bA hz hr hN hF h0 ho g1 hF2
      have HK0 := hid' hk0
      clear hk0
      cases hall : allF S 8 kids with
      | true =>
        rw [if_pos ⟨HK0.out, rfl⟩]
        rw [hall] at HL
        clear hall HK0
        go_enter Tryz.func40, Tryz.ntmps40
        go_wp2_with fail
        refine (HL.out).mono ?_
        rintro e w2 ⟨rfl, rfl⟩
        go_wp2
        go_ret
        exact ⟨rfl, HB.out⟩
      | false =>
        rw [if_neg (by rintro ⟨_, h⟩; cases h)]
        rw [hall] at HL
        clear hall HK0
        go_enter Tryz.func40, Tryz.ntmps40
        go_wp2_with fail
        refine (HL.out).mono ?_
        rintro e w2 ⟨rfl, rfl⟩
        go_wp2
        go_ret
        exact ⟨rfl, HB.out⟩
  rw [if_neg g2]
  by_cases g3 : op = 15
  · rw [if_pos g3]
    subst g3
    clear bA hz hr hN hF h0 ho g1 g2
    go_enter Tryz.func40, Tryz.ntmps40
    go_wp2
    go_ret
    exact ⟨rfl, HB.out⟩
  rw [if_neg g3]
  by_cases g4 : op = 11
  · rw [if_pos g4]
    subst g4
    clear bA hz hr hN hF h0 ho g1 g2 g3
    go_enter Tryz.func40, Tryz.ntmps40
    go_wp2
    go_ret
    exact ⟨rfl, HB.out⟩
  rw [if_neg g4]
  by_cases g5 : op = 46
  · rw [if_pos g5]
    subst g5
    clear g1 g2 g3 g4 ho
    by_cases hk1 : kids.length = 1
    · obtain ⟨z, rfl⟩ : ∃ z, kids = [z] := by
        cases kids with
        | nil => simp at hk1
        | cons z r => cases r with
          | nil => exact ⟨z, rfl⟩
          | cons y r => simp at hk1
      have hz1 := hr z (by simp)
      obtain ⟨m, rfl⟩ := Int.eq_ofNat_of_zero_le hz1.1
      have hm : m < l.length := by omega
      obtain ⟨kb, ko, kc, e, _, hkz⟩ := kid_at hz (j := 0) (by simp)
      simp only [Value.slice.injEq] at e
      obtain ⟨rfl, _, rfl⟩ := e
      obtain ⟨nb, nv, rfl, hnb, N⟩ := hN.node m hm
      have l0 : fb < W.heap.size := World.block_lt_of_cell? W _ h0
      have lk : kb < W.heap.size := World.block_lt_of_cell? W _ hkz
      have ln : nb < W.heap.size := World.block_lt_of_cell? W _ N.op
      have ck := hkz
      have cn := N.op
      rw [Nat.add_zero] at ck
      have hmb : (0 : Int) ≤ (m : Int) ∧ (m : Int) < (l.length : Int) := by omega
      have hq : (l[m]?.map (·.op)) = some l[m].op := by rw [List.getElem?_eq_getElem hm]; rfl
      dsimp only
      rw [Int.toNat_natCast, hq]
      generalize l[m].op = op2 at cn ⊢
      clear N hq hkz bA hz hr hN hF hk1
      by_cases h5 : op2 = 5
      · subst h5
        rw [if_pos rfl]
        simp only [List.getElem_cons_zero] at ck
        go_enter Tryz.func40, Tryz.ntmps40
        go_wp2_with fail
        go_quiet (fail)
        go_wp2
        go_ret
        exact ⟨rfl, below_drewN HB.out _⟩
      · rw [if_neg (by simpa using h5)]
        have q5 : (op2 == 5) = false := by simpa using h5
        simp only [List.getElem_cons_zero] at ck
        go_enter Tryz.func40, Tryz.ntmps40
        go_wp2_with fail
        go_quiet (fail)
        go_wp2
        go_ret
        exact ⟨rfl, below_drewN HB.out _⟩
    · have hne : ((kids.length : Int) == 1) = false := by simp; omega
      clear bA hz hr hN hF h0
      obtain ⟨m, hm⟩ : ∃ m, kids.length = m := ⟨_, rfl⟩
      rw [hm] at hne hkl HB ⊢
      suffices hcc : Calls Tryz.prog 40 #[.pointer (some ⟨fb, 0, none⟩), .agg #[.int .i64 46, .int .i64 num, .int .i64 pos, .string s, .slice ako m kcap]] W fun e w' => e = .returned (.int .u16 64) ∧ Below W.heap.size W w' by
        refine hcc.mono ?_
        rintro e w' ⟨rfl, hb⟩
        refine ⟨?_, hb⟩
        cases kids with
        | nil => rfl
        | cons z r => cases r with
          | nil => exact absurd rfl hk1
          | cons y r => rfl
      clear hk1 hm
      go_enter Tryz.func40, Tryz.ntmps40
      go_wp2_with fail
      go_quiet (fail)
      go_wp2
      go_ret
      exact ⟨rfl, below_drewN HB.out _⟩
  rw [if_neg g5]
  by_cases g6 : op = 47
  · rw [if_pos g6]
    subst g6
    clear bA hz hr hN hF h0 ho g1 g2 g3 g4 g5
    go_enter Tryz.func40, Tryz.ntmps40
    go_wp2
    go_ret
    exact ⟨rfl, HB.out⟩
  rw [if_neg g6]
  by_cases g7 : 35 ≤ op
  · rw [if_pos g7]
    have g8 : op = 35 ∨ op = 36 ∨ op = 37 ∨ op = 38 ∨ op = 39 ∨ op = 40 ∨ op = 41 ∨ op = 42 ∨ op = 43 ∨ op = 44 ∨ op = 45 := by unfold OpK at ho; omega
    clear bA hz hr hN hF h0 ho g1 g2 g3 g4 g5 g6 g7
    rcases g8 with rfl | rfl | rfl | rfl | rfl | rfl | rfl | rfl | rfl | rfl | rfl
    all_goals
      go_enter Tryz.func40, Tryz.ntmps40
      go_wp2
      go_ret
      exact ⟨rfl, HB.out⟩
  rw [if_neg g7]
  have g8 : (op = 1 ∨ op = 2 ∨ op = 3 ∨ op = 4 ∨ op = 5 ∨ op = 7 ∨ op = 9 ∨ op = 10 ∨ op = 12 ∨ op = 14 ∨ op = 16 ∨ op = 17 ∨ op = 18 ∨ op = 19 ∨ op = 20 ∨ op = 21 ∨ op = 22) ∨ (op = 23 ∨ op = 24 ∨ op = 25 ∨ op = 26 ∨ op = 27 ∨ op = 28 ∨ op = 29 ∨ op = 30 ∨ op = 31 ∨ op = 32 ∨ op = 33 ∨ op = 34) := by
    unfold OpK at ho
    by_cases h22 : op ≤ 22
    · exact .inl (by omega)
    · exact .inr (by omega)
  clear bA hz hr hN hF h0 ho g1 g2 g3 g4 g5 g6 g7
  rcases g8 with g8 | g8
  · rcases g8 with rfl | rfl | rfl | rfl | rfl | rfl | rfl | rfl | rfl | rfl | rfl | rfl | rfl | rfl | rfl | rfl | rfl
    all_goals
      go_enter Tryz.func40, Tryz.ntmps40
      go_wp2
      go_ret
      exact ⟨rfl, HB.out⟩
  · rcases g8 with rfl | rfl | rfl | rfl | rfl | rfl | rfl | rfl | rfl | rfl | rfl | rfl
    all_goals
      go_enter Tryz.func40, Tryz.ntmps40
      go_wp2
      go_ret
      exact ⟨rfl, HB.out⟩
end
end Go.Proofs.YtpjjofdphlgeiaaGreatDoor
