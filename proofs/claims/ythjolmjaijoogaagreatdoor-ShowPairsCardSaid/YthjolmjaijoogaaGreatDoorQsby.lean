/- smithylaw7.ShowPairs holds: for every two numbers, in either shape, the law returns true; its card, the listed variables tied to the program's text. Conditions: the listed package variables hold what the program's text lays. -/
import Derived.Test.YthjolmjaijoogaaGreatDoorQsau
import Derived.Test.YthjolmjaijoogaaGreatDoorQsbx
namespace Go.Proofs.YthjolmjaijoogaaGreatDoor
open Go.ChangeShapes Go.WideShapes Go.ChangeAt Go.RowKit
open Go.ChangeMaps (open_string shut_string)
namespace showPairsCard
theorem laidOut : laidOutB Tryz.prog = true := by kernel_rfl
theorem met {W : World} (h : laidMetH Tryz.prog Rows.showPairsRow.laid W) : laidMet Tryz.prog Rows.showPairsRow.laid W := by
  rw [MakeChecks.laidMetH_plain _ _ _ (by kernel_rfl)] at h; exact h

set_option maxRecDepth 100000 in
theorem contract (H : Type) (enc : TypeId × Value → H) (W : World) (base : Nat) (args : Array Value) (ds gs : List (DataW H)) (before : List MemPlace)
    (hval : ∀ (j : Nat) t v, Tryz.f4.params[j]? = some t → args[j]? = some v → Value.okWide Tryz.prog W .any base t v)
    (hW : DataW.Whole enc Tryz.prog Tryz.f4.params.toList Rows.showPairsSpec.vars false W args.toList ds gs before) (hL : laidMetH Tryz.prog Rows.showPairsRow.laid W) (_hsh : W.ShapedOpen Tryz.prog) :
    Calls Tryz.prog 4 args W fun e W' => ∃ v, e = .returned v ∧ Rows.showPairsSpec.post enc Tryz.prog Tryz.f4 false true false false W args v W' := by
  have hW' := hW
  obtain ⟨p, q, hA0, hV, rfl, hfz, hnd⟩ := hW
  have hA : DataW.TrodAll enc Tryz.prog W 0 (fun _ => true) true Tryz.f4.params.toList args.toList ds p := hA0
  rw [Tryz.params4] at hA hval
  obtain ⟨v0, vs0, d0, ds0, p0, q0, hargs, rfl, rfl, h0, r0⟩ := trodAll_cons hA
  obtain ⟨v1, vs1, d1, ds1, p1, q1, rfl, rfl, rfl, h1, r1⟩ := trodAll_cons r0
  obtain ⟨v2, vs2, d2, ds2, p2, q2, rfl, rfl, rfl, h2, r2⟩ := trodAll_cons r1
  obtain ⟨rfl, rfl, rfl⟩ := trodAll_nil r2
  obtain rfl : args = #[v0, v1, v2] := by cases args; simp_all
  obtain ⟨rfl, rfl⟩ := trodVars_none hV
  obtain ⟨x0, rfl, rfl, rfl, z0⟩ := open_int Tryz.underlying3 (hval 0 3 v0 rfl rfl) h0
  obtain ⟨x1, rfl, rfl, rfl, z1⟩ := open_int Tryz.underlying3 (hval 1 3 v1 rfl rfl) h1
  obtain ⟨x2, rfl, rfl, rfl⟩ := open_bool Tryz.underlying4 (hval 2 4 v2 rfl rfl) h2
  clear hA0
  simp only [List.append_nil] at hW'
  have hm := met hL
  obtain ⟨a0, e0⟩ := err_idx (g := 4) (text := errText 0) hm 0 rfl (by kernel_rfl) (by kernel_rfl)
  obtain ⟨a1, e1⟩ := err_idx (g := 3) (text := errText 1) hm 1 rfl (by kernel_rfl) (by kernel_rfl)
  obtain ⟨a2, e2⟩ := err_idx (g := 5) (text := errText 2) hm 2 rfl (by kernel_rfl) (by kernel_rfl)
  obtain ⟨a3, e3⟩ := err_idx (g := 6) (text := errText 3) hm 3 rfl (by kernel_rfl) (by kernel_rfl)
  obtain ⟨a4, e4⟩ := err_idx (g := 7) (text := errText 4) hm 4 rfl (by kernel_rfl) (by kernel_rfl)
  obtain ⟨a5, e5⟩ := err_idx (g := 8) (text := errText 5) hm 5 rfl (by kernel_rfl) (by kernel_rfl)
  obtain ⟨a6, e6⟩ := err_idx (g := 9) (text := errText 6) hm 6 rfl (by kernel_rfl) (by kernel_rfl)
  obtain ⟨a7, e7⟩ := err_idx (g := 1) (text := errText 7) hm 7 rfl (by kernel_rfl) (by kernel_rfl)
  obtain ⟨a8, e8⟩ := err_idx (g := 10) (text := errText 8) hm 8 rfl (by kernel_rfl) (by kernel_rfl)
  obtain ⟨a9, e9⟩ := err_idx (g := 0) (text := errText 9) hm 9 rfl (by kernel_rfl) (by kernel_rfl)
  obtain ⟨a10, e10⟩ := err_idx (g := 11) (text := errText 10) hm 10 rfl (by kernel_rfl) (by kernel_rfl)
  obtain ⟨a11, e11⟩ := err_idx (g := 12) (text := errText 11) hm 11 rfl (by kernel_rfl) (by kernel_rfl)
  obtain ⟨a12, e12⟩ := err_idx (g := 2) (text := errText 12) hm 12 rfl (by kernel_rfl) (by kernel_rfl)
  obtain ⟨a13, e13⟩ := err_idx (g := 13) (text := errText 13) hm 13 rfl (by kernel_rfl) (by kernel_rfl)
  obtain ⟨a14, e14⟩ := err_idx (g := 14) (text := errText 14) hm 14 rfl (by kernel_rfl) (by kernel_rfl)
  obtain ⟨a15, e15⟩ := err_idx (g := 15) (text := errText 15) hm 15 rfl (by kernel_rfl) (by kernel_rfl)
  obtain ⟨a16, e16⟩ := err_idx (g := 16) (text := errText 16) hm 16 rfl (by kernel_rfl) (by kernel_rfl)
  have hS : Sent (fun i => [a0, a1, a2, a3, a4, a5, a6, a7, a8, a9, a10, a11, a12, a13, a14, a15, a16].getD i a0) W := sent_of e0 e1 e2 e3 e4 e5 e6 e7 e8 e9 e10 e11 e12 e13 e14 e15 e16
  have hV : Vars (fun i => [a0, a1, a2, a3, a4, a5, a6, a7, a8, a9, a10, a11, a12, a13, a14, a15, a16].getD i a0) W := ⟨words_of hm (by simp [Rows.showPairsRow]), hS.g0⟩
  refine (showPairs_any _ x0 x1 x2 W ⟨hV, hS⟩).mono fun e W' ⟨he, hg⟩ => ?_
  subst he
  exact ⟨_, rfl, _, _, _, [], _, [], hW', trodAll_mk1 (shut_bool Tryz.underlying4 _), trodAll_mk3 (shut_int Tryz.underlying3 z0) (shut_int Tryz.underlying3 z1) (shut_bool Tryz.underlying4 _), rfl, hg.frame _, fun h => by cases h⟩

theorem laid_met (os : Os) : laidMetH Tryz.prog Rows.showPairsRow.laid ((World.laidAll Tryz.prog os Rows.showPairsRow.laid).forCall (fun _ _ => 0) ⟨#[], #[.int .i64 0, .int .i64 0, .bool false], []⟩).memory := by
  rw [MakeChecks.laidMetH_plain _ _ _ (by kernel_rfl)]
  exact laidMet_laidAll _ (by kernel_rfl) (by kernel_rfl)
theorem reads (os : Os) {H : Type} (enc : TypeId × Value → H) : ∃ places, DataW.whole enc Tryz.prog ((World.laidAll Tryz.prog os Rows.showPairsRow.laid).forCall (fun _ _ => 0) ⟨#[], #[.int .i64 0, .int .i64 0, .bool false], []⟩).memory Tryz.f4.params.toList Rows.showPairsSpec.vars false #[Value.int .i64 0, Value.int .i64 0, Value.bool false].toList 8 = some ([.lit (.int .i64 0), .lit (.int .i64 0), .lit (.bool false)], [], places) :=
  ⟨[], by kernel_rfl⟩

set_option maxRecDepth 100000 in
theorem lifted (os : Os) (started : os.Started) (H : Type) (enc : TypeId × Value → H) (F : Stop.Interp) :
    ReturnsInHanded {} Tryz.checked os 4 .any ((OpenSpec.ofChange Rows.showPairsSpec).preRow enc Tryz.prog Tryz.f4 Rows.showPairsRow.domain false Rows.showPairsRow.laid) (((OpenSpec.ofChange Rows.showPairsSpec).at F).post enc Tryz.prog Tryz.f4 false true false false) := by
  obtain ⟨places, hx⟩ := reads os enc
  refine returnsInHanded_of_row (C := Tryz.checked) (s := OpenSpec.ofChange Rows.showPairsSpec) own started (by kernel_rfl) Tryz.func4
    ⟨World.laidAll Tryz.prog os Rows.showPairsRow.laid, fun _ _ => 0, ⟨#[], #[.int .i64 0, .int .i64 0, .bool false], []⟩, World.laidAll_os _ _ _, World.shaped_of_ZipB (by kernel_rfl) (by kernel_rfl), rfl, (Input.okWide_of_okWideB (by kernel_rfl)).2,
      OpenSpec.preRow_of_cond 8 hx (by kernel_rfl) (fun k hk => by cases hk) (by kernel_rfl) (laid_met os), by simp [Assume.holds]⟩ ?_
  intro W base args ds gs before hval hW _ _ _ hL hsh _
  exact contract H enc W base args ds gs before hval hW hL hsh

theorem said : Rows.ShowPairsSaid :=
  OpenClaim.holds_of_cond 4 Tryz.f4 rfl rfl rfl rfl rfl rfl rfl ⟨rfl, rfl, rfl, rfl, rfl⟩ rfl rfl rfl rfl rfl (by kernel_rfl) Tryz.func4 (by kernel_rfl)
    (of_decide_eq_true (by kernel_rfl)) (by unfold Func.isWrapper; first | (rw [if_pos (by decide +kernel)]; kernel_rfl) | (rw [if_neg (by decide +kernel)]; exact ⟨rfl, rfl⟩))
    (fun os started H enc _ F => by rw [OpenClaim.pre_eq_preRow]; exact lifted os started H enc F)

theorem plain (f : FuncId) (fn : Func) (hf : Tryz.pinned.checked.prog.funcNamed Rows.showPairsRow.func = some f) (hfn : Tryz.pinned.checked.prog.funcs[f]? = some fn) :
    true = Tryz.pinned.checked.prog.looks [] ∧ ∀ (j : Nat) t, fn.params[j]? = some t → Tryz.pinned.checked.prog.wantsStandIn t = false := by
  obtain rfl : f = 4 := Option.some.inj ((show Tryz.prog.funcNamed Rows.showPairsRow.func = some 4 by kernel_rfl).symm.trans hf) |>.symm
  obtain rfl : fn = Tryz.f4 := (Option.some.inj (Tryz.func4.symm.trans hfn)).symm
  refine ⟨by kernel_rfl, fun j t ht => ?_⟩
  rw [Tryz.params4] at ht
  have hm : t ∈ [3, 3, 4] := by simpa using Array.mem_of_getElem? ht
  have hall : ([3, 3, 4].all fun u => !Tryz.prog.wantsStandIn u) = true := by kernel_rfl
  exact (show Tryz.prog.wantsStandIn t = false by simpa using List.all_eq_true.1 hall t hm)

theorem card : Rows.ShowPairsCardSaid :=
  Claim7.holds_tied_plain_at .later [] _ _ _ _ said (fun _ h => by cases h) (by kernel_rfl) (fun _ h => by cases h) showPairs_row_tie rfl ⟨rfl, rfl⟩ (by kernel_rfl) rfl plain (by kernel_rfl)

end showPairsCard
end Go.Proofs.YthjolmjaijoogaaGreatDoor
