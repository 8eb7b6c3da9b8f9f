/- smithylaw9.NumSays holds: any two numbers, reckoned with, are what the document says; its card, the listed variables tied to the program's text. Conditions: the listed package variables hold what the program's text lays. -/
import Derived.Test.YtapdkibiegeijaaDoorNumK
import Derived.Test.YtapdkibiegeijaaDoorErrSent
import Derived.Test.YtapdkibiegeijaaDoorNumSa
import Derived.OpenShut
import Derived.Sort.Walk0
namespace Go.Proofs.YtapdkibiegeijaaDoor
open Go.ChangeShapes Go.WideShapes Go.ChangeAt Go.RowKit
open Go.ChangeMaps (open_string shut_string)
namespace numSaysCard
theorem laidOut : laidOutB Tryd.prog = true := by kernel_rfl
theorem met {W : World} (h : laidMetH Tryd.prog Rows.numSaysRow.laid W) : laidMet Tryd.prog Rows.numSaysRow.laid W := by
  rw [MakeChecks.laidMetH_plain _ _ _ (by kernel_rfl)] at h; exact h

set_option maxRecDepth 100000 in
theorem contract (H : Type) (enc : TypeId × Value → H) (W : World) (base : Nat) (args : Array Value) (ds gs : List (DataW H)) (before : List MemPlace)
    (hval : ∀ (j : Nat) t v, Tryd.f3.params[j]? = some t → args[j]? = some v → Value.okWide Tryd.prog W .any base t v)
    (hW : DataW.Whole enc Tryd.prog Tryd.f3.params.toList Rows.numSaysSpec.vars false W args.toList ds gs before) (hL : laidMetH Tryd.prog Rows.numSaysRow.laid W) (_hsh : W.ShapedOpen Tryd.prog) :
    Calls Tryd.prog 3 args W fun e W' => ∃ v, e = .returned v ∧ Rows.numSaysSpec.post enc Tryd.prog Tryd.f3 false true false false W args v W' := by
  have hW' := hW
  obtain ⟨p, q, hA0, hV, rfl, hfz, hnd⟩ := hW
  have hA : DataW.TrodAll enc Tryd.prog W 0 (fun _ => true) true Tryd.f3.params.toList args.toList ds p := hA0
  rw [Tryd.params3] at hA hval
  obtain ⟨v0, vs0, d0, ds0, p0, q0, hargs, rfl, rfl, h0, r0⟩ := trodAll_cons hA
  obtain ⟨v1, vs1, d1, ds1, p1, q1, rfl, rfl, rfl, h1, r1⟩ := trodAll_cons r0
  obtain ⟨rfl, rfl, rfl⟩ := trodAll_nil r1
  obtain rfl : args = #[v0, v1] := by cases args; simp_all
  obtain ⟨rfl, rfl⟩ := trodVars_none hV
  obtain ⟨s0, rfl, rfl, rfl, z0⟩ := open_string Tryd.underlying9 (hval 0 9 v0 rfl rfl) h0
  obtain ⟨s1, rfl, rfl, rfl, z1⟩ := open_string Tryd.underlying9 (hval 1 9 v1 rfl rfl) h1
  clear hA0
  simp only [List.append_nil] at hW'
  have hT : Nm.Tab W := tab_of (met hL) (by simp [Rows.numSaysRow])
  have hm := met hL
  obtain ⟨a0, e0⟩ := err_idx (g := 3) (text := errText 0) hm 3 rfl (by kernel_rfl) (by kernel_rfl)
  obtain ⟨a1, e1⟩ := err_idx (g := 4) (text := errText 1) hm 4 rfl (by kernel_rfl) (by kernel_rfl)
  obtain ⟨a2, e2⟩ := err_idx (g := 5) (text := errText 2) hm 5 rfl (by kernel_rfl) (by kernel_rfl)
  obtain ⟨a3, e3⟩ := err_idx (g := 6) (text := errText 3) hm 6 rfl (by kernel_rfl) (by kernel_rfl)
  obtain ⟨a4, e4⟩ := err_idx (g := 7) (text := errText 4) hm 7 rfl (by kernel_rfl) (by kernel_rfl)
  obtain ⟨a5, e5⟩ := err_idx (g := 8) (text := errText 5) hm 8 rfl (by kernel_rfl) (by kernel_rfl)
  obtain ⟨a6, e6⟩ := err_idx (g := 9) (text := errText 6) hm 9 rfl (by kernel_rfl) (by kernel_rfl)
  obtain ⟨a7, e7⟩ := err_idx (g := 1) (text := errText 7) hm 10 rfl (by kernel_rfl) (by kernel_rfl)
  obtain ⟨a8, e8⟩ := err_idx (g := 10) (text := errText 8) hm 11 rfl (by kernel_rfl) (by kernel_rfl)
  obtain ⟨a9, e9⟩ := err_idx (g := 11) (text := errText 9) hm 12 rfl (by kernel_rfl) (by kernel_rfl)
  obtain ⟨a10, e10⟩ := err_idx (g := 12) (text := errText 10) hm 13 rfl (by kernel_rfl) (by kernel_rfl)
  obtain ⟨a11, e11⟩ := err_idx (g := 13) (text := errText 11) hm 14 rfl (by kernel_rfl) (by kernel_rfl)
  obtain ⟨a12, e12⟩ := err_idx (g := 0) (text := errText 12) hm 15 rfl (by kernel_rfl) (by kernel_rfl)
  obtain ⟨a13, e13⟩ := err_idx (g := 14) (text := errText 13) hm 16 rfl (by kernel_rfl) (by kernel_rfl)
  obtain ⟨a14, e14⟩ := err_idx (g := 15) (text := errText 14) hm 17 rfl (by kernel_rfl) (by kernel_rfl)
  obtain ⟨a15, e15⟩ := err_idx (g := 16) (text := errText 15) hm 18 rfl (by kernel_rfl) (by kernel_rfl)
  obtain ⟨a16, e16⟩ := err_idx (g := 17) (text := errText 16) hm 19 rfl (by kernel_rfl) (by kernel_rfl)
  have hS : Sent (fun i => [a0, a1, a2, a3, a4, a5, a6, a7, a8, a9, a10, a11, a12, a13, a14, a15, a16].getD i a0) W := sent_of e0 e1 e2 e3 e4 e5 e6 e7 e8 e9 e10 e11 e12 e13 e14 e15 e16
  refine (Nm.numSays_any s0 s1 _ W hT hS).mono fun e W' ⟨he, hg⟩ => ?_
  subst he
  exact ⟨_, rfl, _, _, _, [], _, [], hW', trodAll_mk1 (shut_bool Tryd.underlying4 _), trodAll_mk2 (shut_string Tryd.underlying9 z0) (shut_string Tryd.underlying9 z1), rfl, hg.frame _, fun h => by cases h⟩

theorem laid_met (os : Os) : laidMetH Tryd.prog Rows.numSaysRow.laid ((World.laidAll Tryd.prog os Rows.numSaysRow.laid).forCall (fun _ _ => 0) ⟨#[], #[.string ⟨#[]⟩, .string ⟨#[]⟩], []⟩).memory := by
  rw [MakeChecks.laidMetH_plain _ _ _ (by kernel_rfl)]
  exact laidMet_laidAll _ (by kernel_rfl) (by kernel_rfl)
theorem reads (os : Os) {H : Type} (enc : TypeId × Value → H) : ∃ places, DataW.whole enc Tryd.prog ((World.laidAll Tryd.prog os Rows.numSaysRow.laid).forCall (fun _ _ => 0) ⟨#[], #[.string ⟨#[]⟩, .string ⟨#[]⟩], []⟩).memory Tryd.f3.params.toList Rows.numSaysSpec.vars false #[Value.string ⟨#[]⟩, Value.string ⟨#[]⟩].toList 8 = some ([.lit (.string []), .lit (.string [])], [], places) :=
  ⟨[], by kernel_rfl⟩

set_option maxRecDepth 100000 in
theorem lifted (os : Os) (started : os.Started) (H : Type) (enc : TypeId × Value → H) (F : Stop.Interp) :
    ReturnsInHanded {} Tryd.checked os 3 .any ((OpenSpec.ofChange Rows.numSaysSpec).preRow enc Tryd.prog Tryd.f3 Rows.numSaysRow.domain false Rows.numSaysRow.laid) (((OpenSpec.ofChange Rows.numSaysSpec).at F).post enc Tryd.prog Tryd.f3 false true false false) := by
  obtain ⟨places, hx⟩ := reads os enc
  refine returnsInHanded_of_row (C := Tryd.checked) (s := OpenSpec.ofChange Rows.numSaysSpec) own started (by kernel_rfl) Tryd.func3
    ⟨World.laidAll Tryd.prog os Rows.numSaysRow.laid, fun _ _ => 0, ⟨#[], #[.string ⟨#[]⟩, .string ⟨#[]⟩], []⟩, World.laidAll_os _ _ _, World.shaped_of_ZipB (by kernel_rfl) (by kernel_rfl), rfl, (Input.okWide_of_okWideB (by kernel_rfl)).2,
      OpenSpec.preRow_of_cond 8 hx (by kernel_rfl) (fun k hk => by cases hk) (by kernel_rfl) (laid_met os), by simp [Assume.holds]⟩ ?_
  intro W base args ds gs before hval hW _ _ _ hL hsh _
  exact contract H enc W base args ds gs before hval hW hL hsh

theorem said : Rows.NumSaysSaid :=
  OpenClaim.holds_of_cond 3 Tryd.f3 rfl rfl rfl rfl rfl rfl rfl ⟨rfl, rfl, rfl, rfl, rfl⟩ rfl rfl rfl rfl rfl (by kernel_rfl) Tryd.func3 (by kernel_rfl)
    (of_decide_eq_true (by kernel_rfl)) (by unfold Func.isWrapper; first | (rw [if_pos (by decide +kernel)]; kernel_rfl) | (rw [if_neg (by decide +kernel)]; exact ⟨rfl, rfl⟩))
    (fun os started H enc _ F => by rw [OpenClaim.pre_eq_preRow]; exact lifted os started H enc F)

theorem plain (f : FuncId) (fn : Func) (hf : Tryd.pinned.checked.prog.funcNamed Rows.numSaysRow.func = some f) (hfn : Tryd.pinned.checked.prog.funcs[f]? = some fn) :
    true = Tryd.pinned.checked.prog.looks [] ∧ ∀ (j : Nat) t, fn.params[j]? = some t → Tryd.pinned.checked.prog.wantsStandIn t = false := by
  obtain rfl : f = 3 := Option.some.inj ((show Tryd.prog.funcNamed Rows.numSaysRow.func = some 3 by kernel_rfl).symm.trans hf) |>.symm
  obtain rfl : fn = Tryd.f3 := (Option.some.inj (Tryd.func3.symm.trans hfn)).symm
  refine ⟨by kernel_rfl, fun j t ht => ?_⟩
  rw [Tryd.params3] at ht
  have hm : t ∈ [9, 9] := by simpa using Array.mem_of_getElem? ht
  have hall : ([9, 9].all fun u => !Tryd.prog.wantsStandIn u) = true := by kernel_rfl
  exact (show Tryd.prog.wantsStandIn t = false by simpa using List.all_eq_true.1 hall t hm)

theorem card : Rows.NumSaysCardSaid :=
  Claim7.holds_tied_plain_at .later [] _ _ _ _ said (fun _ h => by cases h) (by kernel_rfl) (fun _ h => by cases h) numSays_row_tie rfl ⟨rfl, rfl⟩ (by kernel_rfl) rfl plain (by kernel_rfl)

end numSaysCard
end Go.Proofs.YtapdkibiegeijaaDoor
