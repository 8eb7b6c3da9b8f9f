/- smithylaw11.StrSays holds: every function of texts says what the document says of it: Split, Words, Join, Replace, Repeat, Cut, Find, Count, Strip, Upper, Lower and IsDigits; its card, the listed variables tied to the program's text. Conditions: the listed package variables hold what the program's text lays. -/
import Derived.Test.YtdiocmcfaneajaaGreatDoorStArgT
import Derived.Test.YtdiocmcfaneajaaGreatDoorErrSent
import Derived.Test.YtdiocmcfaneajaaGreatDoorSySl
namespace Go.Proofs.YtdiocmcfaneajaaGreatDoor
open Go.ChangeShapes Go.WideShapes Go.ChangeAt Go.RowKit
open Go.ChangeMaps (open_string shut_string)
namespace strSaysCard
theorem laidOut : laidOutB Tryz.prog = true := by kernel_rfl
theorem met {W : World} (h : laidMetH Tryz.prog Rows.strSaysRow.laid W) : laidMet Tryz.prog Rows.strSaysRow.laid W := by
  rw [MakeChecks.laidMetH_plain _ _ _ (by kernel_rfl)] at h; exact h

set_option maxRecDepth 100000 in
theorem contract (H : Type) (enc : TypeId × Value → H) (W : World) (base : Nat) (args : Array Value) (ds gs : List (DataW H)) (before : List MemPlace)
    (hval : ∀ (j : Nat) t v, Tryz.f3.params[j]? = some t → args[j]? = some v → Value.okWide Tryz.prog W .any base t v)
    (hW : DataW.Whole enc Tryz.prog Tryz.f3.params.toList Rows.strSaysSpec.vars false W args.toList ds gs before) (hL : laidMetH Tryz.prog Rows.strSaysRow.laid W) (hsh : W.ShapedOpen Tryz.prog) :
    Calls Tryz.prog 3 args W fun e W' => ∃ v, e = .returned v ∧ Rows.strSaysSpec.post enc Tryz.prog Tryz.f3 false true false false W args v W' := by
  have hW' := hW
  obtain ⟨p, q, hA0, hV, rfl, hfz, hnd⟩ := hW
  have hA : DataW.TrodAll enc Tryz.prog W 0 (fun _ => true) true Tryz.f3.params.toList args.toList ds p := hA0
  rw [Tryz.params3] at hA hval
  obtain ⟨v0, vs0, d0, ds0, p0, q0, hargs, rfl, rfl, h0, r0⟩ := trodAll_cons hA
  obtain ⟨v1, vs1, d1, ds1, p1, q1, rfl, rfl, rfl, h1, r1⟩ := trodAll_cons r0
  obtain ⟨v2, vs2, d2, ds2, p2, q2, rfl, rfl, rfl, h2, r2⟩ := trodAll_cons r1
  obtain ⟨v3, vs3, d3, ds3, p3, q3, rfl, rfl, rfl, h3, r3⟩ := trodAll_cons r2
  obtain ⟨v4, vs4, d4, ds4, p4, q4, rfl, rfl, rfl, h4, r4⟩ := trodAll_cons r3
  obtain ⟨v5, vs5, d5, ds5, p5, q5, rfl, rfl, rfl, h5, r5⟩ := trodAll_cons r4
  obtain ⟨v6, vs6, d6, ds6, p6, q6, rfl, rfl, rfl, h6, r6⟩ := trodAll_cons r5
  obtain ⟨v7, vs7, d7, ds7, p7, q7, rfl, rfl, rfl, h7, r7⟩ := trodAll_cons r6
  obtain ⟨rfl, rfl, rfl⟩ := trodAll_nil r7
  obtain rfl : args = #[v0, v1, v2, v3, v4, v5, v6, v7] := by cases args; simp_all
  obtain ⟨rfl, rfl⟩ := trodVars_none hV
  obtain ⟨s0, rfl, rfl, rfl, z0⟩ := open_string Tryz.underlying9 (hval 0 9 v0 rfl rfl) h0
  obtain ⟨s1, rfl, rfl, rfl, z1⟩ := open_string Tryz.underlying9 (hval 1 9 v1 rfl rfl) h1
  obtain ⟨s2, rfl, rfl, rfl, z2⟩ := open_string Tryz.underlying9 (hval 2 9 v2 rfl rfl) h2
  obtain ⟨x4, rfl, rfl, rfl, z4⟩ := open_int Tryz.underlying3 (hval 4 3 v4 rfl rfl) h4
  obtain ⟨x5, rfl, rfl, rfl, z5⟩ := open_int Tryz.underlying3 (hval 5 3 v5 rfl rfl) h5
  obtain ⟨x6, rfl, rfl, rfl⟩ := open_bool Tryz.underlying4 (hval 6 4 v6 rfl rfl) h6
  obtain ⟨x7, rfl, rfl, rfl⟩ := open_bool Tryz.underlying4 (hval 7 4 v7 rfl rfl) h7
  obtain ⟨ao3, len3, cap3, rfl⟩ := okWide_slice Tryz.underlying22 (hval 3 22 v3 rfl rfl)
  clear hA0
  simp only [List.append_nil, List.nil_append] at hW'
  have hlt3 : ∀ x ∈ p3, x.block < W.heap.size := fun x hx => hW'.lt x (by simp [hx])
  obtain ⟨xs3, hlen3, hX3⟩ := slice_texts h3 hlt3
  subst hlen3
  have hm := met hL
  obtain ⟨a0, e0⟩ := err_idx (g := 4) (text := errText 0) hm 5 rfl (by kernel_rfl) (by kernel_rfl)
  obtain ⟨a1, e1⟩ := err_idx (g := 5) (text := errText 1) hm 6 rfl (by kernel_rfl) (by kernel_rfl)
  obtain ⟨a2, e2⟩ := err_idx (g := 6) (text := errText 2) hm 7 rfl (by kernel_rfl) (by kernel_rfl)
  obtain ⟨a3, e3⟩ := err_idx (g := 0) (text := errText 3) hm 8 rfl (by kernel_rfl) (by kernel_rfl)
  obtain ⟨a4, e4⟩ := err_idx (g := 7) (text := errText 4) hm 9 rfl (by kernel_rfl) (by kernel_rfl)
  obtain ⟨a5, e5⟩ := err_idx (g := 8) (text := errText 5) hm 10 rfl (by kernel_rfl) (by kernel_rfl)
  obtain ⟨a6, e6⟩ := err_idx (g := 9) (text := errText 6) hm 11 rfl (by kernel_rfl) (by kernel_rfl)
  obtain ⟨a7, e7⟩ := err_idx (g := 1) (text := errText 7) hm 12 rfl (by kernel_rfl) (by kernel_rfl)
  obtain ⟨a8, e8⟩ := err_idx (g := 10) (text := errText 8) hm 13 rfl (by kernel_rfl) (by kernel_rfl)
  obtain ⟨a9, e9⟩ := err_idx (g := 11) (text := errText 9) hm 14 rfl (by kernel_rfl) (by kernel_rfl)
  obtain ⟨a10, e10⟩ := err_idx (g := 12) (text := errText 10) hm 15 rfl (by kernel_rfl) (by kernel_rfl)
  obtain ⟨a11, e11⟩ := err_idx (g := 13) (text := errText 11) hm 16 rfl (by kernel_rfl) (by kernel_rfl)
  obtain ⟨a12, e12⟩ := err_idx (g := 14) (text := errText 12) hm 17 rfl (by kernel_rfl) (by kernel_rfl)
  obtain ⟨a13, e13⟩ := err_idx (g := 15) (text := errText 13) hm 18 rfl (by kernel_rfl) (by kernel_rfl)
  obtain ⟨a14, e14⟩ := err_idx (g := 16) (text := errText 14) hm 19 rfl (by kernel_rfl) (by kernel_rfl)
  obtain ⟨a15, e15⟩ := err_idx (g := 17) (text := errText 15) hm 20 rfl (by kernel_rfl) (by kernel_rfl)
  obtain ⟨a16, e16⟩ := err_idx (g := 18) (text := errText 16) hm 21 rfl (by kernel_rfl) (by kernel_rfl)
  have hS : Sent (fun i => [a0, a1, a2, a3, a4, a5, a6, a7, a8, a9, a10, a11, a12, a13, a14, a15, a16].getD i a0) W := sent_of e0 e1 e2 e3 e4 e5 e6 e7 e8 e9 e10 e11 e12 e13 e14 e15 e16
  obtain ⟨m, hMax⟩ : ∃ m : Int, W.cell? ⟨2, 0, none⟩ = some (.int .i64 m) := Tryz.laysM143.s1_3 W hsh
  have hV : St.Lw (E (fun i => [a0, a1, a2, a3, a4, a5, a6, a7, a8, a9, a10, a11, a12, a13, a14, a15, a16].getD i a0) 3) 153 (.pointer (some ((fun i => [a0, a1, a2, a3, a4, a5, a6, a7, a8, a9, a10, a11, a12, a13, a14, a15, a16].getD i a0) 7))) m W := ⟨⟨hS.g3, hS.g7, hMax⟩, St.words_of hm (by simp [Rows.strSaysRow])⟩
  refine (St.strSays_any hV hS s0 s1 s2 _ _ _ xs3 hX3 rfl x4 x5 x6 x7 (St.bounds_i64 z4).1 (St.bounds_i64 z4).2 (St.bounds_i64 z5).1 (St.bounds_i64 z5).2).mono fun e W' ⟨he, hg⟩ => ?_
  subst he
  exact ⟨_, rfl, _, _, _, [], _, [], hW', trodAll_mk1 (shut_bool Tryz.underlying4 _), trodAll_mk8 (shut_string Tryz.underlying9 z0) (shut_string Tryz.underlying9 z1) (shut_string Tryz.underlying9 z2) (Below.trod laidOut (by kernel_rfl) (of_decide_eq_true (by kernel_rfl)) h3 hg hlt3) (shut_int Tryz.underlying3 z4) (shut_int Tryz.underlying3 z5) (shut_bool Tryz.underlying4 _) (shut_bool Tryz.underlying4 _), rfl, hg.frame _, fun h => by cases h⟩

theorem laid_met (os : Os) : laidMetH Tryz.prog Rows.strSaysRow.laid ((World.laidAll Tryz.prog os Rows.strSaysRow.laid).forCall (fun _ _ => 0) ⟨#[], #[.string ⟨#[]⟩, .string ⟨#[]⟩, .string ⟨#[]⟩, .slice none 0 0, .int .i64 0, .int .i64 0, .bool false, .bool false], []⟩).memory := by
  rw [MakeChecks.laidMetH_plain _ _ _ (by kernel_rfl)]
  exact laidMet_laidAll _ (by kernel_rfl) (by kernel_rfl)
theorem reads (os : Os) {H : Type} (enc : TypeId × Value → H) : ∃ places, DataW.whole enc Tryz.prog ((World.laidAll Tryz.prog os Rows.strSaysRow.laid).forCall (fun _ _ => 0) ⟨#[], #[.string ⟨#[]⟩, .string ⟨#[]⟩, .string ⟨#[]⟩, .slice none 0 0, .int .i64 0, .int .i64 0, .bool false, .bool false], []⟩).memory Tryz.f3.params.toList Rows.strSaysSpec.vars false #[Value.string ⟨#[]⟩, Value.string ⟨#[]⟩, Value.string ⟨#[]⟩, Value.slice none 0 0, Value.int .i64 0, Value.int .i64 0, Value.bool false, Value.bool false].toList 8 = some ([.lit (.string []), .lit (.string []), .lit (.string []), .nil, .lit (.int .i64 0), .lit (.int .i64 0), .lit (.bool false), .lit (.bool false)], [], places) :=
  ⟨[], by kernel_rfl⟩

set_option maxRecDepth 100000 in
theorem lifted (os : Os) (started : os.Started) (H : Type) (enc : TypeId × Value → H) (F : Stop.Interp) :
    ReturnsInHanded {} Tryz.checked os 3 .any ((OpenSpec.ofChange Rows.strSaysSpec).preRow enc Tryz.prog Tryz.f3 Rows.strSaysRow.domain false Rows.strSaysRow.laid) (((OpenSpec.ofChange Rows.strSaysSpec).at F).post enc Tryz.prog Tryz.f3 false true false false) := by
  obtain ⟨places, hx⟩ := reads os enc
  refine returnsInHanded_of_row (C := Tryz.checked) (s := OpenSpec.ofChange Rows.strSaysSpec) St.own started (by kernel_rfl) Tryz.func3
    ⟨World.laidAll Tryz.prog os Rows.strSaysRow.laid, fun _ _ => 0, ⟨#[], #[.string ⟨#[]⟩, .string ⟨#[]⟩, .string ⟨#[]⟩, .slice none 0 0, .int .i64 0, .int .i64 0, .bool false, .bool false], []⟩, World.laidAll_os _ _ _, World.shaped_of_ZipB (by kernel_rfl) (by kernel_rfl), rfl, (Input.okWide_of_okWideB (by kernel_rfl)).2,
      OpenSpec.preRow_of_cond 8 hx (by kernel_rfl) (fun k hk => by cases hk) (by kernel_rfl) (laid_met os), by simp [Assume.holds]⟩ ?_
  intro W base args ds gs before hval hW _ _ _ hL hsh _
  exact contract H enc W base args ds gs before hval hW hL hsh

theorem said : Rows.StrSaysSaid :=
  OpenClaim.holds_of_cond 3 Tryz.f3 rfl rfl rfl rfl rfl rfl rfl ⟨rfl, rfl, rfl, rfl, rfl⟩ rfl rfl rfl rfl rfl (by kernel_rfl) Tryz.func3 (by kernel_rfl)
    (of_decide_eq_true (by kernel_rfl)) (by unfold Func.isWrapper; first | (rw [if_pos (by decide +kernel)]; kernel_rfl) | (rw [if_neg (by decide +kernel)]; exact ⟨rfl, rfl⟩))
    (fun os started H enc _ F => by rw [OpenClaim.pre_eq_preRow]; exact lifted os started H enc F)

theorem plain (f : FuncId) (fn : Func) (hf : Tryz.pinned.checked.prog.funcNamed Rows.strSaysRow.func = some f) (hfn : Tryz.pinned.checked.prog.funcs[f]? = some fn) :
    true = Tryz.pinned.checked.prog.looks [] ∧ ∀ (j : Nat) t, fn.params[j]? = some t → Tryz.pinned.checked.prog.wantsStandIn t = false := by
  obtain rfl : f = 3 := Option.some.inj ((show Tryz.prog.funcNamed Rows.strSaysRow.func = some 3 by kernel_rfl).symm.trans hf) |>.symm
  obtain rfl : fn = Tryz.f3 := (Option.some.inj (Tryz.func3.symm.trans hfn)).symm
  refine ⟨by kernel_rfl, fun j t ht => ?_⟩
  rw [Tryz.params3] at ht
  have hm : t ∈ [9, 9, 9, 22, 3, 3, 4, 4] := by simpa using Array.mem_of_getElem? ht
  have hall : ([9, 9, 9, 22, 3, 3, 4, 4].all fun u => !Tryz.prog.wantsStandIn u) = true := by kernel_rfl
  exact (show Tryz.prog.wantsStandIn t = false by simpa using List.all_eq_true.1 hall t hm)

theorem card : Rows.StrSaysCardSaid :=
  Claim7.holds_tied_plain_at .later [] _ _ _ _ said (fun _ h => by cases h) (by kernel_rfl) (fun _ h => by cases h) strSays_row_tie rfl ⟨rfl, rfl⟩ (by kernel_rfl) rfl plain (by kernel_rfl)

end strSaysCard
end Go.Proofs.YtdiocmcfaneajaaGreatDoor
