/- smithylaw11.StrRooms holds: what would have too many bytes is refused, what has just as many is not; its card, the listed variables tied to the program's text. Conditions: the listed package variables hold what the program's text lays. -/
import Derived.Test.YtdiocmcfaneajaaGreatDoorStKit
import Derived.Test.YtdiocmcfaneajaaGreatDoorErrSent
import Derived.Test.YtdiocmcfaneajaaGreatDoorStRl
namespace Go.Proofs.YtdiocmcfaneajaaGreatDoor
open Go.ChangeShapes Go.WideShapes Go.ChangeAt Go.RowKit
open Go.ChangeMaps (open_string shut_string)
namespace strRoomsCard
theorem laidOut : laidOutB Tryz.prog = true := by kernel_rfl
theorem met {W : World} (h : laidMetH Tryz.prog Rows.strRoomsRow.laid W) : laidMet Tryz.prog Rows.strRoomsRow.laid W := by
  rw [MakeChecks.laidMetH_plain _ _ _ (by kernel_rfl)] at h; exact h

set_option maxRecDepth 100000 in
theorem contract (H : Type) (enc : TypeId × Value → H) (W : World) (base : Nat) (args : Array Value) (ds gs : List (DataW H)) (before : List MemPlace)
    (hval : ∀ (j : Nat) t v, Tryz.f4.params[j]? = some t → args[j]? = some v → Value.okWide Tryz.prog W .any base t v)
    (hW : DataW.Whole enc Tryz.prog Tryz.f4.params.toList Rows.strRoomsSpec.vars false W args.toList ds gs before) (hL : laidMetH Tryz.prog Rows.strRoomsRow.laid W) (hsh : W.ShapedOpen Tryz.prog) :
    Calls Tryz.prog 4 args W fun e W' => ∃ v, e = .returned v ∧ Rows.strRoomsSpec.post enc Tryz.prog Tryz.f4 false true false false W args v W' := by
  have hW' := hW
  obtain ⟨p, q, hA0, hV, rfl, hfz, hnd⟩ := hW
  have hA : DataW.TrodAll enc Tryz.prog W 0 (fun _ => true) true Tryz.f4.params.toList args.toList ds p := hA0
  rw [Tryz.params4] at hA hval
  obtain ⟨v0, vs0, d0, ds0, p0, q0, hargs, rfl, rfl, h0, r0⟩ := trodAll_cons hA
  obtain ⟨v1, vs1, d1, ds1, p1, q1, rfl, rfl, rfl, h1, r1⟩ := trodAll_cons r0
  obtain ⟨rfl, rfl, rfl⟩ := trodAll_nil r1
  obtain rfl : args = #[v0, v1] := by cases args; simp_all
  obtain ⟨rfl, rfl⟩ := trodVars_none hV
  obtain ⟨x0, rfl, rfl, rfl, z0⟩ := open_int Tryz.underlying3 (hval 0 3 v0 rfl rfl) h0
  obtain ⟨x1, rfl, rfl, rfl, z1⟩ := open_int Tryz.underlying3 (hval 1 3 v1 rfl rfl) h1
  clear hA0
  simp only [List.append_nil] at hW'
  have hm := met hL
  obtain ⟨a0, e0⟩ := err_idx (g := 4) (text := errText 0) hm 5 rfl (by kernel_rfl) (by kernel_rfl)
  obtain ⟨a1, e1⟩ := err_idx (g := 5) (text := errText 1) hm 6 rfl (by kernel_rfl) (by kernel_rfl)
  obtain ⟨a2, e2⟩ := err_idx (g := 6) (text := errText 2) hm 7 rfl (by kernel_rfl) (by kernel_rfl)
  obtain ⟨a3, e3⟩ := err_idx (g := 0) (text := errText 3) hm 8 rfl (by kernel_rfl) (by kernel_rfl)
  obtain ⟨a4, e4⟩ := err_idx (g := 7) (text := errText 4) hm 9 rfl (by kernel_rfl) (by kernel_rfl)
  obtain ⟨a5, e5⟩ := err_idx (g := 8) (text := errText 5) hm 10 rfl (by kernel_rfl) (by kernel_rfl)
  obtain ⟨a6, e6⟩ := err_idx (g := 9) (text := errText 6) hm 11 rfl (by kernel_rfl) (by kernel_rfl)
  obtain ⟨a7, e7⟩ := err_idx (g := 1) (text := errText 7) hm 12 rfl (by kernel_rfl) (by kernel_rfl)
  obtain ⟨a8, e8⟩ := err_idx (g := 10) (text := errText 8) hm 13 rfl (by kernel_rfl) (by kernel_rfl)
  obtain ⟨a9, e9⟩ := err_idx (g := 11) (text := errText 9) hm 14 rfl (by kernel_rfl) (by kernel_rfl)
  obtain ⟨a10, e10⟩ := err_idx (g := 12) (text := errText 10) hm 15 rfl (by kernel_rfl) (by kernel_rfl)
  obtain ⟨a11, e11⟩ := err_idx (g := 13) (text := errText 11) hm 16 rfl (by kernel_rfl) (by kernel_rfl)
  obtain ⟨a12, e12⟩ := err_idx (g := 14) (text := errText 12) hm 17 rfl (by kernel_rfl) (by kernel_rfl)
  obtain ⟨a13, e13⟩ := err_idx (g := 15) (text := errText 13) hm 18 rfl (by kernel_rfl) (by kernel_rfl)
  obtain ⟨a14, e14⟩ := err_idx (g := 16) (text := errText 14) hm 19 rfl (by kernel_rfl) (by kernel_rfl)
  obtain ⟨a15, e15⟩ := err_idx (g := 17) (text := errText 15) hm 20 rfl (by kernel_rfl) (by kernel_rfl)
  obtain ⟨a16, e16⟩ := err_idx (g := 18) (text := errText 16) hm 21 rfl (by kernel_rfl) (by kernel_rfl)
  have hS : Sent (fun i => [a0, a1, a2, a3, a4, a5, a6, a7, a8, a9, a10, a11, a12, a13, a14, a15, a16].getD i a0) W := sent_of e0 e1 e2 e3 e4 e5 e6 e7 e8 e9 e10 e11 e12 e13 e14 e15 e16
  obtain ⟨m, hMax⟩ : ∃ m : Int, W.cell? ⟨2, 0, none⟩ = some (.int .i64 m) := Tryz.laysM143.s1_3 W hsh
  have hV : St.Lw (E (fun i => [a0, a1, a2, a3, a4, a5, a6, a7, a8, a9, a10, a11, a12, a13, a14, a15, a16].getD i a0) 3) 153 (.pointer (some ((fun i => [a0, a1, a2, a3, a4, a5, a6, a7, a8, a9, a10, a11, a12, a13, a14, a15, a16].getD i a0) 7))) m W := ⟨⟨hS.g3, hS.g7, hMax⟩, St.words_of hm (by simp [Rows.strRoomsRow])⟩
  refine (St.strRooms_any hV hS x0 x1).mono fun e W' ⟨he, hg⟩ => ?_
  subst he
  exact ⟨_, rfl, _, _, _, [], _, [], hW', trodAll_mk1 (shut_bool Tryz.underlying4 _), trodAll_mk2 (shut_int Tryz.underlying3 z0) (shut_int Tryz.underlying3 z1), rfl, hg.frame _, fun h => by cases h⟩

theorem laid_met (os : Os) : laidMetH Tryz.prog Rows.strRoomsRow.laid ((World.laidAll Tryz.prog os Rows.strRoomsRow.laid).forCall (fun _ _ => 0) ⟨#[], #[.int .i64 0, .int .i64 0], []⟩).memory := by
  rw [MakeChecks.laidMetH_plain _ _ _ (by kernel_rfl)]
  exact laidMet_laidAll _ (by kernel_rfl) (by kernel_rfl)
theorem reads (os : Os) {H : Type} (enc : TypeId × Value → H) : ∃ places, DataW.whole enc Tryz.prog ((World.laidAll Tryz.prog os Rows.strRoomsRow.laid).forCall (fun _ _ => 0) ⟨#[], #[.int .i64 0, .int .i64 0], []⟩).memory Tryz.f4.params.toList Rows.strRoomsSpec.vars false #[Value.int .i64 0, Value.int .i64 0].toList 8 = some ([.lit (.int .i64 0), .lit (.int .i64 0)], [], places) :=
  ⟨[], by kernel_rfl⟩

set_option maxRecDepth 100000 in
theorem lifted (os : Os) (started : os.Started) (H : Type) (enc : TypeId × Value → H) (F : Stop.Interp) :
    ReturnsInHanded {} Tryz.checked os 4 .any ((OpenSpec.ofChange Rows.strRoomsSpec).preRow enc Tryz.prog Tryz.f4 Rows.strRoomsRow.domain false Rows.strRoomsRow.laid) (((OpenSpec.ofChange Rows.strRoomsSpec).at F).post enc Tryz.prog Tryz.f4 false true false false) := by
  obtain ⟨places, hx⟩ := reads os enc
  refine returnsInHanded_of_row (C := Tryz.checked) (s := OpenSpec.ofChange Rows.strRoomsSpec) St.own started (by kernel_rfl) Tryz.func4
    ⟨World.laidAll Tryz.prog os Rows.strRoomsRow.laid, fun _ _ => 0, ⟨#[], #[.int .i64 0, .int .i64 0], []⟩, World.laidAll_os _ _ _, World.shaped_of_ZipB (by kernel_rfl) (by kernel_rfl), rfl, (Input.okWide_of_okWideB (by kernel_rfl)).2,
      OpenSpec.preRow_of_cond 8 hx (by kernel_rfl) (fun k hk => by cases hk) (by kernel_rfl) (laid_met os), by simp [Assume.holds]⟩ ?_
  intro W base args ds gs before hval hW _ _ _ hL hsh _
  exact contract H enc W base args ds gs before hval hW hL hsh

theorem said : Rows.StrRoomsSaid :=
  OpenClaim.holds_of_cond 4 Tryz.f4 rfl rfl rfl rfl rfl rfl rfl ⟨rfl, rfl, rfl, rfl, rfl⟩ rfl rfl rfl rfl rfl (by kernel_rfl) Tryz.func4 (by kernel_rfl)
    (of_decide_eq_true (by kernel_rfl)) (by unfold Func.isWrapper; first | (rw [if_pos (by decide +kernel)]; kernel_rfl) | (rw [if_neg (by decide +kernel)]; exact ⟨rfl, rfl⟩))
    (fun os started H enc _ F => by rw [OpenClaim.pre_eq_preRow]; exact lifted os started H enc F)

theorem plain (f : FuncId) (fn : Func) (hf : Tryz.pinned.checked.prog.funcNamed Rows.strRoomsRow.func = some f) (hfn : Tryz.pinned.checked.prog.funcs[f]? = some fn) :
    true = Tryz.pinned.checked.prog.looks [] ∧ ∀ (j : Nat) t, fn.params[j]? = some t → Tryz.pinned.checked.prog.wantsStandIn t = false := by
  obtain rfl : f = 4 := Option.some.inj ((show Tryz.prog.funcNamed Rows.strRoomsRow.func = some 4 by kernel_rfl).symm.trans hf) |>.symm
  obtain rfl : fn = Tryz.f4 := (Option.some.inj (Tryz.func4.symm.trans hfn)).symm
  refine ⟨by kernel_rfl, fun j t ht => ?_⟩
  rw [Tryz.params4] at ht
  have hm : t ∈ [3, 3] := by simpa using Array.mem_of_getElem? ht
  have hall : ([3, 3].all fun u => !Tryz.prog.wantsStandIn u) = true := by kernel_rfl
  exact (show Tryz.prog.wantsStandIn t = false by simpa using List.all_eq_true.1 hall t hm)

theorem card : Rows.StrRoomsCardSaid :=
  Claim7.holds_tied_plain_at .later [] _ _ _ _ said (fun _ h => by cases h) (by kernel_rfl) (fun _ h => by cases h) strRooms_row_tie rfl ⟨rfl, rfl⟩ (by kernel_rfl) rfl plain (by kernel_rfl)

end strRoomsCard
end Go.Proofs.YtdiocmcfaneajaaGreatDoor
