/- What brace answers of the two fields of the chapter's example. Conditions: the words lie in their variable. -/
import Derived.Test.YtdiocmcfaneajaaGreatDoorStI
import Derived.Test.YtdiocmcfaneajaaGreatDoorStS
import Derived.Test.YtdiocmcfaneajaaGreatDoorStK
import Derived.Test.YtdiocmcfaneajaaGreatDoorAstName
namespace Go.Proofs.YtdiocmcfaneajaaGreatDoor
open Go.RowKit
open Lx
namespace St

/-- The fields of a Format, in block f. -/
def FieldsAt (W : World) (f : Nat) (l v : Value) (mb : Nat) (n : Nat) : Prop := W.heap[f]? = some (.cells #[l, v, .map (some mb), .int .i64 (n : Int), .bool false] 100 (0, 0))
theorem FieldsAt.c0 {W : World} {f mb n : Nat} {l v : Value} (h : FieldsAt W f l v mb n) : W.cell? ⟨f, 0, none⟩ = some l := by rw [cell_of_row W f 0 _ _ _ h]; rfl
theorem FieldsAt.c1 {W : World} {f mb n : Nat} {l v : Value} (h : FieldsAt W f l v mb n) : W.cell? ⟨f, 1, none⟩ = some v := by rw [cell_of_row W f 1 _ _ _ h]; rfl
theorem FieldsAt.c2 {W : World} {f mb n : Nat} {l v : Value} (h : FieldsAt W f l v mb n) : W.cell? ⟨f, 2, none⟩ = some (.map (some mb)) := by rw [cell_of_row W f 2 _ _ _ h]; rfl
theorem FieldsAt.c3 {W : World} {f mb n : Nat} {l v : Value} (h : FieldsAt W f l v mb n) : W.cell? ⟨f, 3, none⟩ = some (.int .i64 (n : Int)) := by rw [cell_of_row W f 3 _ _ _ h]; rfl
theorem FieldsAt.c4 {W : World} {f mb n : Nat} {l v : Value} (h : FieldsAt W f l v mb n) : W.cell? ⟨f, 4, none⟩ = some (.bool false) := by rw [cell_of_row W f 4 _ _ _ h]; rfl
theorem FieldsAt.free {W : World} {f mb n : Nat} {l v : Value} (h : FieldsAt W f l v mb n) (k : Nat) : W.frozen? ⟨f, k, none⟩ = false := frozen_of_row W f k _ _ h
theorem FieldsAt.set {W : World} {f mb n : Nat} {l v : Value} (h : FieldsAt W f l v mb n) (k : Nat) : FieldsAt (W.setCell ⟨f, 3, none⟩ (.int .i64 (k : Int))) f l v mb k := heap_setCell_same W f 3 _ _ _ h
/-- All blocks but f are as they were. -/
structure But (f : Nat) (W W' : World) : Prop where
  os : W'.os = W.os
  tape : W'.tape = W.tape
  output : W'.output = W.output
  size : W.heap.size ≤ W'.heap.size
  block : ∀ k, k < W.heap.size → k ≠ f → W'.heap[k]? = W.heap[k]?
theorem But.of {f : Nat} {W W' : World} (h : Below W.heap.size W W') : But f W W' := ⟨h.os, h.tape, h.output, h.size, fun k hk _ => h.block k hk⟩
theorem But.setCell {f i : Nat} {W W' : World} (h : But f W W') (v : Value) : But f W (W'.setCell ⟨f, i, none⟩ v) := ⟨h.os, h.tape, h.output, by simpa using h.size, fun k hk hn => (heap_setCell_other _ _ _ _ (by simpa using hn)).trans (h.block k hk hn)⟩

theorem fields_row {W : World} {f mb n r : Nat} {l v : Value} {ts : List ByteArray} (h1 : FieldsAt W f l v mb n) (h2 : RowS W r ts) : r ≠ f := fun e => by
  subst e
  unfold FieldsAt at h1
  unfold RowS at h2
  rw [h1] at h2
  injection h2 with h2
  injection h2 with _ h3
  exact absurd h3 (by decide)
set_option maxRecDepth 100000 in
set_option maxHeartbeats 1600000 in
theorem brace_one (f mb la lc : Nat) (v : Value) (m : Int) (D E : Value) (w : World) (hC : Cx D E m w) (hF : FieldsAt w f (.slice (some ⟨la, 0, none⟩) 1 lc) v mb 0) (hR : RowS w la [⟨#[49]⟩]) :
    Calls Tryz.prog 52 #[.pointer (some ⟨f, 0, none⟩), .string ⟨#[123, 125, 45, 123, 120, 125]⟩] w fun e w' => e = .returned (.tuple #[.string ⟨#[49]⟩, .string ⟨#[45, 123, 120, 125]⟩, .bool true]) ∧ FieldsAt w' f (.slice (some ⟨la, 0, none⟩) 1 lc) v mb 1 ∧ But f w w' := by
  have HP1 := hidden (Tryz.strings_CutPrefix ⟨#[123, 125, 45, 123, 120, 125]⟩ ⟨#[123, 123]⟩ w)
  have HP2 := hidden (Tryz.strings_CutPrefix ⟨#[123, 125, 45, 123, 120, 125]⟩ ⟨#[125, 125]⟩ w)
  have HCU := hidden (Tryz.strings_Cut ⟨#[125, 45, 123, 120, 125]⟩ ⟨#[125]⟩ m w (by decide) hC.max)
  rw [show (⟨(Lib.trimPrefix (⟨#[123, 125, 45, 123, 120, 125]⟩ : ByteArray).data.toList (⟨#[123, 123]⟩ : ByteArray).data.toList).toArray⟩ : ByteArray) = ⟨#[123, 125, 45, 123, 120, 125]⟩ by decide +kernel, show Lib.hasPrefix (⟨#[123, 125, 45, 123, 120, 125]⟩ : ByteArray).data.toList (⟨#[123, 123]⟩ : ByteArray).data.toList = false by decide +kernel] at HP1
  rw [show (⟨(Lib.trimPrefix (⟨#[123, 125, 45, 123, 120, 125]⟩ : ByteArray).data.toList (⟨#[125, 125]⟩ : ByteArray).data.toList).toArray⟩ : ByteArray) = ⟨#[123, 125, 45, 123, 120, 125]⟩ by decide +kernel, show Lib.hasPrefix (⟨#[123, 125, 45, 123, 120, 125]⟩ : ByteArray).data.toList (⟨#[125, 125]⟩ : ByteArray).data.toList = false by decide +kernel] at HP2
  rw [show Lib.cut (⟨#[125, 45, 123, 120, 125]⟩ : ByteArray).data.toList (⟨#[125]⟩ : ByteArray).data.toList = ([], [45, 123, 120, 125], true) by decide +kernel] at HCU
  have hsl : ∀ W, (Instr.sliceAt 9 (.string ⟨#[123, 125, 45, 123, 120, 125]⟩) (some (.int .i64 1)) none none).run Tryz.prog W = .ok (.string ⟨#[125, 45, 123, 120, 125]⟩) W := fun W => by kernel_rfl
  have hix : ∀ W, (Instr.index 9 (.string ⟨#[123, 125, 45, 123, 120, 125]⟩) (.int .i64 0)).run Tryz.prog W = .ok (.int .u8 123) W := fun W => by kernel_rfl
  have HF := hidden hF
  have HR := hidden hR
  clear hF hR hC
  go_enter Tryz.func52, Tryz.ntmps52
  go_wp2_with (first | (go_at_call 70; first | ((with_reducible refine HP1.out.mono ?_); rintro e w' ⟨rfl, hw⟩; rw [hw]; clear hw HP1) | ((with_reducible refine HP2.out.mono ?_); rintro e w' ⟨rfl, hw⟩; rw [hw]; clear hw HP2)) | (go_at_call 34; (with_reducible refine HCU.out.mono ?_); rintro e wc ⟨rfl, nd, hwc⟩; have hbc : Below w.heap.size w wc := hwc ▸ below_drew w nd; clear hwc HCU; have HF2 : Hid (FieldsAt wc f (.slice (some ⟨la, 0, none⟩) 1 lc) v mb 0) := hidden ((hbc.block f (Array.getElem?_eq_some_iff.1 HF.out).1).trans HF.out); have HR2 : Hid (RowS wc la [⟨#[49]⟩]) := hidden ((hbc.block la (Array.getElem?_eq_some_iff.1 HR.out).1).trans HR.out); have HBC := hidden hbc; have hc3 := HF2.out.c3; have hf3 := HF2.out.free 3; have HF3 := hidden (HF2.out.set 1); have hc0 := HF2.out.c0; have hc4 := HF2.out.c4; have hlf : la ≠ f := fields_row HF2.out HR2.out; have hfl : f ≠ la := fun e => hlf e.symm; have hcr := HR2.out.cell 0 (by decide)) | go_in)
  go_returns
  exact ⟨rfl, HF3.out, (But.of HBC.out).setCell _⟩
theorem zero_int {W : World} : (zeroValue 3).run Tryz.prog W = .ok (.int .i64 0) W := (zero_of_info (n := 1) (by kernel_rfl)).1 W
set_option maxRecDepth 100000 in
set_option maxHeartbeats 1600000 in
theorem brace_two (f mb va vc : Nat) (l : Value) (m : Int) (D E : Value) (w : World) (hC : Cx D E m w) (hF : FieldsAt w f l (.slice (some ⟨va, 0, none⟩) 1 vc) mb 1) (hR : RowS w va [⟨#[50]⟩]) (hM : MapAt w mb 1 (.int .i64 0) (putF (fun _ => none) ⟨#[120]⟩ (.int .i64 0))) (hW : WordsAt w) :
    Calls Tryz.prog 52 #[.pointer (some ⟨f, 0, none⟩), .string ⟨#[123, 120, 125]⟩] w fun e w' => e = .returned (.tuple #[.string ⟨#[50]⟩, .string ⟨#[]⟩, .bool true]) ∧ Below w.heap.size w w' := by
  have HP1 := hidden (Tryz.strings_CutPrefix ⟨#[123, 120, 125]⟩ ⟨#[123, 123]⟩ w)
  have HP2 := hidden (Tryz.strings_CutPrefix ⟨#[123, 120, 125]⟩ ⟨#[125, 125]⟩ w)
  have HCU := hidden (Tryz.strings_Cut ⟨#[120, 125]⟩ ⟨#[125]⟩ m w (by decide) hC.max)
  rw [show (⟨(Lib.trimPrefix (⟨#[123, 120, 125]⟩ : ByteArray).data.toList (⟨#[123, 123]⟩ : ByteArray).data.toList).toArray⟩ : ByteArray) = ⟨#[123, 120, 125]⟩ by decide +kernel, show Lib.hasPrefix (⟨#[123, 120, 125]⟩ : ByteArray).data.toList (⟨#[123, 123]⟩ : ByteArray).data.toList = false by decide +kernel] at HP1
  rw [show (⟨(Lib.trimPrefix (⟨#[123, 120, 125]⟩ : ByteArray).data.toList (⟨#[125, 125]⟩ : ByteArray).data.toList).toArray⟩ : ByteArray) = ⟨#[123, 120, 125]⟩ by decide +kernel, show Lib.hasPrefix (⟨#[123, 120, 125]⟩ : ByteArray).data.toList (⟨#[125, 125]⟩ : ByteArray).data.toList = false by decide +kernel] at HP2
  rw [show Lib.cut (⟨#[120, 125]⟩ : ByteArray).data.toList (⟨#[125]⟩ : ByteArray).data.toList = ([120], [], true) by decide +kernel] at HCU
  have hsl : ∀ W, (Instr.sliceAt 9 (.string ⟨#[123, 120, 125]⟩) (some (.int .i64 1)) none none).run Tryz.prog W = .ok (.string ⟨#[120, 125]⟩) W := fun W => by kernel_rfl
  have hix : ∀ W, (Instr.index 9 (.string ⟨#[123, 120, 125]⟩) (.int .i64 0)).run Tryz.prog W = .ok (.int .u8 123) W := fun W => by kernel_rfl
  have HM := hidden hM
  have HWD := hidden hW
  have HF := hidden hF
  have HR := hidden hR
  clear hF hR hC hM hW
  go_enter Tryz.func52, Tryz.ntmps52
  go_wp2_with (first | (go_at_call 70; first | ((with_reducible refine HP1.out.mono ?_); rintro e w' ⟨rfl, hw⟩; rw [hw]; clear hw HP1) | ((with_reducible refine HP2.out.mono ?_); rintro e w' ⟨rfl, hw⟩; rw [hw]; clear hw HP2)) | (go_at_call 34; (with_reducible refine HCU.out.mono ?_); rintro e wc ⟨rfl, nd, hwc⟩; have hbc : Below w.heap.size w wc := hwc ▸ below_drew w nd; clear hwc HCU; have HF2 : Hid (FieldsAt wc f l (.slice (some ⟨va, 0, none⟩) 1 vc) mb 1) := hidden ((hbc.block f (Array.getElem?_eq_some_iff.1 HF.out).1).trans HF.out); have HR2 : Hid (RowS wc va [⟨#[50]⟩]) := hidden ((hbc.block va (Array.getElem?_eq_some_iff.1 HR.out).1).trans HR.out); have HBC := hidden hbc; have hm2 := HM.out.of_eq (hbc.block mb HM.out.lt); have hlk := hm2.look_ok (t := 97) Tryz.underlying97 zero_int ⟨#[120]⟩ (by decide); rw [putF_same] at hlk; have HNM := hidden (lexName_any ⟨#[120]⟩ (by decide) wc (HWD.out.below hbc)); rw [show nameB (⟨#[120]⟩ : ByteArray).data.toList = true by decide +kernel] at HNM; have hc1 := HF2.out.c1; have hc2 := HF2.out.c2; have hcr := HR2.out.cell 0 (by decide); clear hm2) | (go_at_call 30; (refine (isDigits_any ⟨#[120]⟩ wc (by decide)).mono ?_); rw [show isDigF (⟨#[120]⟩ : ByteArray).data.toList = false by decide +kernel]; rintro e w' ⟨rfl, hw⟩; rw [hw]; clear hw) | (go_at_call 88; (with_reducible refine HNM.out.mono ?_); rintro e w' ⟨rfl, hw⟩; rw [hw]; clear hw) | go_in)
  go_returns
  exact ⟨rfl, HBC.out⟩
end St
end Go.Proofs.YtdiocmcfaneajaaGreatDoor
