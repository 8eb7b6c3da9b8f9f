/- What Format answers of the chapter's example. Conditions: the words, and the errors, lie in their variables. -/
import Derived.Test.YtdiocmcfaneajaaGreatDoorStN
namespace Go.Proofs.YtdiocmcfaneajaaGreatDoor
open Go.RowKit
open Lx
namespace St

/-- What is laid for the example ahead of the call. -/
structure Ex (D : Value) (tE : TypeId) (pE : Value) (m : Int) (w : World) (la na va : Nat) : Prop where
  cx : Cx D (.iface tE pE) m w
  words : WordsAt w
  l : RowS w la [⟨#[49]⟩]
  n : RowS w na [⟨#[120]⟩]
  v : RowS w va [⟨#[50]⟩]
/-- What holds on the way: the text is bs, n were taken. -/
structure FmA (w wr : World) (f mb la va : Nat) (bs : L) (n : Nat) : Prop where
  made : MadeAt wr w.heap.size bs
  flds : FieldsAt wr f (.slice (some ⟨la, 0, none⟩) 1 1) (.slice (some ⟨va, 0, none⟩) 1 1) mb n
  map : MapAt wr mb 1 (.int .i64 0) (putF (fun _ => none) ⟨#[120]⟩ (.int .i64 0))
  bm : w.heap.size < mb
  mf : mb < f
  below : Below w.heap.size w wr
theorem FmA.lt {w wr : World} {f mb la va n : Nat} {bs : L} (h : FmA w wr f mb la va bs n) : f < wr.heap.size := (Array.getElem?_eq_some_iff.1 h.flds).1
theorem FmA.next {w wr wr' : World} {f mb la va n : Nat} {bs : L} (h : FmA w wr f mb la va bs n) (hb : Below wr.heap.size wr wr') : FmA w wr' f mb la va bs n :=
  ⟨h.made.below hb, (hb.block f h.lt).trans h.flds, h.map.of_eq (hb.block mb h.map.lt), h.bm, h.mf, h.below.trans (hb.mono h.below.size)⟩
theorem MapAt.not_cells {W : World} {b n : Nat} {z : Value} {F : ByteArray → Option Value} (h : MapAt W b n z F) : ∃ es clock, W.heap[b]? = some (.map es clock) := by
  obtain ⟨D, zd, zp, h1, ⟨es, clock, hb, h2⟩, h3⟩ := h
  exact ⟨es, clock, hb⟩
theorem FmA.add {w wr : World} {f mb la va n : Nat} {bs : L} {D : Value} {tE : TypeId} {pE : Value} {m : Int} (h : FmA w wr f mb la va bs n) (hC : Cx D (.iface tE pE) m w) (x : ByteArray) (hx : (bs ++ x.data.toList).length ≤ 1024) :
    Calls Tryz.prog 39 #[.pointer (some ⟨w.heap.size, 0, none⟩), .slice (some ⟨wr.heap.size, 0, none⟩) 1 1] (wr.alloc (.cells #[.string x] 9)) fun e w' => e = .returned .nilIface ∧ FmA w w' f mb la va (bs ++ x.data.toList) n := by
  have hba := (Below.refl wr.heap.size wr).alloc (Nat.le_refl _) (.cells #[.string x] 9)
  have h2 := h.next hba
  have hl := h.lt
  have h3 := h.bm
  have h4 := h.mf
  have hcat : cat [x] = x.data.toList := by simp [cat]
  rw [List.length_append] at hx
  have hxs := size_data x
  have hA := add_any D (.iface tE pE) m w.heap.size wr.heap.size bs [x] 1 (wr.alloc (.cells #[.string x] 9)) rfl (by decide) ((hC.below h.below).below hba) h2.made (rowS_one wr x) (by omega) (by
    intro z hz
    obtain rfl : z = x := by simpa using hz
    omega) (by omega) (World.block_lt_of_cell? w _ hC.lim)
  rw [hcat, addV, if_pos (by rw [List.length_append]; omega)] at hA
  refine hA.mono ?_
  rintro e w' ⟨rfl, hm, hb, hk⟩
  refine ⟨rfl, hm (by rw [List.length_append]; omega), hk f _ h2.flds (by simp; omega) (fun c fz e => by cases e), ?_, h3, h4, h2.below.trans hb⟩
  obtain ⟨es, clock, he⟩ := h2.map.not_cells
  exact h2.map.of_eq ((hk mb _ he (by simp; omega) (fun c fz e => by cases e)).trans he.symm)
theorem OwnB.but {W W' : World} {B f : Nat} {v : Value} {bs : L} {l u : Value} {mb n : Nat} (h : OwnB W B v bs) (hf : FieldsAt W f l u mb n) (hb : But f W W') : OwnB W' B v bs := by
  refine ⟨h.1, ?_⟩
  rcases h.2 with h0 | ⟨g, cap, cur, e, hB, hg, h3⟩
  · exact .inl h0
  · refine .inr ⟨g, cap, cur, e, hB, (hb.block g (Array.getElem?_eq_some_iff.1 hg).1 (fun e2 => ?_)).trans hg, h3⟩
    subst e2
    unfold FieldsAt at hf
    rw [hf] at hg
    injection hg with hg
    injection hg with _ h5
    exact absurd h5 (by decide)
theorem FmA.one {w wr : World} {f mb la na va : Nat} {bs : L} {D : Value} {tE : TypeId} {pE : Value} {m : Int} (h : FmA w wr f mb la va bs 0) (hE : Ex D tE pE m w la na va) :
    Calls Tryz.prog 52 #[.pointer (some ⟨f, 0, none⟩), .string ⟨#[123, 125, 45, 123, 120, 125]⟩] wr fun e w' => e = .returned (.tuple #[.string ⟨#[49]⟩, .string ⟨#[45, 123, 120, 125]⟩, .bool true]) ∧ FmA w w' f mb la va bs 1 := by
  have h3 := h.bm
  have h4 := h.mf
  have hsz := h.below.size
  have hll := (Array.getElem?_eq_some_iff.1 hE.l).1
  refine (brace_one f mb la 1 _ m D (.iface tE pE) wr (hE.cx.below h.below) h.flds ((h.below.block la hll).trans hE.l)).mono ?_
  rintro e w' ⟨rfl, hf, hb⟩
  obtain ⟨v, hv1, hv2⟩ := h.made
  refine ⟨rfl, ⟨v, (hb.block _ hv1.lt (by omega)).trans hv1, hv2.but h.flds hb⟩, hf, h.map.of_eq (hb.block mb h.map.lt (by omega)), h3, h4, ⟨hb.os.trans h.below.os, hb.tape.trans h.below.tape, hb.output.trans h.below.output, Nat.le_trans hsz hb.size, fun k hk => (hb.block k (by omega) (by omega)).trans (h.below.block k hk)⟩⟩
theorem FmA.two {w wr : World} {f mb la na va : Nat} {bs : L} {D : Value} {tE : TypeId} {pE : Value} {m : Int} (h : FmA w wr f mb la va bs 1) (hE : Ex D tE pE m w la na va) :
    Calls Tryz.prog 52 #[.pointer (some ⟨f, 0, none⟩), .string ⟨#[123, 120, 125]⟩] wr fun e w' => e = .returned (.tuple #[.string ⟨#[50]⟩, .string ⟨#[]⟩, .bool true]) ∧ FmA w w' f mb la va bs 1 := by
  have hll := (Array.getElem?_eq_some_iff.1 hE.v).1
  refine (brace_two f mb va 1 _ m D (.iface tE pE) wr (hE.cx.below h.below) h.flds ((h.below.block va hll).trans hE.v) h.map (hE.words.below h.below)).mono ?_
  rintro e w' ⟨rfl, hb⟩
  exact ⟨rfl, h.next hb⟩
theorem below_iter (w : World) (s : ByteArray) (pos : Nat) : Below w.heap.size w (w.iter s pos) := (Below.refl _ _).alloc (Nat.le_refl _) _
theorem FmA.any {w wr : World} {f mb la va n : Nat} {bs : L} (h : FmA w wr f mb la va bs n) (s : ByteArray) (z : Int) (h8 : s.size ≤ 8) (hz : Lib.indexAny s.data.toList [123, 125] = z) (hascii : ∀ (j : Nat) b, s.data.toList[j]? = some b → b.toNat < 128) :
    Calls Tryz.prog 51 #[.string s, .string ⟨#[123, 125]⟩] wr fun e w' => e = .returned (.int .i64 z) ∧ FmA w w' f mb la va bs n := by
  subst hz
  refine (Tryz.strings_IndexAny_short s ⟨#[123, 125]⟩ wr (by decide) h8 hascii).mono ?_
  rintro e w' ⟨rfl, pos, rfl⟩
  exact ⟨rfl, h.next (below_iter _ _ _)⟩
theorem ascii_of {l : L} (h : l.all (fun b => decide (b.toNat < 128)) = true) : ∀ (j : Nat) b, l[j]? = some b → b.toNat < 128 := fun j b hb => by
  have := List.all_eq_true.1 h b (List.mem_of_getElem? hb)
  simpa using this

set_option maxRecDepth 100000 in
set_option maxHeartbeats 3200000 in
theorem format_one {D : Value} {tE : TypeId} {pE : Value} {m : Int} {w : World} {la na va : Nat} (hE : Ex D tE pE m w la na va) :
    Calls Tryz.prog 33 #[.string ⟨#[123, 125, 45, 123, 120, 125]⟩, .slice (some ⟨la, 0, none⟩) 1 1, .slice (some ⟨na, 0, none⟩) 1 1, .slice (some ⟨va, 0, none⟩) 1 1] w fun e w' => e = .returned (.tuple #[.string ⟨#[49, 45, 50]⟩, .nilIface]) ∧ Below w.heap.size w w' := by
  have HE := hidden hE
  have hM0 := hidden (new_made w)
  have hba := (Below.refl w.heap.size w).alloc (Nat.le_refl _) (.cells #[.slice none 0 0] 65)
  have HN := hidden (newFields_one la 1 na 1 va 1 (w.alloc (.cells #[.slice none 0 0] 65)) (by decide) ((hba.block na (Array.getElem?_eq_some_iff.1 hE.n).1).trans hE.n))
  have HBA := hidden hba
  have hsl0 : ∀ W, (Instr.sliceAt 9 (.string ⟨#[123, 125, 45, 123, 120, 125]⟩) none (some (.int .i64 0)) none).run Tryz.prog W = .ok (.string ⟨#[]⟩) W := fun W => by kernel_rfl
  have hsl1 : ∀ W, (Instr.sliceAt 9 (.string ⟨#[123, 125, 45, 123, 120, 125]⟩) (some (.int .i64 0)) none none).run Tryz.prog W = .ok (.string ⟨#[123, 125, 45, 123, 120, 125]⟩) W := fun W => by kernel_rfl
  have hsl2 : ∀ W, (Instr.sliceAt 9 (.string ⟨#[45, 123, 120, 125]⟩) none (some (.int .i64 1)) none).run Tryz.prog W = .ok (.string ⟨#[45]⟩) W := fun W => by kernel_rfl
  have hsl3 : ∀ W, (Instr.sliceAt 9 (.string ⟨#[45, 123, 120, 125]⟩) (some (.int .i64 1)) none none).run Tryz.prog W = .ok (.string ⟨#[123, 120, 125]⟩) W := fun W => by kernel_rfl
  clear hE hba
  go_enter Tryz.func33, Tryz.ntmps33
  go_wp2_with (go_at_call 50; (with_reducible refine HN.out.mono ?_); rintro e w2 ⟨f, mb, rfl, hf, hm, hmb, hmf, hb2⟩)
  have HA : Hid (FmA w w2 f mb la va [] 0) := hidden ⟨hM0.out.below hb2, hf, hm, by simp at hmb; omega, hmf, HBA.out.trans (hb2.mono (by simp))⟩
  clear hf hm hmb hmf hb2 HN hM0 HBA
  go_loopw [0] (fun t wr => (t = .string ⟨#[123, 125, 45, 123, 120, 125]⟩ ∧ Hid (FmA w wr f mb la va [] 0)) ∨ (t = .string ⟨#[45, 123, 120, 125]⟩ ∧ Hid (FmA w wr f mb la va [49] 1)) ∨ (t = .string ⟨#[]⟩ ∧ Hid (FmA w wr f mb la va [49, 45, 50] 1))) (fun t _ => szOf t)
  case atStart => exact .inl ⟨rfl, HA⟩
  case round =>
    rcases hrel with ⟨rfl, hA⟩ | ⟨rfl, hA⟩ | ⟨rfl, hA⟩
    · go_wp2_with (first | (go_at_call 51; (with_reducible refine (hA.out.any ⟨#[123, 125, 45, 123, 120, 125]⟩ 0 (by decide) (by decide +kernel) (ascii_of (by decide +kernel))).mono ?_); rintro e w3 ⟨rfl, h3⟩; have H3 := hidden h3; clear h3) | (go_at_call 39; first | ((with_reducible refine (H5.out.add HE.out.cx ⟨#[49]⟩ (by decide)).mono ?_); rintro e w6 ⟨rfl, h6⟩; have H6 := hidden h6; clear h6) | ((with_reducible refine (H3.out.add HE.out.cx ⟨#[]⟩ (by decide)).mono ?_); rintro e w4 ⟨rfl, h4⟩; have H4 := hidden h4; clear h4)) | (go_at_call 52; (with_reducible refine (H4.out.one HE.out).mono ?_); rintro e w5 ⟨rfl, h5⟩; have H5 := hidden h5; clear h5))
      go_roundw
      case rel => exact .inr (.inl ⟨rfl, H6⟩)
      case measure => decide
    · go_wp2_with (first | (go_at_call 51; (with_reducible refine (hA.out.any ⟨#[45, 123, 120, 125]⟩ 1 (by decide) (by decide +kernel) (ascii_of (by decide +kernel))).mono ?_); rintro e w3 ⟨rfl, h3⟩; have H3 := hidden h3; clear h3) | (go_at_call 39; first | ((with_reducible refine (H5.out.add HE.out.cx ⟨#[50]⟩ (by decide)).mono ?_); rintro e w6 ⟨rfl, h6⟩; have H6 := hidden h6; clear h6) | ((with_reducible refine (H3.out.add HE.out.cx ⟨#[45]⟩ (by decide)).mono ?_); rintro e w4 ⟨rfl, h4⟩; have H4 := hidden h4; clear h4)) | (go_at_call 52; (with_reducible refine (H4.out.two HE.out).mono ?_); rintro e w5 ⟨rfl, h5⟩; have H5 := hidden h5; clear h5))
      go_roundw
      case rel => exact .inr (.inr ⟨rfl, H6⟩)
      case measure => decide
    · go_wp2_with (first | (go_at_call 51; (with_reducible refine (hA.out.any ⟨#[]⟩ (-1) (by decide) (by decide +kernel) (ascii_of (by decide +kernel))).mono ?_); rintro e w3 ⟨rfl, h3⟩; have H3 := hidden h3; clear h3) | (go_at_call 39; (with_reducible refine (H3.out.add HE.out.cx ⟨#[]⟩ (by decide)).mono ?_); rintro e w4 ⟨rfl, h4⟩; have H4 := hidden h4; clear h4; obtain ⟨v, hv1, hv2⟩ := H4.out.made; have hcell := hv1.cell; have hconv := hv2.conv; clear hv1 hv2))
      go_ret2
      exact ⟨rfl, H4.out.below⟩
end St
end Go.Proofs.YtdiocmcfaneajaaGreatDoor
