/- Parts of the proof, together. What dedent and indent make of a scanner. Conditions: its blocks lie from block B on; short texts; the outermost block has no spaces. -/
import Derived.Deep.LoopGhost
import Derived.BigRegion
import Derived.Test.YtaafhldcdkbnkaaGreatDoorQpan
namespace Go.Proofs.YtaafhldcdkbnkaaGreatDoor
open Go.RowKit
open Lx

theorem slice_to (ao : Option Addr) (n m cap : Nat) (hm : m ≤ cap) (W : World) : (Instr.sliceAt 30 (.slice ao n cap) none (some (.int .i64 (m : Int))) none).run Tryz.prog W = .ok (.slice ao m cap) W := by
  have h : (m : Int) ≤ (cap : Int) := by omega
  go_simp
theorem slice_to8 (ao : Option Addr) (n m cap : Nat) (hm : m ≤ cap) (W : World) : (Instr.sliceAt 97 (.slice ao n cap) none (some (.int .i64 (m : Int))) none).run Tryz.prog W = .ok (.slice ao m cap) W := by
  have h : (m : Int) ≤ (cap : Int) := by omega
  go_simp
/-- Tokens that end k blocks. -/
def deds (k p : Nat) : List Tok := List.replicate k ⟨7, [], p⟩
theorem deds_succ (k p : Nat) : deds (k + 1) p = ⟨7, [], p⟩ :: deds k p := rfl
theorem deds_snoc (k p : Nat) : deds (k + 1) p = deds k p ++ [⟨7, [], p⟩] := List.replicate_succ'
section
variable {W : World} {B sb : Nat} {T : ByteArray} {p : Nat} {st : St}
theorem blks_cut {W : World} {B sb : Nat} {T : ByteArray} {p : Nat} {st : St} {vt vo : Value} {g n cap : Nat} (h : ScanV W B sb T p st vt (.slice (some ⟨g, 0, none⟩) n cap) vo) (b0 : Nat) (bs : List Nat) (hb : st.blocks = b0 :: bs) (hn : n = bs.length + 1) :
    ScanV (W.setCell ⟨sb, 3, none⟩ (.slice (some ⟨g, 0, none⟩) bs.length cap)) B sb T p { st with blocks := bs } vt (.slice (some ⟨g, 0, none⟩) bs.length cap) vo := by
  have h1 := h.blks
  rw [hb] at h1
  subst hn
  have h2 := own_less (m := bs.length) h1 (by omega)
  refine (h.setBlks (W' := W) (l := bs) ?_ (fun _ _ _ => rfl)).2.2
  rw [List.reverse_cons, List.map_append, List.take_append_of_le_length (by simp), List.take_of_length_le (by simp)] at h2
  exact h2
set_option maxRecDepth 10000 in
set_option maxHeartbeats 3200000 in
theorem dedent_any (h : ScanAt W B sb T p st) (n : Nat) (hn : n ≤ 1000000) (hp : p ≤ 1000000) (hl : st.toks.length + st.blocks.length < 1000000) (hbl : st.blocks.length ≤ 100) (hlast : st.blocks.getLast? = some 0) :
    Calls Tryz.prog 99 #[.pointer (some ⟨sb, 0, none⟩), .int .i64 (n : Int)] W fun e w' => e = .returned (.tuple #[]) ∧
      ScanAt w' B sb T p { st with toks := st.toks ++ deds (st.blocks.takeWhile (n < ·)).length p, blocks := st.blocks.dropWhile (n < ·) } ∧ Below B W w' := by
  have HH := hid' h
  have HL := hid' hlast
  have hB := h.lt
  clear h hlast
  go_enter Tryz.func99, Tryz.ntmps99
  go_wp2
  go_loopg [] st.blocks.length (fun gk wr => ∃ (k : Nat) (bs : List Nat), bs.length = gk ∧ st.blocks.dropWhile (n < ·) = bs.dropWhile (n < ·) ∧ k + (bs.takeWhile (n < ·)).length = (st.blocks.takeWhile (n < ·)).length ∧ bs.getLast? = some 0 ∧ k + bs.length ≤ st.blocks.length ∧ Hid (ScanAt wr B sb T p { st with toks := st.toks ++ deds k p, blocks := bs }) ∧ Hid (Below B W wr))
  case atStart => exact ⟨0, st.blocks, rfl, rfl, by omega, HL.out, by omega, by simpa [deds] using HH, hid' (Below.refl _ _)⟩
  case round =>
    obtain ⟨k, bs, hgk, e1, e2, e3, hbs, hs, hb⟩ := hrel
    cases bs with
    | nil => cases e3
    | cons b0 bs =>
      have HB := hid' (block_any hs.out b0 bs rfl (by simp at hbs; omega))
      have HE1 := hid' e1
      have HE2 := hid' e2
      have HE3 := hid' e3
      clear e1 e2 e3
      go_wp2_with fail
      refine (HB.out).mono ?_
      rintro e w1 ⟨rfl, m, rfl⟩
      obtain ⟨vt, vb, vo, D0⟩ := hs.out
      generalize hw2 : wr.drewN m = w2
      have D2 : ScanV w2 B sb T p { st with toks := st.toks ++ deds k p, blocks := b0 :: bs } vt vb vo := by rw [← hw2]; exact D0.keep fun _ _ _ => rfl
      have B2 : Below B W w2 := by rw [← hw2]; exact ⟨hb.out.os, hb.out.tape, hb.out.output, hb.out.size, hb.out.block⟩
      clear hw2 D0 hs hb HB
      by_cases hlt : n < b0
      · have hlt' : (n : Int) < (b0 : Int) := by omega
        obtain ⟨g, cap, rfl, hcap, _, _, _⟩ := own_some D2.blks (by simp)
        rw [List.length_cons] at D2 hcap
        have D3 := blks_cut D2 b0 bs rfl rfl
        obtain ⟨c0, c1, c2, c3, c4⟩ := D2.cells
        have f3 := D2.open_ 3
        have hsl := slice_to (some ⟨g, 0, none⟩) (bs.length + 1) bs.length cap (by omega)
        have hlb : bs.length ≤ 1000 := by have := hbs; simp at this; omega
        have HA := hid' (add_any (W := (w2.setCell ⟨sb, 3, none⟩ (.slice (some ⟨g, 0, none⟩) bs.length cap)).drew) ⟨_, _, _, D3.keep fun _ _ _ => rfl⟩ 7 ⟨#[]⟩ 0 hp (by omega) (by have := hbs; simp [deds] at this ⊢; omega))
        have HB3 : Hid (Below B W (w2.setCell ⟨sb, 3, none⟩ (.slice (some ⟨g, 0, none⟩) bs.length cap)).drew) := hid' (Below.setCell B2 (p := ⟨sb, 3, none⟩) (by simp only; exact hB.1) _).drew
        have HM : Hid ((b0 :: bs).dropWhile (n < ·) = bs.dropWhile (n < ·) ∧ ((b0 :: bs).takeWhile (n < ·)).length = (bs.takeWhile (n < ·)).length + 1) := hid' (by simp [hlt])
        have HN : Hid (bs.getLast? = some 0) := hid' (by
          cases bs with
          | nil => have h := HE3.out; simp at h; omega
          | cons b1 bs => have h := HE3.out; simpa using h)
        clear D2 D3 B2 c0 c1 c2 c4
        go_wp2_with fail
        go_region
        all_goals (
          go_wp2_with fail
          refine (HA.out).mono ?_
          rintro e w4 ⟨rfl, h4, b4⟩
          have HS4 : Hid (ScanAt w4 B sb T p { st with toks := st.toks ++ deds (k + 1) p, blocks := bs }) := hid' (by
            rw [deds_snoc, ← List.append_assoc]; exact h4)
          have HB4 := hid' (HB3.out.trans b4)
          clear h4 b4
          go_wp2
          go_roundg bs.length
          case rel => exact ⟨k + 1, bs, rfl, by rw [HE1.out, HM.out.1], by have := HE2.out; have := HM.out.2; omega, HN.out, by have := hbs; simp at this; omega, HS4, HB4⟩
          case measure => simp at hgk; omega)
      · have hlt' : ¬ (n : Int) < (b0 : Int) := by omega
        have HM : Hid ((b0 :: bs).dropWhile (n < ·) = b0 :: bs ∧ ((b0 :: bs).takeWhile (n < ·)).length = 0) := hid' (by simp [hlt])
        have HD2 := hid' D2
        have HB2 := hid' B2
        clear D2 B2
        go_wp2
        go_end0
        refine ⟨rfl, ?_, HB2.out⟩
        rw [HE1.out, HM.out.1, ← HE2.out, HM.out.2]
        exact ⟨_, _, _, HD2.out⟩
end
end Go.Proofs.YtaafhldcdkbnkaaGreatDoor
