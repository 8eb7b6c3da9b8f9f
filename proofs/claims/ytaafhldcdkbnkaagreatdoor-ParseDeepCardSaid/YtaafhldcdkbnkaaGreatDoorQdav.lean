/- Parts of the proof, together. What lex.Scan answers: the chapter's tokens, or where a text has none. Conditions: at most 65536 bytes; the words and the error of api lie in their variables. What lex.Scan answers: the chapter's tokens, or where a text has none. Conditions: at most 65536 bytes; the words and the error of api lie in their variables. -/
import Derived.Test.YtaafhldcdkbnkaaGreatDoorQdau
namespace Go.Proofs.YtaafhldcdkbnkaaGreatDoor
open Go.RowKit
open Lx

section
variable {W : World} {B sb : Nat} {T : ByteArray} {p : Nat} {st : St}
set_option maxRecDepth 10000 in
set_option maxHeartbeats 1600000 in
theorem end_bad (A : Nat → Addr) (h : ScanAt W B sb T p st) (ho : st.op ≠ []) (hol : st.op.length ≤ 1000) (hE : Env A W B) :
    Calls Tryz.prog 71 #[.pointer (some ⟨sb, 0, none⟩)] W fun e w' => ∃ v, e = .returned v ∧ FaultV A w' B v p ∧ Below B W w' := by
  obtain ⟨vt, vb, vo, D⟩ := h
  obtain ⟨c0, c1, c2, c3, c4⟩ := D.cells
  obtain ⟨ao, cap, eo, _⟩ := own_form D.opn
  rw [eo] at c4
  have hpos : (0 : Int) < (st.op.length : Int) := by
    have : st.op.length ≠ 0 := fun h0 => ho (List.eq_nil_of_length_eq_zero h0)
    omega
  have hBW : B ≤ W.heap.size := by have := D.high; have := D.lt; omega
  have HF := hid' (fault_any (B := B) A p W hE.err hBW)
  clear D eo c0 c2 c3 ho hE
  go_enter Tryz.func71, Tryz.ntmps71
  go_wp2_with fail
  refine (HF.out).mono ?_
  rintro e w7 ⟨v, rfl, hv, b7⟩
  have HV := hid' hv
  have HB := hid' (b7.mono hBW)
  clear hv b7
  go_wp2
  go_ret
  exact ⟨v, rfl, HV.out, HB.out⟩
set_option maxRecDepth 10000 in
set_option maxHeartbeats 1600000 in
theorem end_ok (h : ScanAt W B sb T p st) (ho : st.op = []) (hG : Good 4 p st) (hp : p ≤ 200000) :
    Calls Tryz.prog 71 #[.pointer (some ⟨sb, 0, none⟩)] W fun e w' => e = .returned .nilIface ∧ (∃ st', ScanAt w' B sb T p st' ∧ endF p st = .ok st'.toks) ∧ Below B W w' := by
  have HH := hid' h
  have hb := hG.bl
  have hc := hG.cnt
  have HD := hid' (dedent_any h 0 (by omega) (by omega) (by omega) (by omega) hG.last)
  obtain ⟨vt, vb, vo, D⟩ := h
  obtain ⟨c0, c1, c2, c3, c4⟩ := D.cells
  obtain ⟨ao, cap, eo, _⟩ := own_form D.opn
  rw [eo, show st.op.length = 0 by rw [ho]; rfl] at c4
  have htl : (st.blocks.takeWhile (0 < ·)).length ≤ st.blocks.length := (List.takeWhile_prefix (fun x => decide (0 < x)) (l := st.blocks)).length_le
  have HEF : Hid (endF p st = .ok (st.toks ++ deds (st.blocks.takeWhile (0 < ·)).length p ++ [⟨8, [], p⟩])) := hid' (by unfold endF; rw [if_pos ho])
  rw [show ((0 : Nat) : Int) = 0 from rfl] at HD
  clear D eo c0 c2 c3 ho hG
  generalize (st.blocks.takeWhile (0 < ·)).length = kk at HD htl HEF
  go_enter Tryz.func71, Tryz.ntmps71
  go_wp2_with fail
  refine (HD.out).mono ?_
  rintro e w7 ⟨rfl, S7, b7⟩
  have HAD := hid' (add_any S7 8 ⟨#[]⟩ 0 (by omega) (by omega) (by simp [deds]; omega))
  have HB := hid' b7
  clear S7 b7 HD
  go_wp2_with fail
  refine (HAD.out).mono ?_
  rintro e w8 ⟨rfl, S8, b8⟩
  have HRES : Hid ((∃ st', ScanAt w8 B sb T p st' ∧ endF p st = .ok st'.toks) ∧ Below B W w8) := hid' ⟨⟨_, S8, HEF.out⟩, HB.out.trans b8⟩
  clear S8 b8
  go_wp2
  go_ret
  exact ⟨rfl, HRES.out⟩
def AllPost (A : Nat → Addr) (W : World) (B sb : Nat) (T : ByteArray) (R : RR) (e : Ending) (w' : World) : Prop :=
  (∃ v pos, R = .bad pos ∧ e = .returned v ∧ FaultV A w' B v pos ∧ Below B W w') ∨ (∃ q st', R = .ok st'.toks ∧ e = .returned .nilIface ∧ ScanAt w' B sb T q st' ∧ Below B W w')
set_option maxRecDepth 10000 in
set_option maxHeartbeats 3200000 in
theorem all_any (A : Nat → Addr) (h : ScanAt W B sb T 0 ⟨[], [0], []⟩) (hE : Env A W B) (hT : T.size ≤ 100000) (R : RR) (hR : R = goF (2 * T.size + 2) false 0 ⟨[], [0], []⟩ T.data.toList) :
    Calls Tryz.prog 50 #[.pointer (some ⟨sb, 0, none⟩)] W (AllPost A W B sb T R) := by
  have HH := hid' h
  have HE := hid' hE
  have HR := hid' hR
  clear h hE hR
  go_enter Tryz.func50, Tryz.ntmps50
  go_wp2
  go_loopg [] (T.size + 1) (fun gk wr => ∃ (q : Nat) (st : St) (n : Nat), T.size + 1 - q = gk ∧ q ≤ T.size ∧ Hid (ScanAt wr B sb T q st) ∧ Hid (Good 1 q st) ∧ Hid (R = goF n false q st (T.data.toList.drop q)) ∧ 2 * (T.size - q) + 2 ≤ n ∧ Hid (Env A wr B) ∧ Hid (Below B W wr))
  case atStart => exact ⟨0, _, _, rfl, Nat.zero_le _, HH, hid' ⟨by simp, by simp, rfl, by simp⟩, hid' (by rw [List.drop_zero]; exact HR.out), by omega, HE, hid' (Below.refl _ _)⟩
  case round =>
    clear HH HE HR
    obtain ⟨q, st, n, hgk, hq, hs, hg, hr, hn, he, hb⟩ := hrel
    have HL := hid' (line_any A hs.out he.out hg.out hq (by omega) R n hr.out hn)
    clear hs hg hr
    go_wp2_with fail
    refine (HL.out).mono ?_
    intro e w7 hpost
    clear HL
    rcases hpost with ⟨v, pos, hRb, rfl, hv, b7⟩ | ⟨q2, st2, n2, rfl, h1, h2, h3, S7, hG7, hR7, hn7, b7⟩
    · obtain ⟨gb, rfl, hv2, hv3⟩ := hv
      have HRES : Hid (AllPost A W B sb T R (.returned (.iface 67 (.pointer (some ⟨gb, 0, none⟩)))) w7) := hid' (.inl ⟨_, _, hRb, rfl, ⟨gb, rfl, hv2, hv3⟩, hb.out.trans b7⟩)
      clear b7 hv2 hv3 hRb
      go_wp2
      go_ret
      exact HRES.out
    · obtain ⟨vt, vb, vo, D⟩ := S7
      obtain ⟨c0, c1, c2, c3, c4⟩ := D.cells
      have HD := hid' D
      have HG := hid' hG7
      have HR7 := hid' hR7
      have HB := hid' (hb.out.trans b7)
      have HE := hid' (he.out.below b7)
      have H3 := hid' h3
      clear D hG7 hR7 b7 c2 c3 c4 h3
      by_cases hq2 : q2 = T.size
      · subst hq2
        have hRe : R = endF T.size st2 := by
          rw [HR7.out, List.drop_eq_nil_of_le (by simp)]; rfl
        have HRe := hid' hRe
        clear hRe HR7 H3
        go_wp2_with fail
        go_quiet (fail)
        generalize hw : w7.drewN nq = w8
        have S8 : ScanAt w8 B sb T T.size st2 := by rw [← hw]; exact ⟨_, _, _, HD.out.keep fun _ _ _ => rfl⟩
        have B8 : Below B W w8 := by rw [← hw]; exact ⟨HB.out.os, HB.out.tape, HB.out.output, HB.out.size, HB.out.block⟩
        have E8 : Env A w8 B := by rw [← hw]; exact ⟨HE.out.words, HE.out.err, HE.out.wB, HE.out.eB⟩
        have HB8 := hid' B8
        by_cases ho : st2.op = []
        · have HEN := hid' (end_ok S8 ho HG.out (by omega))
          clear hw S8 B8 E8 HD HB HE c0 c1 ho
          go_wp2_with fail
          refine (HEN.out).mono ?_
          rintro e w9 ⟨rfl, ⟨st', S9, hef⟩, b9⟩
          have HRES : Hid (AllPost A W B sb T R (.returned .nilIface) w9) := hid' (.inr ⟨_, st', HRe.out.trans hef, rfl, S9, HB8.out.trans b9⟩)
          clear S9 b9 hef HEN
          go_wp2
          go_ret
          exact HRES.out
        · have HEN := hid' (end_bad A S8 ho (by have := HG.out.op; omega) E8)
          have hRb : Hid (R = .bad T.size) := hid' (by rw [HRe.out]; unfold endF; rw [if_neg ho])
          clear hw S8 B8 E8 HD HB HE c0 c1 ho
          go_wp2_with fail
          refine (HEN.out).mono ?_
          rintro e w9 ⟨v, rfl, hv, b9⟩
          have HRES : Hid (AllPost A W B sb T R (.returned v) w9) := hid' (.inl ⟨v, _, hRb.out, rfl, hv, HB8.out.trans b9⟩)
          clear hv b9 HEN
          go_wp2
          go_ret
          exact HRES.out
      · have hlt : q2 < T.size := by omega
        have hne : ((q2 : Int) == (T.size : Int)) = false := by rw [beq_eq_false_iff_ne]; omega
        have hne2 : (q2 == T.size) = false := by rw [beq_eq_false_iff_ne]; exact hq2
        have hRn : Hid (R = goF n2 false (q2 + 1) st2 (T.data.toList.drop (q2 + 1))) := hid' (by
          rw [HR7.out, drop_at T q2 hlt]; rfl)
        clear hq2 HR7 H3
        go_wp2_with fail
        go_quiet (fail)
        generalize hw : w7.drewN nq = w8
        have D8 : ScanV w8 B sb T q2 st2 vt vb vo := by rw [← hw]; exact HD.out.keep fun _ _ _ => rfl
        have B8 : Below B W w8 := by rw [← hw]; exact ⟨HB.out.os, HB.out.tape, HB.out.output, HB.out.size, HB.out.block⟩
        have E8 : Env A w8 B := by rw [← hw]; exact ⟨HE.out.words, HE.out.err, HE.out.wB, HE.out.eB⟩
        have bs : Below B w8 (w8.setCell ⟨sb, 1, none⟩ (.int .i64 ((q2 : Int) + 1))) := Below.setCell (Below.refl _ _) (p := ⟨sb, 1, none⟩) (by simp only; exact D8.high) _
        have HS9 : Hid (ScanAt (w8.setCell ⟨sb, 1, none⟩ (.int .i64 ((q2 : Int) + 1))) B sb T (q2 + 1) st2) := hid' (by
          rw [show (q2 : Int) + 1 = ((q2 + 1 : Nat) : Int) by omega]
          exact ⟨_, _, _, D8.setPos (q2 + 1)⟩)
        have HB9 := hid' (B8.trans bs)
        have HE9 := hid' (E8.below bs)
        have f1 := D8.open_ 1
        have d1 := D8.cells.2.1
        have HG9 : Hid (Good 1 (q2 + 1) st2) := hid' (HG.out.more (by omega))
        clear hw D8 B8 E8 bs HD HB HE c0 c1 HG
        go_wp2
        go_roundg (T.size + 1 - (q2 + 1))
        case rel => exact ⟨q2 + 1, st2, n2, rfl, by omega, HS9, HG9, hRn, by omega, HE9, HB9⟩
        case measure => omega
end
end Go.Proofs.YtaafhldcdkbnkaaGreatDoor

namespace Go.Proofs.YtaafhldcdkbnkaaGreatDoor
open Go.RowKit
open Lx

/-- A list of tokens in memory. -/
def ToksAt (W : World) (ao : Option Addr) (ts : List Tok) : Prop := ts = [] ∨ ∃ g, ao = some ⟨g, 0, none⟩ ∧ g < W.heap.size ∧ ∀ (j : Nat) t, ts[j]? = some t →
  W.cell? ⟨g, j * 3, none⟩ = some (.int .i64 (t.kind : Int)) ∧ W.cell? ⟨g, j * 3 + 1, none⟩ = some (.string (txt t.text)) ∧ W.cell? ⟨g, j * 3 + 2, none⟩ = some (.int .i64 (t.pos : Int))
theorem ToksAt.below {W W' : World} {ao : Option Addr} {ts : List Tok} (h : ToksAt W ao ts) (hb : Below W.heap.size W W') : ToksAt W' ao ts := by
  rcases h with h | ⟨g, h1, h2, h3⟩
  · exact .inl h
  · refine .inr ⟨g, h1, Nat.lt_of_lt_of_le h2 hb.size, fun j t ht => ?_⟩
    obtain ⟨a, b, c⟩ := h3 j t ht
    exact ⟨(hb.cell (p := ⟨g, j * 3, none⟩) h2).trans a, (hb.cell (p := ⟨g, j * 3 + 1, none⟩) h2).trans b, (hb.cell (p := ⟨g, j * 3 + 2, none⟩) h2).trans c⟩
theorem flat_tok : ∀ (ts : List Tok) (j : Nat) (t : Tok), ts[j]? = some t → (ts.flatMap tokC)[j * 3]? = some (.int .i64 (t.kind : Int)) ∧ (ts.flatMap tokC)[j * 3 + 1]? = some (.string (txt t.text)) ∧ (ts.flatMap tokC)[j * 3 + 2]? = some (.int .i64 (t.pos : Int))
  | [], j, t, h => by simp at h
  | a :: ts, 0, t, h => by
    obtain rfl : a = t := by simpa using h
    exact ⟨rfl, rfl, rfl⟩
  | a :: ts, j + 1, t, h => by
    have := flat_tok ts j t (by simpa using h)
    rw [List.flatMap_cons, show (j + 1) * 3 = j * 3 + 3 by omega]
    exact this
theorem toks_of {W : World} {B : Nat} {v : Value} {ts : List Tok} (h : W.ownsRow B 71 3 v ts.length (ts.flatMap tokC)) : ∃ ao cap, v = .slice ao ts.length cap ∧ ToksAt W ao ts := by
  by_cases h0 : ts = []
  · obtain ⟨ao, cap, e, _⟩ := own_form h
    exact ⟨ao, cap, e, .inl h0⟩
  · have hp : 0 < ts.length := List.length_pos_iff.2 h0
    obtain ⟨g, cap, e, _, _, hg, hx⟩ := own_some h hp
    refine ⟨_, cap, e, .inr ⟨g, rfl, hg, fun j t ht => ?_⟩⟩
    obtain ⟨a, b, c⟩ := flat_tok ts j t ht
    exact ⟨hx _ _ a, hx _ _ b, hx _ _ c⟩
def ScanPost (A : Nat → Addr) (W : World) (R : RR) (e : Ending) (w' : World) : Prop := Below W.heap.size W w' ∧ match R with
  | .bad pos => ∃ v, e = .returned (.tuple #[.slice none 0 0, v]) ∧ FaultV A w' W.heap.size v pos
  | .ok ts => ∃ ao cap, e = .returned (.tuple #[.slice ao ts.length cap, .nilIface]) ∧ ToksAt w' ao ts
/-- What the scanner's calls want of the world ahead of a call. -/
structure Vars (A : Nat → Addr) (W : World) : Prop where
  words : WordsAt W
  err : W.cell? ⟨4, 0, none⟩ = some (E A 0)
theorem Vars.below {A : Nat → Addr} {W W' : World} (h : Vars A W) (hb : Below W.heap.size W W') : Vars A W' := ⟨h.words.below hb, (hb.cell (World.block_lt_of_cell? W _ h.err)).trans h.err⟩
theorem Vars.env {A : Nat → Addr} {W : World} (h : Vars A W) : Env A W W.heap.size := ⟨h.words, h.err, World.block_lt_of_cell? W ⟨17, 0 + 0, none⟩ (h.words 0 _ rfl), World.block_lt_of_cell? W _ h.err⟩
theorem scan_start (W : World) (T : ByteArray) : ScanAt ((W.alloc (.cells #[.int .i64 0] 3)).alloc (.cells #[.string T, .int .i64 0, .slice none 0 0, .slice (some ⟨W.heap.size, 0, none⟩) 1 1, .slice none 0 0] 99)) W.heap.size (W.heap.size + 1) T 0 ⟨[], [0], []⟩ := by
  have h0 : ((W.alloc (.cells #[.int .i64 0] 3)).alloc (.cells #[.string T, .int .i64 0, .slice none 0 0, .slice (some ⟨W.heap.size, 0, none⟩) 1 1, .slice none 0 0] 99)).heap[W.heap.size]? = some (.cells #[.int .i64 0] 3 (0, 0)) := by
    rw [Below.heap_alloc _ _ _ (by simp)]
    exact heap_alloc_new W _
  refine ⟨.slice none 0 0, .slice (some ⟨W.heap.size, 0, none⟩) 1 1, .slice none 0 0, ⟨?_, ⟨rfl, .inl ⟨rfl, rfl⟩⟩, ⟨rfl, .inr ⟨W.heap.size, 1, #[.int .i64 0], rfl, Nat.le_refl _, h0, by simp, by unfold maxLen; simp, by simp, by simp [iv]⟩⟩, ⟨rfl, .inl ⟨rfl, rfl⟩⟩, by omega⟩⟩
  rw [show W.heap.size + 1 = (W.alloc (.cells #[.int .i64 0] 3)).heap.size by simp]
  exact heap_alloc_new _ _
set_option maxRecDepth 10000 in
set_option maxHeartbeats 1600000 in
theorem scan_any (A : Nat → Addr) (T : ByteArray) (hT : T.size ≤ 65536) (W : World) (hV : Vars A W) :
    Calls Tryz.prog 31 #[.string T] W (ScanPost A W (scanF T.data.toList)) := by
  obtain ⟨R, hR⟩ : ∃ R, scanF T.data.toList = R := ⟨_, rfl⟩
  rw [hR]
  unfold scanF at hR
  rw [show T.data.toList.length = T.size from by rw [Array.length_toList]; rfl] at hR
  have hb2 : Below W.heap.size W ((W.alloc (.cells #[.int .i64 0] 3)).alloc (.cells #[.string T, .int .i64 0, .slice none 0 0, .slice (some ⟨W.heap.size, 0, none⟩) 1 1, .slice none 0 0] 99)) := ((Below.refl _ _).alloc (Nat.le_refl _) _).alloc (by simp) _
  have HA := hid' (all_any A (scan_start W T) (hV.env.below hb2) (by omega) R hR.symm)
  have HB2 := hid' hb2
  have hT' : ¬ (65536 : Int) < (T.size : Int) := by omega
  clear hR hV hb2
  go_enter Tryz.func31, Tryz.ntmps31
  go_wp2_with fail
  refine (HA.out).mono ?_
  intro e w7 hpost
  clear HA
  rcases hpost with ⟨v, pos, rfl, rfl, hv, b7⟩ | ⟨q, st', rfl, rfl, S7, b7⟩
  · obtain ⟨gb, rfl, hv2, hv3⟩ := hv
    have HRES : Hid (ScanPost A W (.bad pos) (.returned (.tuple #[.slice none 0 0, .iface 67 (.pointer (some ⟨gb, 0, none⟩))])) w7) := hid' ⟨HB2.out.trans b7, _, rfl, ⟨gb, rfl, hv2, hv3⟩⟩
    clear b7 hv2 hv3 HB2
    go_wp2
    go_ret2
    exact HRES.out
  · obtain ⟨vt, vb, vo, D⟩ := S7
    obtain ⟨ao, cap, e, hts⟩ := toks_of D.toks
    obtain ⟨c0, c1, c2, c3, c4⟩ := D.cells
    rw [e] at c2
    have HRES : Hid (ScanPost A W (.ok st'.toks) (.returned (.tuple #[.slice ao st'.toks.length cap, .nilIface])) w7) := hid' ⟨HB2.out.trans b7, ao, cap, rfl, hts⟩
    clear b7 HB2 D e hts c0 c1 c3 c4
    go_wp2
    go_ret2
    exact HRES.out
end Go.Proofs.YtaafhldcdkbnkaaGreatDoor
