/- Parts of the proof, together. What lex.Scan answers: the chapter's tokens, or where a text has none. Conditions: at most 65536 bytes; the words and the error of api lie in their variables. -/
import Derived.Test.YtaafhldcdkbnkaaGreatDoorQpbe
namespace Go.Proofs.YtaafhldcdkbnkaaGreatDoor
open Go.RowKit
open Lx

/-- A list of tokens in memory. -/
def ToksAt (W : World) (ao : Option Addr) (ts : List Tok) : Prop := ts = [] ∨ ∃ g, ao = some ⟨g, 0, none⟩ ∧ g < W.heap.size ∧ ∀ (j : Nat) t, ts[j]? = some t →
  W.cell? ⟨g, j * 3, none⟩ = some (.int .i64 (t.kind : Int)) ∧ W.cell? ⟨g, j * 3 + 1, none⟩ = some (.string (txt t.text)) ∧ W.cell? ⟨g, j * 3 + 2, none⟩ = some (.int .i64 (t.pos : Int))
theorem ToksAt.below {W W' : World} {ao : Option Addr} {ts : List Tok} (h : ToksAt W ao ts) (hb : Below W.heap.size W W') : ToksAt W' ao ts := by
  rcases h with h | ⟨g, h1, h2, h3⟩
  · exact .inl h
  · refine .inr ⟨g, h1, Nat.lt_of_lt_of_le h2 hb.size, fun j t ht => ?_⟩
    obtain ⟨a, b, c⟩ := h3 j t ht
    exact ⟨(hb.cell (p := ⟨g, j * 3, none⟩) h2).trans a, (hb.cell (p := ⟨g, j * 3 + 1, none⟩) h2).trans b, (hb.cell (p := ⟨g, j * 3 + 2, none⟩) h2).trans c⟩
theorem flat_tok : ∀ (ts : List Tok) (j : Nat) (t : Tok), ts[j]? = some t → (ts.flatMap tokC)[j * 3]? = some (.int .i64 (t.kind : Int)) ∧ (ts.flatMap tokC)[j * 3 + 1]? = some (.string (txt t.text)) ∧ (ts.flatMap tokC)[j * 3 + 2]? = some (.int .i64 (t.pos : Int))
  | [], j, t, h => by simp at h
  | a :: ts, 0, t, h => by
    obtain rfl : a = t := by simpa using h
    exact ⟨rfl, rfl, rfl⟩
  | a :: ts, j + 1, t, h => by
    have := flat_tok ts j t (by simpa using h)
    rw [List.flatMap_cons, show (j + 1) * 3 = j * 3 + 3 by omega]
    exact this
theorem toks_of {W : World} {B : Nat} {v : Value} {ts : List Tok} (h : W.ownsRow B 71 3 v ts.length (ts.flatMap tokC)) : ∃ ao cap, v = .slice ao ts.length cap ∧ ToksAt W ao ts := by
  by_cases h0 : ts = []
  · obtain ⟨ao, cap, e, _⟩ := own_form h
    exact ⟨ao, cap, e, .inl h0⟩
  · have hp : 0 < ts.length := List.length_pos_iff.2 h0
    obtain ⟨g, cap, e, _, _, hg, hx⟩ := own_some h hp
    refine ⟨_, cap, e, .inr ⟨g, rfl, hg, fun j t ht => ?_⟩⟩
    obtain ⟨a, b, c⟩ := flat_tok ts j t ht
    exact ⟨hx _ _ a, hx _ _ b, hx _ _ c⟩
def ScanPost (A : Nat → Addr) (W : World) (R : RR) (e : Ending) (w' : World) : Prop := Below W.heap.size W w' ∧ match R with
  | .bad pos => ∃ v, e = .returned (.tuple #[.slice none 0 0, v]) ∧ FaultV A w' W.heap.size v pos
  | .ok ts => ∃ ao cap, e = .returned (.tuple #[.slice ao ts.length cap, .nilIface]) ∧ ToksAt w' ao ts
/-- What the scanner's calls want of the world ahead of a call. -/
structure Vars (A : Nat → Addr) (W : World) : Prop where
  words : WordsAt W
  err : W.cell? ⟨4, 0, none⟩ = some (E A 0)
theorem Vars.below {A : Nat → Addr} {W W' : World} (h : Vars A W) (hb : Below W.heap.size W W') : Vars A W' := ⟨h.words.below hb, (hb.cell (World.block_lt_of_cell? W _ h.err)).trans h.err⟩
theorem Vars.env {A : Nat → Addr} {W : World} (h : Vars A W) : Env A W W.heap.size := ⟨h.words, h.err, World.block_lt_of_cell? W ⟨17, 0 + 0, none⟩ (h.words 0 _ rfl), World.block_lt_of_cell? W _ h.err⟩
theorem scan_start (W : World) (T : ByteArray) : ScanAt ((W.alloc (.cells #[.int .i64 0] 3)).alloc (.cells #[.string T, .int .i64 0, .slice none 0 0, .slice (some ⟨W.heap.size, 0, none⟩) 1 1, .slice none 0 0] 99)) W.heap.size (W.heap.size + 1) T 0 ⟨[], [0], []⟩ := by
  have h0 : ((W.alloc (.cells #[.int .i64 0] 3)).alloc (.cells #[.string T, .int .i64 0, .slice none 0 0, .slice (some ⟨W.heap.size, 0, none⟩) 1 1, .slice none 0 0] 99)).heap[W.heap.size]? = some (.cells #[.int .i64 0] 3 (0, 0)) := by
    rw [Below.heap_alloc _ _ _ (by simp)]
    exact heap_alloc_new W _
  refine ⟨.slice none 0 0, .slice (some ⟨W.heap.size, 0, none⟩) 1 1, .slice none 0 0, ⟨?_, ⟨rfl, .inl ⟨rfl, rfl⟩⟩, ⟨rfl, .inr ⟨W.heap.size, 1, #[.int .i64 0], rfl, Nat.le_refl _, h0, by simp, by unfold maxLen; simp, by simp, by simp [iv]⟩⟩, ⟨rfl, .inl ⟨rfl, rfl⟩⟩, by omega⟩⟩
  rw [show W.heap.size + 1 = (W.alloc (.cells #[.int .i64 0] 3)).heap.size by simp]
  exact heap_alloc_new _ _
set_option maxRecDepth 10000 in
set_option maxHeartbeats 1600000 in
theorem scan_any (A : Nat → Addr) (T : ByteArray) (hT : T.size ≤ 65536) (W : World) (hV : Vars A W) :
    Calls Tryz.prog 31 #[.string T] W (ScanPost A W (scanF T.data.toList)) := by
  obtain ⟨R, hR⟩ : ∃ R, scanF T.data.toList = R := ⟨_, rfl⟩
  rw [hR]
  unfold scanF at hR
  rw [show T.data.toList.length = T.size from by rw [Array.length_toList]; rfl] at hR
  have hb2 : Below W.heap.size W ((W.alloc (.cells #[.int .i64 0] 3)).alloc (.cells #[.string T, .int .i64 0, .slice none 0 0, .slice (some ⟨W.heap.size, 0, none⟩) 1 1, .slice none 0 0] 99)) := ((Below.refl _ _).alloc (Nat.le_refl _) _).alloc (by simp) _
  have HA := hid' (all_any A (scan_start W T) (hV.env.below hb2) (by omega) R hR.symm)
  have HB2 := hid' hb2
  have hT' : ¬ (65536 : Int) < (T.size : Int) := by omega
  clear hR hV hb2
  go_enter Tryz.func31, Tryz.ntmps31
  go_wp2_with fail
  refine (HA.out).mono ?_
  intro e w7 hpost
  clear HA
  rcases hpost with ⟨v, pos, rfl, rfl, hv, b7⟩ | ⟨q, st', rfl, rfl, S7, b7⟩
  · obtain ⟨gb, rfl, hv2, hv3⟩ := hv
    have HRES : Hid (ScanPost A W (.bad pos) (.returned (.tuple #[.slice none 0 0, .iface 67 (.pointer (some ⟨gb, 0, none⟩))])) w7) := hid' ⟨HB2.out.trans b7, _, rfl, ⟨gb, rfl, hv2, hv3⟩⟩
    clear b7 hv2 hv3 HB2
    go_wp2
    go_ret2
    exact HRES.out
  · obtain ⟨vt, vb, vo, D⟩ := S7
    obtain ⟨ao, cap, e, hts⟩ := toks_of D.toks
    obtain ⟨c0, c1, c2, c3, c4⟩ := D.cells
    rw [e] at c2
    have HRES : Hid (ScanPost A W (.ok st'.toks) (.returned (.tuple #[.slice ao st'.toks.length cap, .nilIface])) w7) := hid' ⟨HB2.out.trans b7, ao, cap, rfl, hts⟩
    clear b7 HB2 D e hts c0 c1 c3 c4
    go_wp2
    go_ret2
    exact HRES.out
end Go.Proofs.YtaafhldcdkbnkaaGreatDoor
