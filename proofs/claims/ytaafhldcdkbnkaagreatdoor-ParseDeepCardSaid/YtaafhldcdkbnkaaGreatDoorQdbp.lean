/- Parts of the proof, together. On the way through a def's params: its list, its map, its flag. No conditions of its own. A def's param that has no value: what the closure that reads it does. Conditions: as told of less fuel. A def's param that has a value, behind one that has none: what the closure that reads it does. Conditions: as told of less fuel. A def's param that has a value, behind one that has one, too: what the closure that reads it does. Conditions: as told of less fuel. A def's param: what the closure that reads one does. Conditions: as told of less fuel. What items (of a def's params) answers. Conditions: as told of less fuel. -/
import Derived.Test.YtaafhldcdkbnkaaGreatDoorQdbo
namespace Go.Proofs.YtaafhldcdkbnkaaGreatDoor
open Go.RowKit
open Lx Ax Px

/-- On the way through a def's params: as through a call's arguments, and whether one had a value. -/
structure CD (A : Nat → Addr) (B pb mb kb px nb gb : Nat) (ts : List Tok) (tv : Value) (W0 : World) (vl0 : Value) (vs0 : List Value) (W : World) (s : PS) (vl : Value) (vs : List Value) (v : Value) (zs : List Int) (names : List (List UInt8)) (given : Bool) : Prop where
  cc : CC A B pb mb kb px nb ts tv W0 vl0 vs0 W s vl vs v zs names
  gr : RowV W gb 4 [.bool given]
  hig : W0.heap.size ≤ gb
def P1P (A : Nat → Addr) (B pb mb kb px nb gb : Nat) (ts : List Tok) (tv : Value) (W0 : World) (vl0 : Value) (vs0 : List Value) (W : World) (t : Tok) (zs : List Int) (names : List (List UInt8)) (r : R) (e : Ending) (w' : World) : Prop := match r with
  | .stuck => False
  | .bad l p => FaultP A B W l p e w'
  | .ok z _ c s' => e = .returned (.tuple #[]) ∧ ∃ vl' vs' v', CD A B pb mb kb px nb gb ts tv W0 vl0 vs0 w' s' vl' vs' v' (zs ++ [z]) (t.text :: names) c
section
variable {A : Nat → Addr} {B pb mb kb px nb gb : Nat} {ts : List Tok} {tv : Value} {W0 : World} {vl0 : Value} {vs0 : List Value} {W w2 : World} {s s2 : PS} {vl vl2 : Value} {vs vs2 : List Value} {v : Value} {zs : List Int} {names names2 : List (List UInt8)} {given : Bool}
theorem CD.stepM (h : CD A B pb mb kb px nb gb ts tv W0 vl0 vs0 W s vl vs v zs names given) (hp : PV A B pb ts tv w2 s2 vl2 vs2) (hs : StepM mb W.heap.size B pb W vl vs w2 vl2 vs2) (hm : MapU w2 mb names2) : CD A B pb mb kb px nb gb ts tv W0 vl0 vs0 w2 s2 vl2 vs2 v zs names2 given :=
  ⟨h.cc.stepM hp hs hm, h.gr.stepM (by decide) (by decide) h.cc.mp h.cc.pv hs, h.hig⟩
theorem CD.step (h : CD A B pb mb kb px nb gb ts tv W0 vl0 vs0 W s vl vs v zs names given) (hp : PV A B pb ts tv w2 s2 vl2 vs2) (hs : Step W.heap.size B pb W vl vs w2 vl2 vs2) : CD A B pb mb kb px nb gb ts tv W0 vl0 vs0 w2 s2 vl2 vs2 v zs names given := h.stepM hp (hs.toM mb) (h.cc.mp.step h.cc.pv hs)
/-- The flag is stored. -/
theorem CD.setGiven (h : CD A B pb mb kb px nb gb ts tv W0 vl0 vs0 W s vl vs v zs names given) (b : Bool) : CD A B pb mb kb px nb gb ts tv W0 vl0 vs0 (W.setCell ⟨gb, 0, none⟩ (.bool b)) s vl vs v zs names b := by
  have c := h.cc
  refine ⟨⟨c.pv.setBox h.gr (by decide) (by decide) (by decide) (Nat.le_trans c.hi.2.2 h.hig) 0 _, c.st.set ⟨gb, 0, none⟩ _ (.inl h.hig) c.hi.2.2 c.pv.high, row_past c.kr _ _ (fun e => RowV.apart c.kr h.gr (by decide) e), row_past c.pr _ _ (fun e => RowV.apart c.pr h.gr (by decide) e), row_past c.nr _ _ (fun e => RowV.apart c.nr h.gr (by decide) e), ?_, ?_, c.off, c.new, c.hi⟩, h.gr.set 0 _, h.hig⟩
  · exact MapAt.of_eq c.mp (heap_setCell_other _ _ mb _ (fun e => MapU.ne c.mp h.gr e.symm))
  · exact c.oz.keep fun k e _ => heap_setCell_other _ _ k _ (fun e2 => ne_kind c.oz h.gr (by decide) k e e2)
theorem CD.pushed {w9 : World} (h : CD A B pb mb kb px nb gb ts tv W0 vl0 vs0 W s vl vs v zs names given)
    (z : Int) (g cap : Nat) (ho : OwnZ w9 B (.slice (some ⟨g, 0, none⟩) (zs.length + 1) cap) (zs ++ [z])) (hb : Below B W w9) (hf : ∀ k, k < W.heap.size → v.ownBlock ≠ some k → w9.heap[k]? = W.heap[k]?) (hg : (some g = v.ownBlock) ∨ g = W.heap.size + 1) :
    RowV w9 kb 30 [v] ∧ CD A B pb mb kb px nb gb ts tv W0 vl0 vs0 (w9.setCell ⟨kb, 0, none⟩ (.slice (some ⟨g, 0, none⟩) (zs.length + 1) cap)) s vl vs (.slice (some ⟨g, 0, none⟩) (zs.length + 1) cap) (zs ++ [z]) names given := by
  obtain ⟨h1, h2⟩ := h.cc.pushed z g cap ho hb hf hg
  have hg9 := h.gr.far (hf gb h.gr.lt (fun e => ne_kind h.cc.oz h.gr (by decide) gb e rfl))
  exact ⟨h1, h2, row_past hg9 _ _ (fun e => RowV.apart hg9 h1 (by decide) e), h.hig⟩
end
end Go.Proofs.YtaafhldcdkbnkaaGreatDoor

namespace Go.Proofs.YtaafhldcdkbnkaaGreatDoor
open Go.RowKit
open Lx Ax Px

set_option maxRecDepth 10000 in
set_option maxHeartbeats 25600000 in
theorem param1_none {A : Nat → Addr} {B pb mb kb px nb gb : Nat} {ts : List Tok} {tv : Value} {m : Nat} (hts : ∀ t ∈ ts, (txt t.text).size ≤ 1000000) {W0 : World} {vl0 : Value} {vs0 : List Value} {W : World} {s : PS} {vl : Value} {vs : List Value} {v : Value} {zs : List Int} {names : List (List UInt8)} {given : Bool}
    (h : CD A B pb mb kb px nb gb ts tv W0 vl0 vs0 W s vl vs v zs names given) (t : Tok) (ht : ts[s.at_]? = some t) (hk : t.kind = 1) (t1 : Tok) (ht1 : ts[s.at_ + 1]? = some t1) (hl : ¬ sg t1 = [61]) (hn : names.length < 900001) (hz : zs.length < 900001) (r : R) (hr : runF ts (m + 1) (.param names given) s = r) (hnr : r ≠ .stuck) :
    Calls Tryz.prog 106 #[.pointer (some ⟨px, 0, none⟩), .pointer (some ⟨nb, 0, none⟩), .pointer (some ⟨gb, 0, none⟩), .pointer (some ⟨kb, 0, none⟩)] W (P1P A B pb mb kb px nb gb ts tv W0 vl0 vs0 W t zs names r) := by
  have HR := hid' hr
  have HC := hid' h
  have HT := hid' ht
  have HTS := hid' hts
  have HB := hid' (Below.refl B W)
  have hBm : B ≤ mb := Nat.le_trans h.cc.hi.2.2 h.cc.hi.1
  clear hr h ht hts
  rw [runF] at HR
  unfold bodyF at HR
  try dsimp only at HR
  have hnot : ∀ (x : Bool) (w : World), (Op.unary .not (.bool x)).run Tryz.prog w = .ok (.bool (!x)) w := fun _ _ => rfl
  rw [takeKF, HT.out] at HR
  try dsimp only at HR
  rw [if_pos hk, Px.signF] at HR
  try dsimp only at HR
  rw [ht1] at HR
  try dsimp only at HR
  have p0 := HC.out.cc.pr.cell (j := 0) rfl
  have pl0 := HC.out.cc.pr.lt
  go_enter Tryz.func106, Tryz.ntmps106
  go_wp2_with fail
  refine Calls.mono (take_hit HC.out.cc.pv t HT.out 1 hk) ?_
  rintro e w1 ⟨rfl, hp, hst⟩
  have h1 := HC.out.step hp (hst.step W.heap.size vl vs)
  have BX := hid' (row_new w1 71 [.int .i64 (t.kind : Int), .string (txt t.text), .int .i64 (t.pos : Int)])
  have h2 := h1.step (hp.alloc (.cells #[.int .i64 (t.kind : Int), .string (txt t.text), .int .i64 (t.pos : Int)] 71)) ((Step.refl w1.heap.size B pb w1 vl vs).alloc (.cells #[.int .i64 (t.kind : Int), .string (txt t.text), .int .i64 (t.pos : Int)] 71) hp.lowB)
  replace HB := hid' (hst.below.alloc (Nat.le_trans HC.out.cc.pv.lowB hst.below.size) (.cells #[.int .i64 (t.kind : Int), .string (txt t.text), .int .i64 (t.pos : Int)] 71))
  replace HC := hid' h2
  clear hk hp hst h1 h2 p0 pl0
  have p0 := HC.out.cc.pr.cell (j := 0) rfl
  have pl0 := HC.out.cc.pr.lt
  have HSK := hid' (skip_any HC.out.cc.pv t1 ht1 [61])
  go_wp2_with fail
  clear p0 pl0
  rw [if_neg hl] at HR
  rw [decide_eq_false hl, if_neg hl] at HSK
  clear hl
  refine Calls.mono HSK.out ?_
  rintro e w3 ⟨rfl, hp, hst⟩
  have hs := hst.step (w1.alloc (.cells #[.int .i64 (t.kind : Int), .string (txt t.text), .int .i64 (t.pos : Int)] 71)).heap.size vl vs
  have h3 := HC.out.step hp hs
  replace BX := hid' (BX.out.stepR (by decide) (by decide) HC.out.cc.pv hs)
  replace HB := hid' (HB.out.trans hst.below)
  replace HC := hid' h3
  clear hp hst hs h3 HSK
  have n0 := HC.out.cc.nr.cell (j := 0) rfl
  have nl0 := HC.out.cc.nr.lt
  have bx1 := BX.out.cell (j := 1) rfl
  have bxl := BX.out.lt
  go_wp2_with fail
  clear n0 nl0 bx1 bxl
  refine Calls.mono (fresh_any HC.out.cc.mp (by omega) t.text (HTS.out _ (List.mem_of_getElem? HT.out))) ?_
  rintro e w4 ⟨rfl, hm4, hsz4, hf4, hb4⟩
  have hp4 := PV.keepM HC.out.cc.pv HC.out.cc.mp (hb4 B hBm) hf4
  have hs4 : StepM mb w3.heap.size B pb w3 vl vs w4 vl vs := ⟨hb4 B hBm, fun k h1 _ h3 _ => hf4 k h1 h3, fun _ e => .inl e, ⟨[], by simp, by simp⟩⟩
  have h4 := HC.out.stepM hp4 hs4 hm4
  replace BX := hid' (BX.out.stepM (by decide) (by decide) HC.out.cc.mp HC.out.cc.pv hs4)
  replace HB := hid' (HB.out.trans (hb4 B hBm))
  replace HC := hid' h4
  clear hm4 hsz4 hf4 hb4 hp4 hs4 h4
  have g0 := HC.out.gr.cell (j := 0) rfl
  have go0 := HC.out.gr.open_ 0
  have gl0 := HC.out.gr.lt
  have bx2 := BX.out.cell (j := 2) rfl
  have bxl := BX.out.lt
  by_cases hin : t.text ∈ names
  · rw [if_pos (.inl hin)] at HR
    rw [show decide (¬ t.text ∈ names) = false by simpa using hin]
    clear hin
    have hce := HC.out.cc.pv.env.parse
    go_wp2_with (go_at_call 78; refine Calls.mono (p_fault_any A 1 _ _) ?_; rintro e wf ⟨rfl, rfl⟩)
    go_wp2
    obtain rfl : R.bad false t.pos = r := HR.out
    exact ⟨rfl, (fault_end (Below.refl _ w4) HC.out.cc.pv.lowB false 1 rfl _).of_below HB.out⟩
  rw [show decide (¬ t.text ∈ names) = true by simpa using hin]
  cases given with
  | true =>
    rw [if_pos (.inr rfl)] at HR
    clear hin
    have hce := HC.out.cc.pv.env.parse
    go_wp2_with (go_at_call 78; refine Calls.mono (p_fault_any A 1 _ _) ?_; rintro e wf ⟨rfl, rfl⟩)
    go_wp2
    obtain rfl : R.bad false t.pos = r := HR.out
    exact ⟨rfl, (fault_end (Below.refl _ w4) HC.out.cc.pv.lowB false 1 rfl _).of_below HB.out⟩
  | false =>
    rw [if_neg (fun h => h.elim hin (by simp))] at HR
    clear hin
    have hg := HC.out.setGiven false
    have hbx := row_past BX.out ⟨gb, 0, none⟩ (.bool false) (fun e => RowV.apart BX.out HC.out.gr (by decide) e)
    have p1 := hg.cc.pr.cell (j := 0) rfl
    have pl1 := hg.cc.pr.lt
    go_wp2_with fail
    clear p1 pl1 g0 go0 gl0 bx2 bxl
    replace HB := hid' (HB.out.setCell (p := ⟨gb, 0, none⟩) (Nat.le_trans HC.out.cc.hi.2.2 HC.out.hig) (.bool false))
    replace BX := hid' hbx
    replace HC := hid' hg
    clear hg hbx
    generalize (w4.setCell ⟨gb, 0, none⟩ (.bool false)) = w5 at HC BX HB ⊢
    generalize (PS.mk (s.at_ + 1) s.nodes s.deep) = s7 at HC HR
    have HCa := HC
    have HSa := hid' (Step.refl w5.heap.size B pb w5 vl vs)
    have OZ6 := hid' (OwnZ.nil w5 B)
    have OF6 := hid' (off_nil vs 0 0)
    have NW6 : Hid (∀ k, (Value.slice none 0 0).ownBlock = some k → w5.heap.size ≤ k) := hid' (fun _ e => by simp [Value.ownBlock] at e)
    rw [addF] at HR
    by_cases hn8 : ¬ ((PS.nodes s7).length < 900000 ∧ (List.length ([] : List Int)) < 900000)
    · rw [if_neg hn8] at HR
      exact absurd HR.out.symm hnr
    rw [Decidable.not_not] at hn8
    rw [if_pos hn8] at HR
    obtain rfl := HR.out
    obtain ⟨ao, cap, rfl, _⟩ := own_form HC.out.cc.oz
    have hpd : PV A B pb ts tv w5.drew s7 vl vs := HC.out.cc.pv.drewN 1
    have hsd : Step w5.heap.size B pb w5 vl vs w5.drew vl vs := Step.drewN (Step.refl w5.heap.size B pb w5 vl vs) 1
    have HA := hid' (p_add_any (n := w5.heap.size) hpd 46 t.pos (txt t.text) (HTS.out _ (List.mem_of_getElem? HT.out)) (.slice none 0 0) [] (OZ6.out.step HC.out.cc.pv hsd) OF6.out hn8.1 hn8.2 NW6.out)
    have HD := hid' hpd
    have BD := hid' (BX.out.stepR (by decide) (by decide) HC.out.cc.pv hsd)
    have HSD := hid' (HSa.out.then (Nat.le_refl _) hsd)
    have k0 := HC.out.cc.kr.cell (j := 0) rfl
    have kl0 := HC.out.cc.kr.lt
    have p0 := HC.out.cc.pr.cell (j := 0) rfl
    have pl0 := HC.out.cc.pr.lt
    have b1 := BX.out.cell (j := 1) rfl
    have b2 := BX.out.cell (j := 2) rfl
    have bl := BX.out.lt
    clear hpd hsd
    go_wp2_with fail
    go_region_law (first | (go_simp; go_at_call 35; refine Calls.mono HA.out ?_; rintro e w9 ⟨rfl, vl9, vs9, hp9, hs9⟩; have h9 := HCa.out.step hp9 (HSD.out.trans hs9); have k9 := h9.cc.kr.cell (j := 0) rfl; have kl9 := h9.cc.kr.lt; have H9 := hid' h9; clear hp9 hs9 h9) | (refine num_drawn (W := w9) H9.out.cc.oz _ H9.out.cc.pv.lowB (by omega) rfl (.tmp 35) (.tmp 43) (by rfl) (by rfl) (by rfl) ?_; intro ga capa wa9 q1 q2 q3 q4 q5; have ha := H9.out.pushed _ ga capa q1 q2 q3 q4; have ka := ha.1.cell (j := 0) rfl; have oa := ha.1.open_ 0; have la := ha.1.lt; have HZ := hid' ha.2; clear ha q1 q2 q3 q4 q5))
    all_goals (
      go_wp2
      go_end0
      exact ⟨rfl, _, _, _, HZ.out⟩)
end Go.Proofs.YtaafhldcdkbnkaaGreatDoor

namespace Go.Proofs.YtaafhldcdkbnkaaGreatDoor
open Go.RowKit
open Lx Ax Px

set_option maxRecDepth 10000 in
set_option maxHeartbeats 25600000 in
theorem param1_false {A : Nat → Addr} {B pb mb kb px nb gb : Nat} {ts : List Tok} {tv : Value} {m : Nat} (hts : ∀ t ∈ ts, (txt t.text).size ≤ 1000000) (H : All A B pb ts tv m) {W0 : World} {vl0 : Value} {vs0 : List Value} {W : World} {s : PS} {vl : Value} {vs : List Value} {v : Value} {zs : List Int} {names : List (List UInt8)}
    (h : CD A B pb mb kb px nb gb ts tv W0 vl0 vs0 W s vl vs v zs names false) (t : Tok) (ht : ts[s.at_]? = some t) (hk : t.kind = 1) (t1 : Tok) (ht1 : ts[s.at_ + 1]? = some t1) (hl : sg t1 = [61]) (hn : names.length < 900001) (hz : zs.length < 900001) (r : R) (hr : runF ts (m + 1) (.param names false) s = r) (hnr : r ≠ .stuck) :
    Calls Tryz.prog 106 #[.pointer (some ⟨px, 0, none⟩), .pointer (some ⟨nb, 0, none⟩), .pointer (some ⟨gb, 0, none⟩), .pointer (some ⟨kb, 0, none⟩)] W (P1P A B pb mb kb px nb gb ts tv W0 vl0 vs0 W t zs names r) := by
  have HR := hid' hr
  have HC := hid' h
  have HT := hid' ht
  have HTS := hid' hts
  have HB := hid' (Below.refl B W)
  have hBm : B ≤ mb := Nat.le_trans h.cc.hi.2.2 h.cc.hi.1
  clear hr h ht hts
  rw [runF] at HR
  unfold bodyF at HR
  try dsimp only at HR
  have hnot : ∀ (x : Bool) (w : World), (Op.unary .not (.bool x)).run Tryz.prog w = .ok (.bool (!x)) w := fun _ _ => rfl
  rw [takeKF, HT.out] at HR
  try dsimp only at HR
  rw [if_pos hk, Px.signF] at HR
  try dsimp only at HR
  rw [ht1] at HR
  try dsimp only at HR
  have p0 := HC.out.cc.pr.cell (j := 0) rfl
  have pl0 := HC.out.cc.pr.lt
  go_enter Tryz.func106, Tryz.ntmps106
  go_wp2_with fail
  refine Calls.mono (take_hit HC.out.cc.pv t HT.out 1 hk) ?_
  rintro e w1 ⟨rfl, hp, hst⟩
  have h1 := HC.out.step hp (hst.step W.heap.size vl vs)
  have BX := hid' (row_new w1 71 [.int .i64 (t.kind : Int), .string (txt t.text), .int .i64 (t.pos : Int)])
  have h2 := h1.step (hp.alloc (.cells #[.int .i64 (t.kind : Int), .string (txt t.text), .int .i64 (t.pos : Int)] 71)) ((Step.refl w1.heap.size B pb w1 vl vs).alloc (.cells #[.int .i64 (t.kind : Int), .string (txt t.text), .int .i64 (t.pos : Int)] 71) hp.lowB)
  replace HB := hid' (hst.below.alloc (Nat.le_trans HC.out.cc.pv.lowB hst.below.size) (.cells #[.int .i64 (t.kind : Int), .string (txt t.text), .int .i64 (t.pos : Int)] 71))
  replace HC := hid' h2
  clear hk hp hst h1 h2 p0 pl0
  have p0 := HC.out.cc.pr.cell (j := 0) rfl
  have pl0 := HC.out.cc.pr.lt
  have HSK := hid' (skip_any HC.out.cc.pv t1 ht1 [61])
  go_wp2_with fail
  clear p0 pl0
  rw [if_pos hl] at HR
  rw [decide_eq_true hl, if_pos hl] at HSK
  clear hl
  refine Calls.mono HSK.out ?_
  rintro e w3 ⟨rfl, hp, hst⟩
  have hs := hst.step (w1.alloc (.cells #[.int .i64 (t.kind : Int), .string (txt t.text), .int .i64 (t.pos : Int)] 71)).heap.size vl vs
  have h3 := HC.out.step hp hs
  replace BX := hid' (BX.out.stepR (by decide) (by decide) HC.out.cc.pv hs)
  replace HB := hid' (HB.out.trans hst.below)
  replace HC := hid' h3
  clear hp hst hs h3 HSK
  have n0 := HC.out.cc.nr.cell (j := 0) rfl
  have nl0 := HC.out.cc.nr.lt
  have bx1 := BX.out.cell (j := 1) rfl
  have bxl := BX.out.lt
  go_wp2_with fail
  clear n0 nl0 bx1 bxl
  refine Calls.mono (fresh_any HC.out.cc.mp (by omega) t.text (HTS.out _ (List.mem_of_getElem? HT.out))) ?_
  rintro e w4 ⟨rfl, hm4, hsz4, hf4, hb4⟩
  have hp4 := PV.keepM HC.out.cc.pv HC.out.cc.mp (hb4 B hBm) hf4
  have hs4 : StepM mb w3.heap.size B pb w3 vl vs w4 vl vs := ⟨hb4 B hBm, fun k h1 _ h3 _ => hf4 k h1 h3, fun _ e => .inl e, ⟨[], by simp, by simp⟩⟩
  have h4 := HC.out.stepM hp4 hs4 hm4
  replace BX := hid' (BX.out.stepM (by decide) (by decide) HC.out.cc.mp HC.out.cc.pv hs4)
  replace HB := hid' (HB.out.trans (hb4 B hBm))
  replace HC := hid' h4
  clear hm4 hsz4 hf4 hb4 hp4 hs4 h4
  have g0 := HC.out.gr.cell (j := 0) rfl
  have go0 := HC.out.gr.open_ 0
  have gl0 := HC.out.gr.lt
  have bx2 := BX.out.cell (j := 2) rfl
  have bxl := BX.out.lt
  by_cases hin : t.text ∈ names
  · rw [if_pos hin] at HR
    rw [show decide (¬ t.text ∈ names) = false by simpa using hin]
    clear hin
    have hce := HC.out.cc.pv.env.parse
    go_wp2_with (go_at_call 78; refine Calls.mono (p_fault_any A 1 _ _) ?_; rintro e wf ⟨rfl, rfl⟩)
    go_wp2
    obtain rfl : R.bad false t.pos = r := HR.out
    exact ⟨rfl, (fault_end (Below.refl _ w4) HC.out.cc.pv.lowB false 1 rfl _).of_below HB.out⟩
  rw [if_neg hin] at HR
  rw [show decide (¬ t.text ∈ names) = true by simpa using hin]
  clear hin
  have hg := HC.out.setGiven true
  have p1 := hg.cc.pr.cell (j := 0) rfl
  have pl1 := hg.cc.pr.lt
  have hbx := row_past BX.out ⟨gb, 0, none⟩ (.bool true) (fun e => RowV.apart BX.out HC.out.gr (by decide) e)
  all_goals (
    go_wp2_with fail
    clear p1 pl1 g0 go0 gl0 bx2 bxl
    replace HB := hid' (HB.out.setCell (p := ⟨gb, 0, none⟩) (Nat.le_trans HC.out.cc.hi.2.2 HC.out.hig) (.bool true))
    replace BX := hid' hbx
    replace HC := hid' hg
    clear hg hbx
    generalize (PS.mk (s.at_ + 1 + 1) s.nodes s.deep) = s6 at HC HR
    generalize hq6 : runF ts m .test s6 = r6 at HR
    rcases r6 with _ | ⟨l6, p6⟩ | ⟨z6, y6, c6, s7⟩
    · exact absurd HR.out.symm hnr
    · refine Calls.mono (H.test _ _ _ _ _ HC.out.cc.pv hq6 (by simp)) ?_
      rintro e wb hp
      have HF := hid' (FaultP.of_below hp HB.out)
      obtain ⟨gb', rfl, _⟩ := hp
      obtain rfl : R.bad l6 p6 = r := HR.out
      go_wp2
      exact ⟨rfl, HF.out⟩
    refine Calls.mono (H.test _ _ _ _ _ HC.out.cc.pv hq6 (by simp)) ?_
    rintro e w6 ⟨vl6, vs6, rfl, hp, hs⟩
    have h6 := HC.out.step hp hs
    replace BX := hid' (BX.out.stepR (by decide) (by decide) HC.out.cc.pv hs)
    replace HB := hid' (HB.out.trans hs.below)
    replace HC := hid' h6
    try dsimp only [R.bind] at HR
    clear h6 hp hs hq6
    go_wp2_with (at_builtin; refine num_plain (OwnZ.nil w6 B) z6 1 rfl HC.out.cc.pv.lowB (by simp) rfl (.tmp 30) (.tmp 33) (by rfl) (by rfl) (by rfl) ?_; intro g5 cap5 w7 q1 q2 q3 q4 q5; have HQ := hid' (row_push (m := 1) HC.out.cc.pv (Step.refl w6.heap.size B pb w6 vl6 vs6) (OwnZ.nil w6 B) (off_nil vs6 0 0) (fun _ e => by simp [Value.ownBlock] at e) q2 q3 g5 cap5 q4); have OZ6 := hid' q1; clear q1 q2 q3 q4 q5)
    have HCa := HC
    have HSa := hid' HQ.out.2.1
    have OF6 := hid' HQ.out.2.2.1
    have NW6 := hid' HQ.out.2.2.2
    replace BX := hid' (BX.out.stepR (by decide) (by decide) HC.out.cc.pv HQ.out.2.1)
    replace HC := hid' (HC.out.step HQ.out.1 HQ.out.2.1)
    clear HQ
    rw [addF] at HR
    by_cases hn8 : ¬ ((PS.nodes s7).length < 900000 ∧ (List.length ([z6] : List Int)) < 900000)
    · rw [if_neg hn8] at HR
      exact absurd HR.out.symm hnr
    rw [Decidable.not_not] at hn8
    rw [if_pos hn8] at HR
    obtain rfl := HR.out
    obtain ⟨ao, cap, rfl, _⟩ := own_form HC.out.cc.oz
    have hpd : PV A B pb ts tv w7.drew s7 vl6 vs6 := HC.out.cc.pv.drewN 1
    have hsd : Step w7.heap.size B pb w7 vl6 vs6 w7.drew vl6 vs6 := Step.drewN (Step.refl w7.heap.size B pb w7 vl6 vs6) 1
    have HA := hid' (p_add_any (n := w6.heap.size) hpd 46 t.pos (txt t.text) (HTS.out _ (List.mem_of_getElem? HT.out)) (.slice (some ⟨g5, 0, none⟩) 1 cap5) [z6] (OZ6.out.step HC.out.cc.pv hsd) OF6.out hn8.1 hn8.2 NW6.out)
    have HD := hid' hpd
    have BD := hid' (BX.out.stepR (by decide) (by decide) HC.out.cc.pv hsd)
    have HSD := hid' (HSa.out.then (Nat.le_refl _) hsd)
    have k0 := HC.out.cc.kr.cell (j := 0) rfl
    have kl0 := HC.out.cc.kr.lt
    have p0 := HC.out.cc.pr.cell (j := 0) rfl
    have pl0 := HC.out.cc.pr.lt
    have b1 := BX.out.cell (j := 1) rfl
    have b2 := BX.out.cell (j := 2) rfl
    have bl := BX.out.lt
    clear hpd hsd
    go_wp2_with fail
    go_region_law (first | (go_simp; go_at_call 35; refine Calls.mono HA.out ?_; rintro e w9 ⟨rfl, vl9, vs9, hp9, hs9⟩; have h9 := HCa.out.step hp9 (HSD.out.trans hs9); have k9 := h9.cc.kr.cell (j := 0) rfl; have kl9 := h9.cc.kr.lt; have H9 := hid' h9; clear hp9 hs9 h9) | (refine num_drawn (W := w9) H9.out.cc.oz _ H9.out.cc.pv.lowB (by omega) rfl (.tmp 35) (.tmp 43) (by rfl) (by rfl) (by rfl) ?_; intro ga capa wa9 q1 q2 q3 q4 q5; have ha := H9.out.pushed _ ga capa q1 q2 q3 q4; have ka := ha.1.cell (j := 0) rfl; have oa := ha.1.open_ 0; have la := ha.1.lt; have HZ := hid' ha.2; clear ha q1 q2 q3 q4 q5))
    all_goals (
      go_wp2
      go_end0
      exact ⟨rfl, _, _, _, HZ.out⟩))
end Go.Proofs.YtaafhldcdkbnkaaGreatDoor

namespace Go.Proofs.YtaafhldcdkbnkaaGreatDoor
open Go.RowKit
open Lx Ax Px

set_option maxRecDepth 10000 in
set_option maxHeartbeats 25600000 in
theorem param1_true {A : Nat → Addr} {B pb mb kb px nb gb : Nat} {ts : List Tok} {tv : Value} {m : Nat} (hts : ∀ t ∈ ts, (txt t.text).size ≤ 1000000) (H : All A B pb ts tv m) {W0 : World} {vl0 : Value} {vs0 : List Value} {W : World} {s : PS} {vl : Value} {vs : List Value} {v : Value} {zs : List Int} {names : List (List UInt8)}
    (h : CD A B pb mb kb px nb gb ts tv W0 vl0 vs0 W s vl vs v zs names true) (t : Tok) (ht : ts[s.at_]? = some t) (hk : t.kind = 1) (t1 : Tok) (ht1 : ts[s.at_ + 1]? = some t1) (hl : sg t1 = [61]) (hn : names.length < 900001) (hz : zs.length < 900001) (r : R) (hr : runF ts (m + 1) (.param names true) s = r) (hnr : r ≠ .stuck) :
    Calls Tryz.prog 106 #[.pointer (some ⟨px, 0, none⟩), .pointer (some ⟨nb, 0, none⟩), .pointer (some ⟨gb, 0, none⟩), .pointer (some ⟨kb, 0, none⟩)] W (P1P A B pb mb kb px nb gb ts tv W0 vl0 vs0 W t zs names r) := by
  have HR := hid' hr
  have HC := hid' h
  have HT := hid' ht
  have HTS := hid' hts
  have HB := hid' (Below.refl B W)
  have hBm : B ≤ mb := Nat.le_trans h.cc.hi.2.2 h.cc.hi.1
  clear hr h ht hts
  rw [runF] at HR
  unfold bodyF at HR
  try dsimp only at HR
  have hnot : ∀ (x : Bool) (w : World), (Op.unary .not (.bool x)).run Tryz.prog w = .ok (.bool (!x)) w := fun _ _ => rfl
  rw [takeKF, HT.out] at HR
  try dsimp only at HR
  rw [if_pos hk, Px.signF] at HR
  try dsimp only at HR
  rw [ht1] at HR
  try dsimp only at HR
  have p0 := HC.out.cc.pr.cell (j := 0) rfl
  have pl0 := HC.out.cc.pr.lt
  go_enter Tryz.func106, Tryz.ntmps106
  go_wp2_with fail
  refine Calls.mono (take_hit HC.out.cc.pv t HT.out 1 hk) ?_
  rintro e w1 ⟨rfl, hp, hst⟩
  have h1 := HC.out.step hp (hst.step W.heap.size vl vs)
  have BX := hid' (row_new w1 71 [.int .i64 (t.kind : Int), .string (txt t.text), .int .i64 (t.pos : Int)])
  have h2 := h1.step (hp.alloc (.cells #[.int .i64 (t.kind : Int), .string (txt t.text), .int .i64 (t.pos : Int)] 71)) ((Step.refl w1.heap.size B pb w1 vl vs).alloc (.cells #[.int .i64 (t.kind : Int), .string (txt t.text), .int .i64 (t.pos : Int)] 71) hp.lowB)
  replace HB := hid' (hst.below.alloc (Nat.le_trans HC.out.cc.pv.lowB hst.below.size) (.cells #[.int .i64 (t.kind : Int), .string (txt t.text), .int .i64 (t.pos : Int)] 71))
  replace HC := hid' h2
  clear hk hp hst h1 h2 p0 pl0
  have p0 := HC.out.cc.pr.cell (j := 0) rfl
  have pl0 := HC.out.cc.pr.lt
  have HSK := hid' (skip_any HC.out.cc.pv t1 ht1 [61])
  go_wp2_with fail
  clear p0 pl0
  rw [if_pos hl] at HR
  rw [decide_eq_true hl, if_pos hl] at HSK
  clear hl
  refine Calls.mono HSK.out ?_
  rintro e w3 ⟨rfl, hp, hst⟩
  have hs := hst.step (w1.alloc (.cells #[.int .i64 (t.kind : Int), .string (txt t.text), .int .i64 (t.pos : Int)] 71)).heap.size vl vs
  have h3 := HC.out.step hp hs
  replace BX := hid' (BX.out.stepR (by decide) (by decide) HC.out.cc.pv hs)
  replace HB := hid' (HB.out.trans hst.below)
  replace HC := hid' h3
  clear hp hst hs h3 HSK
  have n0 := HC.out.cc.nr.cell (j := 0) rfl
  have nl0 := HC.out.cc.nr.lt
  have bx1 := BX.out.cell (j := 1) rfl
  have bxl := BX.out.lt
  go_wp2_with fail
  clear n0 nl0 bx1 bxl
  refine Calls.mono (fresh_any HC.out.cc.mp (by omega) t.text (HTS.out _ (List.mem_of_getElem? HT.out))) ?_
  rintro e w4 ⟨rfl, hm4, hsz4, hf4, hb4⟩
  have hp4 := PV.keepM HC.out.cc.pv HC.out.cc.mp (hb4 B hBm) hf4
  have hs4 : StepM mb w3.heap.size B pb w3 vl vs w4 vl vs := ⟨hb4 B hBm, fun k h1 _ h3 _ => hf4 k h1 h3, fun _ e => .inl e, ⟨[], by simp, by simp⟩⟩
  have h4 := HC.out.stepM hp4 hs4 hm4
  replace BX := hid' (BX.out.stepM (by decide) (by decide) HC.out.cc.mp HC.out.cc.pv hs4)
  replace HB := hid' (HB.out.trans (hb4 B hBm))
  replace HC := hid' h4
  clear hm4 hsz4 hf4 hb4 hp4 hs4 h4
  have g0 := HC.out.gr.cell (j := 0) rfl
  have go0 := HC.out.gr.open_ 0
  have gl0 := HC.out.gr.lt
  have bx2 := BX.out.cell (j := 2) rfl
  have bxl := BX.out.lt
  by_cases hin : t.text ∈ names
  · rw [if_pos hin] at HR
    rw [show decide (¬ t.text ∈ names) = false by simpa using hin]
    clear hin
    have hce := HC.out.cc.pv.env.parse
    go_wp2_with (go_at_call 78; refine Calls.mono (p_fault_any A 1 _ _) ?_; rintro e wf ⟨rfl, rfl⟩)
    go_wp2
    obtain rfl : R.bad false t.pos = r := HR.out
    exact ⟨rfl, (fault_end (Below.refl _ w4) HC.out.cc.pv.lowB false 1 rfl _).of_below HB.out⟩
  rw [if_neg hin] at HR
  rw [show decide (¬ t.text ∈ names) = true by simpa using hin]
  clear hin
  have hg := HC.out.setGiven true
  have p1 := hg.cc.pr.cell (j := 0) rfl
  have pl1 := hg.cc.pr.lt
  have hbx := row_past BX.out ⟨gb, 0, none⟩ (.bool true) (fun e => RowV.apart BX.out HC.out.gr (by decide) e)
  all_goals (
    go_wp2_with fail
    clear p1 pl1 g0 go0 gl0 bx2 bxl
    replace HB := hid' (HB.out.setCell (p := ⟨gb, 0, none⟩) (Nat.le_trans HC.out.cc.hi.2.2 HC.out.hig) (.bool true))
    replace BX := hid' hbx
    replace HC := hid' hg
    clear hg hbx
    generalize (PS.mk (s.at_ + 1 + 1) s.nodes s.deep) = s6 at HC HR
    generalize hq6 : runF ts m .test s6 = r6 at HR
    rcases r6 with _ | ⟨l6, p6⟩ | ⟨z6, y6, c6, s7⟩
    · exact absurd HR.out.symm hnr
    · refine Calls.mono (H.test _ _ _ _ _ HC.out.cc.pv hq6 (by simp)) ?_
      rintro e wb hp
      have HF := hid' (FaultP.of_below hp HB.out)
      obtain ⟨gb', rfl, _⟩ := hp
      obtain rfl : R.bad l6 p6 = r := HR.out
      go_wp2
      exact ⟨rfl, HF.out⟩
    refine Calls.mono (H.test _ _ _ _ _ HC.out.cc.pv hq6 (by simp)) ?_
    rintro e w6 ⟨vl6, vs6, rfl, hp, hs⟩
    have h6 := HC.out.step hp hs
    replace BX := hid' (BX.out.stepR (by decide) (by decide) HC.out.cc.pv hs)
    replace HB := hid' (HB.out.trans hs.below)
    replace HC := hid' h6
    try dsimp only [R.bind] at HR
    clear h6 hp hs hq6
    go_wp2_with (at_builtin; refine num_plain (OwnZ.nil w6 B) z6 1 rfl HC.out.cc.pv.lowB (by simp) rfl (.tmp 30) (.tmp 33) (by rfl) (by rfl) (by rfl) ?_; intro g5 cap5 w7 q1 q2 q3 q4 q5; have HQ := hid' (row_push (m := 1) HC.out.cc.pv (Step.refl w6.heap.size B pb w6 vl6 vs6) (OwnZ.nil w6 B) (off_nil vs6 0 0) (fun _ e => by simp [Value.ownBlock] at e) q2 q3 g5 cap5 q4); have OZ6 := hid' q1; clear q1 q2 q3 q4 q5)
    have HCa := HC
    have HSa := hid' HQ.out.2.1
    have OF6 := hid' HQ.out.2.2.1
    have NW6 := hid' HQ.out.2.2.2
    replace BX := hid' (BX.out.stepR (by decide) (by decide) HC.out.cc.pv HQ.out.2.1)
    replace HC := hid' (HC.out.step HQ.out.1 HQ.out.2.1)
    clear HQ
    rw [addF] at HR
    by_cases hn8 : ¬ ((PS.nodes s7).length < 900000 ∧ (List.length ([z6] : List Int)) < 900000)
    · rw [if_neg hn8] at HR
      exact absurd HR.out.symm hnr
    rw [Decidable.not_not] at hn8
    rw [if_pos hn8] at HR
    obtain rfl := HR.out
    obtain ⟨ao, cap, rfl, _⟩ := own_form HC.out.cc.oz
    have hpd : PV A B pb ts tv w7.drew s7 vl6 vs6 := HC.out.cc.pv.drewN 1
    have hsd : Step w7.heap.size B pb w7 vl6 vs6 w7.drew vl6 vs6 := Step.drewN (Step.refl w7.heap.size B pb w7 vl6 vs6) 1
    have HA := hid' (p_add_any (n := w6.heap.size) hpd 46 t.pos (txt t.text) (HTS.out _ (List.mem_of_getElem? HT.out)) (.slice (some ⟨g5, 0, none⟩) 1 cap5) [z6] (OZ6.out.step HC.out.cc.pv hsd) OF6.out hn8.1 hn8.2 NW6.out)
    have HD := hid' hpd
    have BD := hid' (BX.out.stepR (by decide) (by decide) HC.out.cc.pv hsd)
    have HSD := hid' (HSa.out.then (Nat.le_refl _) hsd)
    have k0 := HC.out.cc.kr.cell (j := 0) rfl
    have kl0 := HC.out.cc.kr.lt
    have p0 := HC.out.cc.pr.cell (j := 0) rfl
    have pl0 := HC.out.cc.pr.lt
    have b1 := BX.out.cell (j := 1) rfl
    have b2 := BX.out.cell (j := 2) rfl
    have bl := BX.out.lt
    clear hpd hsd
    go_wp2_with fail
    go_region_law (first | (go_simp; go_at_call 35; refine Calls.mono HA.out ?_; rintro e w9 ⟨rfl, vl9, vs9, hp9, hs9⟩; have h9 := HCa.out.step hp9 (HSD.out.trans hs9); have k9 := h9.cc.kr.cell (j := 0) rfl; have kl9 := h9.cc.kr.lt; have H9 := hid' h9; clear hp9 hs9 h9) | (refine num_drawn (W := w9) H9.out.cc.oz _ H9.out.cc.pv.lowB (by omega) rfl (.tmp 35) (.tmp 43) (by rfl) (by rfl) (by rfl) ?_; intro ga capa wa9 q1 q2 q3 q4 q5; have ha := H9.out.pushed _ ga capa q1 q2 q3 q4; have ka := ha.1.cell (j := 0) rfl; have oa := ha.1.open_ 0; have la := ha.1.lt; have HZ := hid' ha.2; clear ha q1 q2 q3 q4 q5))
    all_goals (
      go_wp2
      go_end0
      exact ⟨rfl, _, _, _, HZ.out⟩))
end Go.Proofs.YtaafhldcdkbnkaaGreatDoor

namespace Go.Proofs.YtaafhldcdkbnkaaGreatDoor
open Go.RowKit
open Lx Ax Px

set_option maxRecDepth 10000 in
theorem param1_step {A : Nat → Addr} {B pb mb kb px nb gb : Nat} {ts : List Tok} {tv : Value} {m : Nat} (hts : ∀ t ∈ ts, (txt t.text).size ≤ 1000000) (H : All A B pb ts tv m) {W0 : World} {vl0 : Value} {vs0 : List Value} {W : World} {s : PS} {vl : Value} {vs : List Value} {v : Value} {zs : List Int} {names : List (List UInt8)} {given : Bool}
    (h : CD A B pb mb kb px nb gb ts tv W0 vl0 vs0 W s vl vs v zs names given) (t : Tok) (ht : ts[s.at_]? = some t) (hn : names.length < 900001) (hz : zs.length < 900001) (r : R) (hr : runF ts (m + 1) (.param names given) s = r) (hnr : r ≠ .stuck) :
    Calls Tryz.prog 106 #[.pointer (some ⟨px, 0, none⟩), .pointer (some ⟨nb, 0, none⟩), .pointer (some ⟨gb, 0, none⟩), .pointer (some ⟨kb, 0, none⟩)] W (P1P A B pb mb kb px nb gb ts tv W0 vl0 vs0 W t zs names r) := by
  by_cases hk : t.kind = 1
  · cases ht1 : ts[s.at_ + 1]? with
    | none =>
      rw [runF] at hr
      unfold bodyF at hr
      try dsimp only at hr
      rw [takeKF, ht] at hr
      try dsimp only at hr
      rw [if_pos hk, Px.signF] at hr
      try dsimp only at hr
      rw [ht1] at hr
      exact absurd hr.symm hnr
    | some t1 =>
      by_cases hl : sg t1 = [61]
      · cases given with
        | false => exact param1_false hts H h t ht hk t1 ht1 hl hn hz r hr hnr
        | true => exact param1_true hts H h t ht hk t1 ht1 hl hn hz r hr hnr
      · exact param1_none hts h t ht hk t1 ht1 hl hn hz r hr hnr
  · have HC := hid' h
    have HR := hid' hr
    clear h hr
    rw [runF] at HR
    unfold bodyF at HR
    try dsimp only at HR
    rw [takeKF, ht] at HR
    try dsimp only at HR
    rw [if_neg hk] at HR
    have p0 := HC.out.cc.pr.cell (j := 0) rfl
    have pl0 := HC.out.cc.pr.lt
    go_enter Tryz.func106, Tryz.ntmps106
    go_wp2_with fail
    refine Calls.mono (take_miss HC.out.cc.pv t ht 1 hk) ?_
    rintro e wb hp
    have HF := hid' hp
    obtain ⟨gb', rfl, _⟩ := hp
    obtain rfl : R.bad false t.pos = r := HR.out
    go_wp2
    exact ⟨rfl, HF.out⟩
end Go.Proofs.YtaafhldcdkbnkaaGreatDoor

namespace Go.Proofs.YtaafhldcdkbnkaaGreatDoor
open Go.RowKit
open Lx Ax Px

def DtP (A : Nat → Addr) (B pb mb kb px nb gb : Nat) (ts : List Tok) (tv : Value) (W0 : World) (vl0 : Value) (vs0 : List Value) (r : R) (e : Ending) (w' : World) : Prop := match r with
  | .stuck => False
  | .bad l p => FaultP A B W0 l p e w'
  | .ok _ zs c s' => e = .returned (.tuple #[]) ∧ zs.length < 900001 ∧ ∃ vl' vs' v' names', CD A B pb mb kb px nb gb ts tv W0 vl0 vs0 w' s' vl' vs' v' zs names' c
set_option maxRecDepth 10000 in
set_option maxHeartbeats 6400000 in
theorem items_params {A : Nat → Addr} {B pb mb kb px nb gb : Nat} {ts : List Tok} {tv : Value} {m : Nat} (hts : ∀ t ∈ ts, (txt t.text).size ≤ 1000000) (H : ∀ j, j ≤ m → All A B pb ts tv j) {W0 : World} {vl0 : Value} {vs0 : List Value} {W : World} {s : PS} {vl : Value} {vs : List Value} {v : Value} {zs : List Int} {names : List (List UInt8)} {given : Bool}
    (h : CD A B pb mb kb px nb gb ts tv W0 vl0 vs0 W s vl vs v zs names given) (hn : names.length < 900001) (hz : zs.length < 900001) (r : R) (hr : runF ts m (.params zs names given) s = r) (hnr : r ≠ .stuck) :
    Calls Tryz.prog 105 #[.pointer (some ⟨pb, 0, none⟩), .string (txt [41]), .func (.func 106) #[] #[.pointer (some ⟨px, 0, none⟩), .pointer (some ⟨nb, 0, none⟩), .pointer (some ⟨gb, 0, none⟩), .pointer (some ⟨kb, 0, none⟩)]] W (DtP A B pb mb kb px nb gb ts tv W0 vl0 vs0 r) := by
  have HC := hid' h
  have HR := hid' hr
  have HTS := hid' hts
  clear h hr hts
  have hnot : ∀ (x : Bool) (w : World), (Op.unary .not (.bool x)).run Tryz.prog w = .ok (.bool (!x)) w := fun _ _ => rfl
  go_enter Tryz.func105, Tryz.ntmps105
  go_wp2_with fail
  go_loopg [] m (fun gk wr => ∃ (s : PS) (vl : Value) (vs : List Value) (v : Value) (zs : List Int) (names : List (List UInt8)) (given : Bool), gk ≤ m ∧ names.length < 900001 ∧ zs.length < 900001 ∧ Hid (CD A B pb mb kb px nb gb ts tv W0 vl0 vs0 wr s vl vs v zs names given) ∧ Hid (runF ts gk (.params zs names given) s = r))
  case atStart => exact ⟨s, vl, vs, v, zs, names, given, Nat.le_refl _, hn, hz, HC, HR⟩
  case round =>
    clear HC HR hn hz
    obtain ⟨s, vl, vs, v, zs, names, given, hgk, hn, hz, HC, HR⟩ := hrel
    rcases gk with _ | j
    · exact absurd HR.out.symm hnr
    rw [runF] at HR
    unfold bodyF at HR
    try dsimp only at HR
    rw [Px.signF] at HR
    generalize ht : ts[s.at_]? = o at HR
    rcases o with _ | t
    · exact absurd HR.out.symm hnr
    try dsimp only at HR
    go_wp2_with fail
    refine Calls.mono (sees_any HC.out.cc.pv t ht [41]) ?_
    rintro e w2 ⟨rfl, b2⟩
    have h2 := HC.out.step (HC.out.cc.pv.low b2) (Step.low (n := wr.heap.size) HC.out.cc.pv b2)
    replace HC := hid' h2
    clear h2 b2
    by_cases hl : sg t = [41]
    · rw [if_pos hl] at HR
      rw [decide_eq_true hl]
      obtain rfl := HR.out
      clear hl
      go_wp2
      go_end0
      exact ⟨rfl, by first | exact hz | (rw [List.length_append, List.length_singleton]; omega), _, _, _, _, HC.out⟩
    rw [if_neg hl] at HR
    rw [decide_eq_false hl]
    clear hl
    rw [nextF, ht] at HR
    try dsimp only at HR
    rcases j with _ | j
    · exact absurd HR.out.symm hnr
    generalize hq : runF ts (j + 1) (.param names given) s = ra at HR
    rcases ra with _ | ⟨l1, p1⟩ | ⟨z1, y1, c1, s1⟩
    · exact absurd HR.out.symm hnr
    · go_wp2_with fail
      refine Calls.mono (param1_step HTS.out (H j (by omega)) HC.out t ht hn hz _ hq (by simp)) ?_
      rintro e wb hp
      have HF := hid' (FaultP.of_below hp HC.out.cc.st.below)
      obtain ⟨gb, rfl, _⟩ := hp
      obtain rfl : R.bad l1 p1 = r := HR.out
      go_wp2
      exact ⟨rfl, HF.out⟩
    go_wp2_with fail
    refine Calls.mono (param1_step HTS.out (H j (by omega)) HC.out t ht hn hz _ hq (by simp)) ?_
    rintro e w3 ⟨rfl, vl3, vs3, v3, h3⟩
    replace HC := hid' h3
    try dsimp only [R.bind] at HR
    clear h3 hq
    by_cases hlen : ¬ (zs.length < 900000 ∧ names.length < 900000)
    · rw [if_neg hlen] at HR
      exact absurd HR.out.symm hnr
    rw [Decidable.not_not] at hlen
    rw [if_pos hlen] at HR
    rw [Px.signF] at HR
    generalize ht4 : ts[s1.at_]? = o4 at HR
    rcases o4 with _ | t4
    · exact absurd HR.out.symm hnr
    try dsimp only at HR
    go_wp2_with fail
    refine Calls.mono (sees_any HC.out.cc.pv t4 ht4 [41]) ?_
    rintro e w4 ⟨rfl, b4⟩
    have h4 := HC.out.step (HC.out.cc.pv.low b4) (Step.low (n := w3.heap.size) HC.out.cc.pv b4)
    replace HC := hid' h4
    clear h4 b4
    by_cases hl4 : sg t4 = [41]
    · rw [if_pos hl4] at HR
      rw [decide_eq_true hl4]
      obtain rfl := HR.out
      clear hl4
      go_wp2
      go_end0
      exact ⟨rfl, by first | exact hz | (rw [List.length_append, List.length_singleton]; omega), _, _, _, _, HC.out⟩
    rw [if_neg hl4] at HR
    rw [decide_eq_false hl4]
    clear hl4
    rw [needF, ht4] at HR
    try dsimp only at HR
    by_cases hl5 : ¬ sg t4 = [44]
    · rw [if_neg hl5] at HR
      go_wp2_with fail
      refine Calls.mono (need_miss HC.out.cc.pv t4 ht4 [44] hl5) ?_
      rintro e wb hp
      have HF := hid' (FaultP.of_below hp HC.out.cc.st.below)
      obtain ⟨gb, rfl, _⟩ := hp
      obtain rfl : R.bad false t4.pos = r := HR.out
      go_wp2
      exact ⟨rfl, HF.out⟩
    rw [Decidable.not_not] at hl5
    rw [if_pos hl5] at HR
    go_wp2_with fail
    refine Calls.mono (need_hit HC.out.cc.pv t4 ht4 [44] hl5) ?_
    rintro e w5 ⟨rfl, hp5, hst5⟩
    have h5 := HC.out.step hp5 (hst5.step w4.heap.size vl3 vs3)
    replace HC := hid' h5
    clear h5 hp5 hst5 hl5
    go_wp2
    go_roundg (j + 1)
    case measure => omega
    case rel => exact ⟨_, _, _, _, _, _, _, by omega, by rw [List.length_cons]; omega, by rw [List.length_append, List.length_singleton]; omega, HC, HR⟩
end Go.Proofs.YtaafhldcdkbnkaaGreatDoor
