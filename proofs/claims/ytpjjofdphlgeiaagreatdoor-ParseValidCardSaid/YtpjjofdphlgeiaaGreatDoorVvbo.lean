/- Parts of the proof, together. A def's param: what the closure that reads one does. Conditions: as told of less fuel. What items (of a def's params) answers. Conditions: as told of less fuel. What params of the parser answers. Conditions: as told of less fuel. What def of the parser answers. Conditions: as told of less fuel. -/
import Derived.Test.YtpjjofdphlgeiaaGreatDoorVvbn
namespace Go.Proofs.YtpjjofdphlgeiaaGreatDoor
open Go.RowKit
open Lx Ax Px

set_option maxRecDepth 10000 in
theorem param1_step {A : Nat → Addr} {B pb mb kb px nb gb : Nat} {ts : List Tok} {tv : Value} {m : Nat} (hts : ∀ t ∈ ts, (txt t.text).size ≤ 1000000) (H : All A B pb ts tv m) {W0 : World} {vl0 : Value} {vs0 : List Value} {W : World} {s : PS} {vl : Value} {vs : List Value} {v : Value} {zs : List Int} {names : List (List UInt8)} {given : Bool}
    (h : CD A B pb mb kb px nb gb ts tv W0 vl0 vs0 W s vl vs v zs names given) (t : Tok) (ht : ts[s.at_]? = some t) (hn : names.length < 900001) (hz : zs.length < 900001) (r : R) (hr : runF ts (m + 1) (.param names given) s = r) (hnr : r ≠ .stuck) :
    Calls Tryz.prog 106 #[.pointer (some ⟨px, 0, none⟩), .pointer (some ⟨nb, 0, none⟩), .pointer (some ⟨gb, 0, none⟩), .pointer (some ⟨kb, 0, none⟩)] W (P1P A B pb mb kb px nb gb ts tv W0 vl0 vs0 W t zs names r) := by
  by_cases hk : t.kind = 1
  · cases ht1 : ts[s.at_ + 1]? with
    | none =>
      rw [runF] at hr
      unfold bodyF at hr
      try dsimp only at hr
      rw [takeKF, ht] at hr
      try dsimp only at hr
      rw [if_pos hk, Px.signF] at hr
      try dsimp only at hr
      rw [ht1] at hr
      exact absurd hr.symm hnr
    | some t1 =>
      by_cases hl : sg t1 = [61]
      · cases given with
        | false => exact param1_false hts H h t ht hk t1 ht1 hl hn hz r hr hnr
        | true => exact param1_true hts H h t ht hk t1 ht1 hl hn hz r hr hnr
      · exact param1_none hts h t ht hk t1 ht1 hl hn hz r hr hnr
  · have HC := hid' h
    have HR := hid' hr
    clear h hr
    rw [runF] at HR
    unfold bodyF at HR
    try dsimp only at HR
    rw [takeKF, ht] at HR
    try dsimp only at HR
    rw [if_neg hk] at HR
    have p0 := HC.out.cc.pr.cell (j := 0) rfl
    have pl0 := HC.out.cc.pr.lt
    go_enter Tryz.func106, Tryz.ntmps106
    go_wp2_with fail
    refine Calls.mono (take_miss HC.out.cc.pv t ht 1 hk) ?_
    rintro e wb hp
    have HF := hid' hp
    obtain ⟨gb', rfl, _⟩ := hp
    obtain rfl : R.bad false t.pos = r := HR.out
    go_wp2
    exact ⟨rfl, HF.out⟩
end Go.Proofs.YtpjjofdphlgeiaaGreatDoor

namespace Go.Proofs.YtpjjofdphlgeiaaGreatDoor
open Go.RowKit
open Lx Ax Px

def DtP (A : Nat → Addr) (B pb mb kb px nb gb : Nat) (ts : List Tok) (tv : Value) (W0 : World) (vl0 : Value) (vs0 : List Value) (r : R) (e : Ending) (w' : World) : Prop := match r with
  | .stuck => False
  | .bad l p => FaultP A B W0 l p e w'
  | .ok _ zs c s' => e = .returned (.tuple #[]) ∧ zs.length < 900001 ∧ ∃ vl' vs' v' names', CD A B pb mb kb px nb gb ts tv W0 vl0 vs0 w' s' vl' vs' v' zs names' c
set_option maxRecDepth 10000 in
set_option maxHeartbeats 6400000 in
theorem items_params {A : Nat → Addr} {B pb mb kb px nb gb : Nat} {ts : List Tok} {tv : Value} {m : Nat} (hts : ∀ t ∈ ts, (txt t.text).size ≤ 1000000) (H : ∀ j, j ≤ m → All A B pb ts tv j) {W0 : World} {vl0 : Value} {vs0 : List Value} {W : World} {s : PS} {vl : Value} {vs : List Value} {v : Value} {zs : List Int} {names : List (List UInt8)} {given : Bool}
    (h : CD A B pb mb kb px nb gb ts tv W0 vl0 vs0 W s vl vs v zs names given) (hn : names.length < 900001) (hz : zs.length < 900001) (r : R) (hr : runF ts m (.params zs names given) s = r) (hnr : r ≠ .stuck) :
    Calls Tryz.prog 105 #[.pointer (some ⟨pb, 0, none⟩), .string (txt [41]), .func (.func 106) #[] #[.pointer (some ⟨px, 0, none⟩), .pointer (some ⟨nb, 0, none⟩), .pointer (some ⟨gb, 0, none⟩), .pointer (some ⟨kb, 0, none⟩)]] W (DtP A B pb mb kb px nb gb ts tv W0 vl0 vs0 r) := by
  have HC := hid' h
  have HR := hid' hr
  have HTS := hid' hts
  clear h hr hts
  have hnot : ∀ (x : Bool) (w : World), (Op.unary .not (.bool x)).run Tryz.prog w = .ok (.bool (!x)) w := fun _ _ => rfl
  go_enter Tryz.func105, Tryz.ntmps105
  go_wp2_with fail
  go_loopg [] m (fun gk wr => ∃ (s : PS) (vl : Value) (vs : List Value) (v : Value) (zs : List Int) (names : List (List UInt8)) (given : Bool), gk ≤ m ∧ names.length < 900001 ∧ zs.length < 900001 ∧ Hid (CD A B pb mb kb px nb gb ts tv W0 vl0 vs0 wr s vl vs v zs names given) ∧ Hid (runF ts gk (.params zs names given) s = r))
  case atStart => exact ⟨s, vl, vs, v, zs, names, given, Nat.le_refl _, hn, hz, HC, HR⟩
  case round =>
    clear HC HR hn hz
    obtain ⟨s, vl, vs, v, zs, names, given, hgk, hn, hz, HC, HR⟩ := hrel
    rcases gk with _ | j
    · exact absurd HR.out.symm hnr
    rw [runF] at HR
    unfold bodyF at HR
    try dsimp only at HR
    rw [Px.signF] at HR
    generalize ht : ts[s.at_]? = o at HR
    rcases o with _ | t
    · exact absurd HR.out.symm hnr
    try dsimp only at HR
    go_wp2_with fail
    refine Calls.mono (sees_any HC.out.cc.pv t ht [41]) ?_
    rintro e w2 ⟨rfl, b2⟩
    have h2 := HC.out.step (HC.out.cc.pv.low b2) (Step.low (n := wr.heap.size) HC.out.cc.pv b2)
    replace HC := hid' h2
    clear h2 b2
    by_cases hl : sg t = [41]
    · rw [if_pos hl] at HR
      rw [decide_eq_true hl]
      obtain rfl := HR.out
      clear hl
      go_wp2
      go_end0
      exact ⟨rfl, by first | exact hz | (rw [List.length_append, List.length_singleton]; omega), _, _, _, _, HC.out⟩
    rw [if_neg hl] at HR
    rw [decide_eq_false hl]
    clear hl
    rw [nextF, ht] at HR
    try dsimp only at HR
    rcases j with _ | j
    · exact absurd HR.out.symm hnr
    generalize hq : runF ts (j + 1) (.param names given) s = ra at HR
    rcases ra with _ | ⟨l1, p1⟩ | ⟨z1, y1, c1, s1⟩
    · exact absurd HR.out.symm hnr
    · go_wp2_with fail
      refine Calls.mono (param1_step HTS.out (H j (by omega)) HC.out t ht hn hz _ hq (by simp)) ?_
      rintro e wb hp
      have HF := hid' (FaultP.of_below hp HC.out.cc.st.below)
      obtain ⟨gb, rfl, _⟩ := hp
      obtain rfl : R.bad l1 p1 = r := HR.out
      go_wp2
      exact ⟨rfl, HF.out⟩
    go_wp2_with fail
    refine Calls.mono (param1_step HTS.out (H j (by omega)) HC.out t ht hn hz _ hq (by simp)) ?_
    rintro e w3 ⟨rfl, vl3, vs3, v3, h3⟩
    replace HC := hid' h3
    try dsimp only [R.bind] at HR
    clear h3 hq
    by_cases hlen : ¬ (zs.length < 900000 ∧ names.length < 900000)
    · rw [if_neg hlen] at HR
      exact absurd HR.out.symm hnr
    rw [Decidable.not_not] at hlen
    rw [if_pos hlen] at HR
    rw [Px.signF] at HR
    generalize ht4 : ts[s1.at_]? = o4 at HR
    rcases o4 with _ | t4
    · exact absurd HR.out.symm hnr
    try dsimp only at HR
    go_wp2_with fail
    refine Calls.mono (sees_any HC.out.cc.pv t4 ht4 [41]) ?_
    rintro e w4 ⟨rfl, b4⟩
    have h4 := HC.out.step (HC.out.cc.pv.low b4) (Step.low (n := w3.heap.size) HC.out.cc.pv b4)
    replace HC := hid' h4
    clear h4 b4
    by_cases hl4 : sg t4 = [41]
    · rw [if_pos hl4] at HR
      rw [decide_eq_true hl4]
      obtain rfl := HR.out
      clear hl4
      go_wp2
      go_end0
      exact ⟨rfl, by first | exact hz | (rw [List.length_append, List.length_singleton]; omega), _, _, _, _, HC.out⟩
    rw [if_neg hl4] at HR
    rw [decide_eq_false hl4]
    clear hl4
    rw [needF, ht4] at HR
    try dsimp only at HR
    by_cases hl5 : ¬ sg t4 = [44]
    · rw [if_neg hl5] at HR
      go_wp2_with fail
      refine Calls.mono (need_miss HC.out.cc.pv t4 ht4 [44] hl5) ?_
      rintro e wb hp
      have HF := hid' (FaultP.of_below hp HC.out.cc.st.below)
      obtain ⟨gb, rfl, _⟩ := hp
      obtain rfl : R.bad false t4.pos = r := HR.out
      go_wp2
      exact ⟨rfl, HF.out⟩
    rw [Decidable.not_not] at hl5
    rw [if_pos hl5] at HR
    go_wp2_with fail
    refine Calls.mono (need_hit HC.out.cc.pv t4 ht4 [44] hl5) ?_
    rintro e w5 ⟨rfl, hp5, hst5⟩
    have h5 := HC.out.step hp5 (hst5.step w4.heap.size vl3 vs3)
    replace HC := hid' h5
    clear h5 hp5 hst5 hl5
    go_wp2
    go_roundg (j + 1)
    case measure => omega
    case rel => exact ⟨_, _, _, _, _, _, _, by omega, by rw [List.length_cons]; omega, by rw [List.length_append, List.length_singleton]; omega, HC, HR⟩
end Go.Proofs.YtpjjofdphlgeiaaGreatDoor

namespace Go.Proofs.YtpjjofdphlgeiaaGreatDoor
open Go.RowKit
open Lx Ax Px

def PaP (A : Nat → Addr) (B pb : Nat) (ts : List Tok) (tv : Value) (W : World) (vl : Value) (vs : List Value) (r : R) (e : Ending) (w' : World) : Prop := match r with
  | .stuck => False
  | .bad l p => FaultP A B W l p e w'
  | .ok _ zs _ s' => zs.length < 900001 ∧ ∃ v vl' vs', e = .returned v ∧ PV A B pb ts tv w' s' vl' vs' ∧ Step W.heap.size B pb W vl vs w' vl' vs' ∧ OwnZ w' B v zs ∧ (∀ k, v.ownBlock = some k → W.heap.size ≤ k) ∧ Off v vs'
set_option maxRecDepth 10000 in
set_option maxHeartbeats 6400000 in
theorem params_any {A : Nat → Addr} {B pb : Nat} {ts : List Tok} {tv : Value} {m : Nat} (hts : ∀ t ∈ ts, (txt t.text).size ≤ 1000000) (H : ∀ j, j ≤ m → All A B pb ts tv j) (W : World) (s : PS) (vl : Value) (vs : List Value) (r : R) (h : PV A B pb ts tv W s vl vs) (hr : runF ts m (.params [] [] false) s = r) (hnr : r ≠ .stuck) :
    Calls Tryz.prog 79 #[ptr pb] W (PaP A B pb ts tv W vl vs r) := by
  have HP := hid' h
  have HR := hid' hr
  have HLO := hid' h.lowB
  have HTS := hid' hts
  clear h hr hts
  unfold ptr
  have hmm : ∀ w : World, (Instr.makeMap 128 none).run Tryz.prog w = .ok (.map (some w.heap.size)) (w.alloc (.map #[] 0)) := fun _ => rfl
  have hmf : ∀ (fn : Fn) (first cap : Array Value) (w : World), (Instr.makeFunc fn first cap).run Tryz.prog w = .ok (.func fn first cap) w := fun _ _ _ _ => rfl
  have e1 : (W.alloc (.cells #[.pointer (some ⟨pb, 0, none⟩)] 45)).heap.size = W.heap.size + 1 := by simp
  have e2 : ((W.alloc (.cells #[.pointer (some ⟨pb, 0, none⟩)] 45)).alloc (.cells #[.slice none 0 0] 30)).heap.size = W.heap.size + 1 + 1 := by simp
  have e3 : (((W.alloc (.cells #[.pointer (some ⟨pb, 0, none⟩)] 45)).alloc (.cells #[.slice none 0 0] 30)).alloc (.map #[] 0)).heap.size = W.heap.size + 1 + 1 + 1 := by simp
  have e4 : ((((W.alloc (.cells #[.pointer (some ⟨pb, 0, none⟩)] 45)).alloc (.cells #[.slice none 0 0] 30)).alloc (.map #[] 0)).alloc (.cells #[.map (some (W.heap.size + 1 + 1))] 128)).heap.size = W.heap.size + 1 + 1 + 1 + 1 := by simp
  have pr1 := row_new W 45 [.pointer (some ⟨pb, 0, none⟩)]
  have kr1 := row_new (W.alloc (.cells #[.pointer (some ⟨pb, 0, none⟩)] 45)) 30 [.slice none 0 0]
  rw [e1] at kr1
  have nr1 := row_new (((W.alloc (.cells #[.pointer (some ⟨pb, 0, none⟩)] 45)).alloc (.cells #[.slice none 0 0] 30)).alloc (.map #[] 0)) 128 [.map (some (W.heap.size + 1 + 1))]
  rw [e3] at nr1
  have gr1 := row_new ((((W.alloc (.cells #[.pointer (some ⟨pb, 0, none⟩)] 45)).alloc (.cells #[.slice none 0 0] 30)).alloc (.map #[] 0)).alloc (.cells #[.map (some (W.heap.size + 1 + 1))] 128)) 4 [.bool false]
  rw [e4] at gr1
  have mp1 : MapU (((W.alloc (.cells #[.pointer (some ⟨pb, 0, none⟩)] 45)).alloc (.cells #[.slice none 0 0] 30)).alloc (.map #[] 0)) (W.heap.size + 1 + 1) [] := by
    have h1 := MapAt.made ((W.alloc (.cells #[.pointer (some ⟨pb, 0, none⟩)] 45)).alloc (.cells #[.slice none 0 0] 30)) (.agg #[]) rdS_unit
    rw [e2] at h1
    exact h1
  have mp2 : MapU ((((W.alloc (.cells #[.pointer (some ⟨pb, 0, none⟩)] 45)).alloc (.cells #[.slice none 0 0] 30)).alloc (.map #[] 0)).alloc (.cells #[.map (some (W.heap.size + 1 + 1))] 128)) (W.heap.size + 1 + 1) [] := MapAt.of_eq mp1 (Below.heap_alloc _ _ _ (by rw [e3]; omega))
  have mp3 : MapU (((((W.alloc (.cells #[.pointer (some ⟨pb, 0, none⟩)] 45)).alloc (.cells #[.slice none 0 0] 30)).alloc (.map #[] 0)).alloc (.cells #[.map (some (W.heap.size + 1 + 1))] 128)).alloc (.cells #[.bool false] 4)) (W.heap.size + 1 + 1) [] := MapAt.of_eq mp2 (Below.heap_alloc _ _ _ (by rw [e4]; omega))
  have HS0 := Step.refl W.heap.size B pb W vl vs
  have hCD : CD A B pb (W.heap.size + 1 + 1) (W.heap.size + 1) W.heap.size (W.heap.size + 1 + 1 + 1) (W.heap.size + 1 + 1 + 1 + 1) ts tv W vl vs (((((W.alloc (.cells #[.pointer (some ⟨pb, 0, none⟩)] 45)).alloc (.cells #[.slice none 0 0] 30)).alloc (.map #[] 0)).alloc (.cells #[.map (some (W.heap.size + 1 + 1))] 128)).alloc (.cells #[.bool false] 4)) s vl vs (.slice none 0 0) [] [] false :=
    ⟨⟨((((HP.out.alloc _).alloc _).alloc _).alloc _).alloc _, ((((HS0.alloc _ HLO.out).alloc _ HLO.out).alloc _ HLO.out).alloc _ HLO.out).alloc _ HLO.out, row_alloc (row_alloc (row_alloc kr1 _) _) _, row_alloc (row_alloc (row_alloc (row_alloc pr1 _) _) _) _, row_alloc nr1 _, mp3,
      OwnZ.nil _ _, off_nil _ 0 0, fun _ e => by simp [Value.ownBlock] at e, ⟨by omega, by omega, HLO.out⟩⟩, gr1, by omega⟩
  have HC := hid' hCD
  clear hCD mp1 mp2 mp3 nr1 kr1 gr1 pr1 HS0 e1 e2 e3 e4 HP
  have bx4 := HC.out.cc.pr.cell (j := 0) rfl
  go_enter Tryz.func79, Tryz.ntmps79
  go_wp2_with fail
  clear bx4
  rcases r with _ | ⟨l7, p7⟩ | ⟨z7, y7, c7, s7⟩
  · exact absurd rfl hnr
  · refine Calls.mono (items_params HTS.out H HC.out (by simp) (by simp) _ HR.out hnr) ?_
    rintro e wb hp
    have HF := hid' hp
    obtain ⟨gb, rfl, _⟩ := hp
    go_wp2
    exact ⟨rfl, HF.out⟩
  refine Calls.mono (items_params HTS.out H HC.out (by simp) (by simp) _ HR.out hnr) ?_
  rintro e w7 ⟨rfl, hyl, vl7, vs7, v7, names7, h7⟩
  have HC7 := hid' h7
  obtain ⟨av, cv, rfl, _⟩ := own_form h7.cc.oz
  have kx0 := h7.cc.kr.cell (j := 0) rfl
  have kxl := h7.cc.kr.lt
  clear h7 HC
  go_wp2
  go_returns
  exact ⟨hyl, _, _, _, rfl, HC7.out.cc.pv, HC7.out.cc.st, HC7.out.cc.oz, HC7.out.cc.new, HC7.out.cc.off⟩
end Go.Proofs.YtpjjofdphlgeiaaGreatDoor

namespace Go.Proofs.YtpjjofdphlgeiaaGreatDoor
open Go.RowKit
open Lx Ax Px

set_option maxRecDepth 10000 in
set_option maxHeartbeats 6400000 in
theorem def_step {A : Nat → Addr} {B pb : Nat} {ts : List Tok} {tv : Value} {m : Nat} (hts : ∀ t ∈ ts, (txt t.text).size ≤ 1000000) (H : ∀ j, j ≤ m → All A B pb ts tv j) : Does A B pb ts tv 56 #[ptr pb] .def_ (m + 1) := by
  intro W s vl vs r h hr hnr
  have HR := hid' hr
  have HP := hid' h
  have HS := hid' (Step.refl W.heap.size B pb W vl vs)
  have HLO := hid' h.lowB
  clear hr h
  rw [runF] at HR
  unfold bodyF at HR
  dsimp only at HR
  have hnot : ∀ (x : Bool) (w : World), (Op.unary .not (.bool x)).run Tryz.prog w = .ok (.bool (!x)) w := fun _ _ => rfl
  have hfk := tok_kind
  have hfp := tok_pos
  have HTS := hid' hts
  clear hts
  unfold ptr
  go_enter Tryz.func56, Tryz.ntmps56
  rw [needF] at HR
  generalize ht1 : ts[PS.at_ s]? = o1 at HR
  rcases o1 with _ | t1
  · exact absurd HR.out.symm hnr
  try dsimp only at HR
  by_cases hl2 : ¬ sg t1 = [100, 101, 102]
  · rw [if_neg hl2] at HR
    go_wp2_with fail
    · refine Calls.mono (need_miss HP.out t1 ht1 [100, 101, 102] hl2) ?_
      rintro e wb hp
      have HF := hid' (FaultP.of_below hp HS.out.below)
      obtain ⟨gb, rfl, _⟩ := hp
      obtain rfl : R.bad false t1.pos = r := HR.out
      go_wp2
      exact ⟨rfl, HF.out⟩
  rw [Decidable.not_not] at hl2
  rw [if_pos hl2] at HR
  go_wp2_with fail
  refine Calls.mono (need_hit HP.out t1 ht1 [100, 101, 102] hl2) ?_
  rintro e w4 ⟨rfl, hp, hst⟩
  have hs := hst.step W.heap.size vl vs
  clear hst
  replace HS := hid' (HS.out.then (Nat.le_refl _) hs)
  replace HP := hid' hp
  clear hp hs
  generalize (PS.mk (PS.at_ s + 1) (PS.nodes s) (PS.deep s)) = s4 at HP HR
  rw [takeKF] at HR
  generalize ht5 : ts[PS.at_ s4]? = o5 at HR
  rcases o5 with _ | t5
  · exact absurd HR.out.symm hnr
  try dsimp only at HR
  by_cases hl6 : ¬ t5.kind = 1
  · rw [if_neg hl6] at HR
    go_wp2_with fail
    · refine Calls.mono (take_miss HP.out t5 ht5 1 hl6) ?_
      rintro e wb hp
      have HF := hid' (FaultP.of_below hp HS.out.below)
      obtain ⟨gb, rfl, _⟩ := hp
      obtain rfl : R.bad false t5.pos = r := HR.out
      go_wp2
      exact ⟨rfl, HF.out⟩
  rw [Decidable.not_not] at hl6
  rw [if_pos hl6] at HR
  go_wp2_with fail
  refine Calls.mono (take_hit HP.out t5 ht5 1 hl6) ?_
  rintro e w8 ⟨rfl, hp, hst⟩
  have hs := hst.step w4.heap.size vl vs
  clear hst
  replace HS := hid' (HS.out.then (Nat.le_refl _) hs)
  replace HP := hid' hp
  clear hp hs
  generalize (PS.mk (PS.at_ s4 + 1) (PS.nodes s4) (PS.deep s4)) = s8 at HP HR
  clear hl6
  have BX := hid' (row_new w8 71 [.int .i64 (t5.kind : Int), .string (txt t5.text), .int .i64 (t5.pos : Int)])
  replace HS := hid' (HS.out.alloc (.cells #[.int .i64 (t5.kind : Int), .string (txt t5.text), .int .i64 (t5.pos : Int)] 71) HLO.out)
  replace HP := hid' (HP.out.alloc (.cells #[.int .i64 (t5.kind : Int), .string (txt t5.text), .int .i64 (t5.pos : Int)] 71))
  rw [needF] at HR
  generalize ht9 : ts[PS.at_ s8]? = o9 at HR
  rcases o9 with _ | t9
  · exact absurd HR.out.symm hnr
  try dsimp only at HR
  by_cases hl10 : ¬ sg t9 = [40]
  · rw [if_neg hl10] at HR
    go_wp2_with fail
    · refine Calls.mono (need_miss HP.out t9 ht9 [40] hl10) ?_
      rintro e wb hp
      have HF := hid' (FaultP.of_below hp HS.out.below)
      obtain ⟨gb, rfl, _⟩ := hp
      obtain rfl : R.bad false t9.pos = r := HR.out
      go_wp2
      exact ⟨rfl, HF.out⟩
  rw [Decidable.not_not] at hl10
  rw [if_pos hl10] at HR
  go_wp2_with fail
  refine Calls.mono (need_hit HP.out t9 ht9 [40] hl10) ?_
  rintro e w12 ⟨rfl, hp, hst⟩
  have hs := hst.step (w8.alloc (.cells #[.int .i64 (t5.kind : Int), .string (txt t5.text), .int .i64 (t5.pos : Int)] 71)).heap.size vl vs
  clear hst
  replace BX := hid' (BX.out.stepR (by decide) (by decide) HP.out hs)
  replace HS := hid' (HS.out.then (Nat.le_refl _) hs)
  replace HP := hid' hp
  clear hp hs
  generalize (PS.mk (PS.at_ s8 + 1) (PS.nodes s8) (PS.deep s8)) = s12 at HP HR
  go_wp2_with fail
  generalize hq13 : runF ts m (.params [] [] false) s12 = r13 at HR
  rcases r13 with _ | ⟨l13, p13⟩ | ⟨z13, y13, c13, s13⟩
  · exact absurd HR.out.symm hnr
  · refine Calls.mono (params_any HTS.out H _ _ _ _ _ HP.out hq13 (by simp)) ?_
    rintro e wb hp
    have HF := hid' (FaultP.of_below hp HS.out.below)
    obtain ⟨gb, rfl, _⟩ := hp
    obtain rfl : R.bad l13 p13 = r := HR.out
    go_wp2
    exact ⟨rfl, HF.out⟩
  refine Calls.mono (params_any HTS.out H _ _ _ _ _ HP.out hq13 (by simp)) ?_
  rintro e w13 ⟨hyl, v13, vl13, vs13, rfl, hp, hs, ho, hv, hf⟩
  obtain ⟨av, cv, rfl, _⟩ := own_form ho
  have HOZ := hid' ho
  have hle := HS.out.below.size
  have HV := hid' (fun k hk => Nat.le_trans hle (hv k hk) : ∀ k, _ → W.heap.size ≤ k)
  have HOFF := hid' hf
  clear ho hv hf hle
  replace BX := hid' (BX.out.stepR (by decide) (by decide) HP.out hs)
  replace HS := hid' (HS.out.then (Nat.le_refl _) hs)
  replace HP := hid' hp
  clear hp hs
  try dsimp only [R.bind] at HR
  clear hq13
  rw [needF] at HR
  generalize ht15 : ts[PS.at_ s13]? = o15 at HR
  rcases o15 with _ | t15
  · exact absurd HR.out.symm hnr
  try dsimp only at HR
  by_cases hl16 : ¬ sg t15 = [41]
  · rw [if_neg hl16] at HR
    go_wp2_with fail
    · refine Calls.mono (need_miss HP.out t15 ht15 [41] hl16) ?_
      rintro e wb hp
      have HF := hid' (FaultP.of_below hp HS.out.below)
      obtain ⟨gb, rfl, _⟩ := hp
      obtain rfl : R.bad false t15.pos = r := HR.out
      go_wp2
      exact ⟨rfl, HF.out⟩
  rw [Decidable.not_not] at hl16
  rw [if_pos hl16] at HR
  go_wp2_with fail
  refine Calls.mono (need_hit HP.out t15 ht15 [41] hl16) ?_
  rintro e w18 ⟨rfl, hp, hst⟩
  have hs := hst.step w13.heap.size vl13 vs13
  clear hst
  replace BX := hid' (BX.out.stepR (by decide) (by decide) HP.out hs)
  have hoz := HOZ.out.step HP.out hs
  replace HOFF := hid' (HOFF.out.step hs (fun k hk => (World.ownsRow.lt HOZ.out k hk).2))
  replace HOZ := hid' hoz
  clear hoz
  replace HS := hid' (HS.out.then (Nat.le_refl _) hs)
  replace HP := hid' hp
  clear hp hs
  generalize (PS.mk (PS.at_ s13 + 1) (PS.nodes s13) (PS.deep s13)) = s18 at HP HR
  go_wp2_with fail
  generalize hq19 : runF ts m (.block ⟨false, true, false⟩) s18 = r19 at HR
  rcases r19 with _ | ⟨l19, p19⟩ | ⟨z19, y19, c19, s19⟩
  · exact absurd HR.out.symm hnr
  · refine Calls.mono ((H m (Nat.le_refl _)).block ⟨false, true, false⟩ _ _ _ _ _ HP.out hq19 (by simp)) ?_
    rintro e wb hp
    have HF := hid' (FaultP.of_below hp HS.out.below)
    obtain ⟨gb, rfl, _⟩ := hp
    obtain rfl : R.bad l19 p19 = r := HR.out
    go_wp2
    exact ⟨rfl, HF.out⟩
  refine Calls.mono ((H m (Nat.le_refl _)).block ⟨false, true, false⟩ _ _ _ _ _ HP.out hq19 (by simp)) ?_
  rintro e w19 ⟨vl19, vs19, rfl, hp, hs⟩
  have hle19 := HS.out.below.size
  replace BX := hid' (BX.out.stepR (by decide) (by decide) HP.out hs)
  have hoz := HOZ.out.step HP.out hs
  replace HOFF := hid' (HOFF.out.step hs (fun k hk => (World.ownsRow.lt HOZ.out k hk).2))
  replace HOZ := hid' hoz
  clear hoz
  replace HS := hid' (HS.out.then (Nat.le_refl _) hs)
  replace HP := hid' hp
  clear hp hs
  dsimp only [R.bind] at HR
  clear hq19
  go_wp2_with (at_builtin; refine num_plain HOZ.out z19 (y13.length + 1) rfl HP.out.lowB (by omega) rfl (.tmp 16) (.tmp 20) (by rfl) (by rfl) (by rfl) ?_; intro g5 cap5 w5 q1 q2 q3 q4 q5; have HQ := hid' (row_push (m := (y13.length + 1)) HP.out HS.out HOZ.out HOFF.out HV.out q2 q3 g5 cap5 q4); have HZ5 := hid' q1; have BX5 := hid' (RowV.far BX.out (q3 _ BX.out.lt (fun e => ne_kind HOZ.out BX.out (by decide) _ e rfl))); have bx1 := BX5.out.cell (j := 1) rfl; have bxl := BX5.out.lt; clear q1 q2 q3 q4 q5)
  have HP9 := hid' HQ.out.1
  have HS9 := hid' HQ.out.2.1
  have HF9 := hid' HQ.out.2.2.1
  have HV9 := hid' HQ.out.2.2.2
  clear HP HS HOZ HOFF HV HQ BX
  have HP := HP9
  have HS := HS9
  have HOZ := HZ5
  have HOFF := HF9
  have HV := HV9
  have BX := BX5
  clear HP9 HS9 HF9 HV9 HZ5 BX5
  rw [addF] at HR
  by_cases hn21 : ¬ ((PS.nodes s19).length < 900000 ∧ (List.length (y13 ++ [z19] : List Int)) < 900000)
  · rw [if_neg hn21] at HR
    exact absurd HR.out.symm hnr
  rw [Decidable.not_not] at hn21
  rw [if_pos hn21] at HR
  clear bx1 bxl
  refine Calls.mono (p_add_any HP.out 45 _ (txt t5.text) (HTS.out _ (List.mem_of_getElem? ht5)) _ (y13 ++ [z19]) HOZ.out HOFF.out hn21.1 hn21.2 (n := W.heap.size) HV.out) ?_
  rintro e w21 ⟨rfl, vl21, vs21, hp, hs⟩
  replace HS := hid' (HS.out.trans hs)
  replace HP := hid' hp
  clear hp hs
  obtain rfl := HR.out
  go_wp2
  go_returns
  exact ⟨_, _, rfl, HP.out, HS.out⟩
end Go.Proofs.YtpjjofdphlgeiaaGreatDoor
