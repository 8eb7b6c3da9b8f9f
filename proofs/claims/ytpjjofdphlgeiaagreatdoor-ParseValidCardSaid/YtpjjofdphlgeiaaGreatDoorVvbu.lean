/- Parts of the proof, together. What tree, Parse and Expr answer. Conditions: at most 65536 bytes; the words and the errors of api lie in their variables. -/
import Derived.Test.YtpjjofdphlgeiaaGreatDoorVvbs
import Derived.Test.YtpjjofdphlgeiaaGreatDoorVvao
import Derived.Test.YtpjjofdphlgeiaaGreatDoorVvbt
import Derived.Test.YtpjjofdphlgeiaaGreatDoorVvak
namespace Go.Proofs.YtpjjofdphlgeiaaGreatDoor
open Go.RowKit
open Lx Ax Px

/-- What is answered. -/
def TreeP (A : Nat → Addr) (W : World) (pr : PR) (e : Ending) (w' : World) : Prop := Below W.heap.size W w' ∧ match pr with
  | .lex pos => ∃ g, e = .returned (.tuple #[.slice none 0 0, .iface 67 (.pointer (some ⟨g, 0, none⟩))]) ∧ W.heap.size ≤ g ∧ w'.heap[g]? = some (.cells #[.int .i64 (pos : Int), E A 0] 84 (0, 0))
  | .bad lim pos => ∃ g, e = .returned (.tuple #[.slice none 0 0, .iface 67 (.pointer (some ⟨g, 0, none⟩))]) ∧ W.heap.size ≤ g ∧ w'.heap[g]? = some (.cells #[.int .i64 pos, E A (if lim then 7 else 1)] 84 (0, 0))
  | .ok l => ∃ B vl vs, e = .returned (.tuple #[vl, .nilIface]) ∧ W.heap.size ≤ B ∧ Tr w' B vl l vs
theorem neq_at (a : Addr) (w : World) : (binOp .neq 25 (.iface 67 (.pointer (some a))) .nilIface).run Tryz.prog w = .ok (.bool true) w := by kernel_rfl
theorem neq_none (w : World) : (binOp .neq 25 .nilIface .nilIface).run Tryz.prog w = .ok (.bool false) w := by kernel_rfl
/-- The two variables of the results, at a later moment. -/
theorem tree_vars {W w2 : World} (b : Below ((W.alloc (.cells #[.slice none 0 0] 23)).alloc (.cells #[.nilIface] 25)).heap.size ((W.alloc (.cells #[.slice none 0 0] 23)).alloc (.cells #[.nilIface] 25)) w2) :
    RowV w2 W.heap.size 23 [.slice none 0 0] ∧ RowV w2 (W.heap.size + 1) 25 [.nilIface] ∧ Below W.heap.size W w2 := by
  have h1 := row_new W 23 [.slice none 0 0]
  have h2 := row_new (W.alloc (.cells #[.slice none 0 0] 23)) 25 [.nilIface]
  have hsz : (W.alloc (.cells #[.slice none 0 0] 23)).heap.size = W.heap.size + 1 := by simp
  have h1' := row_alloc h1 (.cells #[.nilIface] 25)
  refine ⟨h1'.far (b.block _ h1'.lt), ?_, (((Below.refl W.heap.size W).alloc (Nat.le_refl _) _).alloc (by simp) _).trans (b.mono (by simp; omega))⟩
  have h3 := RowV.far h2 (b.block _ (by rw [hsz]; simp))
  rwa [hsz] at h3
theorem tree_results (x y : Value) (X : World) (b : Nat) (tmps : Array Value) (h4 : tmps.getD 4 undef = .pointer (some ⟨b, 0, none⟩)) (h5 : tmps.getD 5 undef = .pointer (some ⟨b + 1, 0, none⟩)) (c4 : X.cell? ⟨b, 0, none⟩ = some x) (c5 : X.cell? ⟨b + 1, 0, none⟩ = some y) :
    (results Tryz.f18 tmps).run Tryz.prog X = .ok (.tuple #[x, y]) X := by
  have h4' : tmps[4]?.getD undef = .pointer (some ⟨b, 0, none⟩) := by simpa using h4
  have h5' : tmps[5]?.getD undef = .pointer (some ⟨b + 1, 0, none⟩) := by simpa using h5
  simp [results, Tryz.results18, go_sem, h4', h5', c4, c5]
set_option maxRecDepth 10000 in
set_option maxHeartbeats 3200000 in
theorem tree_any (A : Nat → Addr) (fw : FuncId) (q : Q) (hcw : ∀ args w, (callFunc fw args).run Tryz.prog w = .ok (.enter fw args) w) (hw : ∀ (B pb : Nat) (ts : List Tok) (tv : Value), (∀ t ∈ ts, (txt t.text).size ≤ 1000000) → ∀ n, DoesN A B pb ts tv fw #[ptr pb] q n)
    (T : ByteArray) (hT : T.size ≤ 65536) (W : World) (hV : Vars A W) (hE : EV A W.heap.size W) (n : Nat) (pr : PR) (hpr : Px.treeF n q T.data.toList = some pr) :
    Calls Tryz.prog 18 #[.string T, .func (.func fw) #[] #[]] W (TreeP A W pr) := by
  have hmf : ∀ (fn : Fn) (first cap : Array Value) (w : World), (Instr.makeFunc fn first cap).run Tryz.prog w = .ok (.func fn first cap) w := fun _ _ _ _ => rfl
  have hn1 := neq_at
  have hn2 := neq_none
  have HSC := hid' (scan_any A T hT _ (hV.below ((Below.refl W.heap.size W).alloc (Nat.le_refl _) (.cells #[.slice none 0 0] 23))|>.below ((Below.refl _ _).alloc (Nat.le_refl _) (.cells #[.nilIface] 25))))
  have HW := hid' hw
  have HE := hid' hE
  have HPR := hid' hpr
  clear hw hE hpr hV
  unfold Px.treeF at HPR
  generalize scanF T.data.toList = RS at HPR HSC
  go_enter_defers Tryz.func18, Tryz.ntmps18
  go_wp2_with fail
  refine Calls.mono HSC.out ?_
  rintro e w2 hp
  cases RS with
  | bad pos =>
    obtain ⟨b2, v, rfl, gb, rfl, hgb, hrow⟩ := hp
    obtain ⟨RN, RE, b3⟩ := tree_vars b2
    have n0 := RN.cell (j := 0) rfl
    have e0 := RE.cell (j := 0) rfl
    have nf := RN.open_ 0
    have ef := RE.open_ 0
    have HRN := hid' RN
    have HRE := hid' RE
    have HB3 := hid' b3
    have hnl := RN.lt
    have hel := RE.lt
    have HRO := hid' hrow
    have HGB := hid' hgb
    clear b2 b3 RN RE hrow hgb
    go_wp2
    go_region
    all_goals (
      go_wp2
      have hne : ¬ W.heap.size = W.heap.size + 1 := by omega
      have hne' : ¬ W.heap.size + 1 = W.heap.size := by omega
      have hg2 : W.heap.size + 2 ≤ gb := by have := HGB.out; simp at this; omega
      have hRN := RowV.far (W' := (((w2.setCell ⟨W.heap.size + 1, 0, none⟩ (.iface 67 (.pointer (some ⟨gb, 0, none⟩)))).setCell ⟨W.heap.size, 0, none⟩ (.slice none 0 0)).setCell ⟨W.heap.size + 1, 0, none⟩ (.iface 67 (.pointer (some ⟨gb, 0, none⟩)))).drew) (row_past ((row_past HRN.out ⟨W.heap.size + 1, 0, none⟩ (.iface 67 (.pointer (some ⟨gb, 0, none⟩))) hne).set 0 (.slice none 0 0)) ⟨W.heap.size + 1, 0, none⟩ (.iface 67 (.pointer (some ⟨gb, 0, none⟩))) hne) rfl
      have hRE := RowV.far (W' := (((w2.setCell ⟨W.heap.size + 1, 0, none⟩ (.iface 67 (.pointer (some ⟨gb, 0, none⟩)))).setCell ⟨W.heap.size, 0, none⟩ (.slice none 0 0)).setCell ⟨W.heap.size + 1, 0, none⟩ (.iface 67 (.pointer (some ⟨gb, 0, none⟩)))).drew) ((row_past (HRE.out.set 0 (.iface 67 (.pointer (some ⟨gb, 0, none⟩)))) ⟨W.heap.size, 0, none⟩ (.slice none 0 0) hne').set 0 (.iface 67 (.pointer (some ⟨gb, 0, none⟩)))) rfl
      have hb3 := HB3.out
      have hB : Below W.heap.size W (((w2.setCell ⟨W.heap.size + 1, 0, none⟩ (.iface 67 (.pointer (some ⟨gb, 0, none⟩)))).setCell ⟨W.heap.size, 0, none⟩ (.slice none 0 0)).setCell ⟨W.heap.size + 1, 0, none⟩ (.iface 67 (.pointer (some ⟨gb, 0, none⟩)))).drew := Below.drew (((hb3.setCell (by simp) _).setCell (by simp) _).setCell (by simp) _)
      obtain rfl : PR.lex pos = pr := Option.some.inj HPR.out
      refine ⟨_, tree_results _ _ _ W.heap.size _ rfl rfl (hRN.cell (j := 0) rfl) (hRE.cell (j := 0) rfl), hB, gb, rfl, by omega, ?_⟩
      exact (heap_setCell_other _ _ gb _ (by simp only; omega)).trans ((heap_setCell_other _ _ gb _ (by simp only; omega)).trans ((heap_setCell_other _ _ gb _ (by simp only; omega)).trans HRO.out)))
  | ok ts =>
    obtain ⟨b2, ao, cap, rfl, hts⟩ := hp
    obtain ⟨RN, RE, b3⟩ := tree_vars b2
    by_cases hsm : (ts.length ≤ 100000 && ts.all (fun t => decide (t.text.length ≤ 100000))) = true
    case neg =>
      try dsimp only at HPR
      rw [if_neg hsm] at HPR
      cases HPR.out
    try dsimp only at HPR
    rw [if_pos hsm] at HPR
    rw [Bool.and_eq_true] at hsm
    have hl1 : ts.length ≤ 100000 := by simpa using hsm.1
    have hl2 : ∀ t ∈ ts, (txt t.text).size ≤ 1000000 := by
      intro t ht
      have h1 := List.all_eq_true.1 hsm.2 t ht
      have h2 : t.text.length ≤ 100000 := by simpa using h1
      have h3 : (txt t.text).size = t.text.length := by rw [← data_txt t.text]; rfl
      omega
    have n0 := RN.cell (j := 0) rfl
    have e0 := RE.cell (j := 0) rfl
    have nf := RN.open_ 0
    have ef := RE.open_ 0
    have hnl := RN.lt
    have hel := RE.lt
    have hne : ¬ W.heap.size = W.heap.size + 1 := by omega
    have hne' : ¬ W.heap.size + 1 = W.heap.size := by omega
    -- the world in which the parser is laid
    have hb4 : Below W.heap.size W (w2.setCell ⟨W.heap.size + 1, 0, none⟩ .nilIface) := b3.setCell (by simp) _
    have hRN4 := row_past RN ⟨W.heap.size + 1, 0, none⟩ .nilIface hne
    have hRE4 := RE.set 0 .nilIface
    have hsz4 : (w2.setCell ⟨W.heap.size + 1, 0, none⟩ .nilIface).heap.size = w2.heap.size := by simp
    have hTk : TkAt w2.heap.size ((w2.setCell ⟨W.heap.size + 1, 0, none⟩ .nilIface).alloc (.cells #[.slice ao ts.length cap, .int .i64 0, .slice none 0 0, .int .i64 0] 69)) (.slice ao ts.length cap) ts := by
      refine ⟨ao, cap, rfl, hts.imp id fun ⟨g, h1, h2, h3⟩ => ⟨g, h1, h2, fun j t ht => ?_⟩⟩
      have hgn : ¬ g = W.heap.size + 1 := by
        rintro rfl
        have h0 := (h3 j t ht).1
        rw [cell_of_row _ _ _ _ _ _ RE] at h0
        rcases j with _ | j
        · simp at h0
        · rw [Nat.succ_mul] at h0
          simp at h0
      have hc : ∀ o, ((w2.setCell ⟨W.heap.size + 1, 0, none⟩ .nilIface).alloc (.cells #[.slice ao ts.length cap, .int .i64 0, .slice none 0 0, .int .i64 0] 69)).cell? ⟨g, o, none⟩ = w2.cell? ⟨g, o, none⟩ := fun o => by
        refine World.cell?_of_block (w := w2) ?_
        exact (Below.heap_alloc _ _ _ (by rw [hsz4]; exact h2)).trans (heap_setCell_other _ _ g _ (by simp only; omega))
      rw [hc, hc, hc]
      exact h3 j t ht
    have hE4 : EV A w2.heap.size ((w2.setCell ⟨W.heap.size + 1, 0, none⟩ .nilIface).alloc (.cells #[.slice ao ts.length cap, .int .i64 0, .slice none 0 0, .int .i64 0] 69)) := by
      have h1 := HE.out.below (hb4.alloc (by rw [hsz4]; exact b3.size) (.cells #[.slice ao ts.length cap, .int .i64 0, .slice none 0 0, .int .i64 0] 69))
      exact ⟨h1.parse, h1.limit, ⟨Nat.lt_of_lt_of_le h1.low.1 b3.size, Nat.lt_of_lt_of_le h1.low.2 b3.size⟩, h1.words.1, Nat.lt_of_lt_of_le h1.words.2 b3.size⟩
    have hrow : RowV ((w2.setCell ⟨W.heap.size + 1, 0, none⟩ .nilIface).alloc (.cells #[.slice ao ts.length cap, .int .i64 0, .slice none 0 0, .int .i64 0] 69)) w2.heap.size 69 (pC (.slice ao ts.length cap) ⟨0, [], 0⟩ (.slice none 0 0)) := by
      have h1 := row_new (w2.setCell ⟨W.heap.size + 1, 0, none⟩ .nilIface) 69 [.slice ao ts.length cap, .int .i64 0, .slice none 0 0, .int .i64 0]
      rwa [hsz4] at h1
    have hPV : PV A w2.heap.size w2.heap.size ts (.slice ao ts.length cap) ((w2.setCell ⟨W.heap.size + 1, 0, none⟩ .nilIface).alloc (.cells #[.slice ao ts.length cap, .int .i64 0, .slice none 0 0, .int .i64 0] 69)) ⟨0, [], 0⟩ (.slice none 0 0) [] :=
      ⟨hrow, Tr.nil _ _, Nat.le_refl _, hTk, ⟨by omega, Nat.zero_le _, Nat.zero_le _⟩, hE4⟩
    obtain ⟨rr, hrr⟩ : ∃ rr, runF ts n q ⟨0, [], 0⟩ = rr := ⟨_, rfl⟩
    rw [hrr] at HPR
    have hrs : rr ≠ .stuck := by
      rintro rfl
      cases HPR.out
    have HC := hid' (HW.out w2.heap.size w2.heap.size ts (.slice ao ts.length cap) hl2 n _ _ _ _ rr hPV hrr hrs)
    have HRN := hid' hRN4
    have HRE := hid' hRE4
    have HB4 := hid' hb4
    have HB3 := hid' b3
    have HPV := hid' hPV
    have HS4 := hid' hsz4
    clear hPV hrow hE4 hTk hRN4 hRE4 hb4 hsm hl2 hrr hts b2 RN RE b3
    unfold ptr at HC
    go_wp2_with fail
    refine Calls.mono HC.out ?_
    rintro e w5 hp
    cases rr with
    | stuck => exact absurd rfl hrs
    | bad lim pos =>
      obtain ⟨g, rfl, hg, hrow, hb5⟩ := hp
      have hRN5 := (row_alloc HRN.out (.cells #[.slice ao ts.length cap, .int .i64 0, .slice none 0 0, .int .i64 0] 69)).far (hb5.block _ hnl)
      have hRE5 := (row_alloc HRE.out (.cells #[.slice ao ts.length cap, .int .i64 0, .slice none 0 0, .int .i64 0] 69)).far (hb5.block _ hel)
      go_wp2
      refine leaves_cons (f := 32) (args := #[.pointer (some ⟨W.heap.size, 0, none⟩), .pointer (some ⟨W.heap.size + 1, 0, none⟩)]) (by simp) (by simp [go_sem]) ?_
      refine (catch_fault W.heap.size (W.heap.size + 1) ⟨g, 0, none⟩ .nilIface (.slice none 0 0) _ (hRN5.cell (j := 0) rfl) (hRE5.cell (j := 0) rfl) (hRN5.open_ 0) (hRE5.open_ 0) hne').mono ?_
      rintro e u' w'' ⟨rfl, rfl, rfl⟩
      have hRN := row_past (hRN5.set 0 (.slice none 0 0)) ⟨W.heap.size + 1, 0, none⟩ (.iface 67 (.pointer (some ⟨g, 0, none⟩))) hne
      have hRE := (row_past hRE5 ⟨W.heap.size, 0, none⟩ (.slice none 0 0) hne').set 0 (.iface 67 (.pointer (some ⟨g, 0, none⟩)))
      have hw2 := HB3.out.size
      have hB5 : Below W.heap.size W w5 := (HB4.out.alloc (by rw [HS4.out]; exact hw2) (.cells #[.slice ao ts.length cap, .int .i64 0, .slice none 0 0, .int .i64 0] 69)).trans (hb5.mono hw2)
      obtain rfl : PR.bad lim pos = pr := Option.some.inj HPR.out
      refine ⟨_, tree_results _ _ _ W.heap.size _ rfl rfl (hRN.cell (j := 0) rfl) (hRE.cell (j := 0) rfl), (hB5.setCell (by simp) _).setCell (by simp) _, g, rfl, Nat.le_trans hw2 hg, ?_⟩
      exact (heap_setCell_other _ _ g _ (by simp only; omega)).trans ((heap_setCell_other _ _ g _ (by simp only; omega)).trans hrow)
    | ok z zs c s5 =>
      obtain ⟨vl, vs, rfl, hp, hs⟩ := hp
      obtain ⟨al, cl, rfl, _⟩ := own_form hp.tr.own
      have hRN5 := (row_alloc HRN.out (.cells #[.slice ao ts.length cap, .int .i64 0, .slice none 0 0, .int .i64 0] 69)).stepR (by decide) (by decide) HPV.out hs
      have hRE5 := (row_alloc HRE.out (.cells #[.slice ao ts.length cap, .int .i64 0, .slice none 0 0, .int .i64 0] 69)).stepR (by decide) (by decide) HPV.out hs
      have n5 := hRN5.cell (j := 0) rfl
      have e5 := hRE5.cell (j := 0) rfl
      have nf5 := hRN5.open_ 0
      have ef5 := hRE5.open_ 0
      have hnl5 := hRN5.lt
      have hel5 := hRE5.lt
      obtain ⟨_, _, c2, _⟩ := hp.cells
      have hpl := hp.lt
      have HRN5 := hid' hRN5
      have HRE5 := hid' hRE5
      have HP5 := hid' hp
      have HS5 := hid' hs
      clear hRN5 hRE5 hp hs
      go_wp2
      refine leaves_cons (f := 32) (args := #[.pointer (some ⟨W.heap.size, 0, none⟩), .pointer (some ⟨W.heap.size + 1, 0, none⟩)]) (by simp) (by simp [go_sem]) ?_
      refine (catch_idle ⟨W.heap.size, 0, none⟩ ⟨W.heap.size + 1, 0, none⟩ _).mono ?_
      rintro e u' w'' ⟨rfl, rfl, rfl⟩
      have hRN := row_past (HRN5.out.set 0 (.slice al s5.nodes.length cl)) ⟨W.heap.size + 1, 0, none⟩ .nilIface hne
      have hRE := (row_past HRE5.out ⟨W.heap.size, 0, none⟩ (.slice al s5.nodes.length cl) hne').set 0 .nilIface
      have hw2 := HB3.out.size
      have hB5 : Below W.heap.size W w5 := (HB4.out.alloc (by rw [HS4.out]; exact hw2) (.cells #[.slice ao ts.length cap, .int .i64 0, .slice none 0 0, .int .i64 0] 69)).trans (HS5.out.below.mono hw2)
      obtain rfl : PR.ok s5.nodes = pr := Option.some.inj HPR.out
      refine ⟨_, tree_results _ _ _ W.heap.size _ rfl rfl (hRN.cell (j := 0) rfl) (hRE.cell (j := 0) rfl), (hB5.setCell (by simp) _).setCell (by simp) _, w2.heap.size, _, vs, rfl, hw2, ?_⟩
      exact HP5.out.tr.keep fun k hk _ => (heap_setCell_other _ _ k _ (by simp only; omega)).trans (heap_setCell_other _ _ k _ (by simp only; omega))

set_option maxRecDepth 20000 in
theorem parse_any (A : Nat → Addr) (T : ByteArray) (hT : T.size ≤ 65536) (W : World) (hV : Vars A W) (hE : EV A W.heap.size W) (n : Nat) (pr : PR) (hpr : Px.treeF n .file T.data.toList = some pr) :
    Calls Tryz.prog 9 #[.string T] W (TreeP A W pr) := by
  have HT := hid' (tree_any A 19 .file (fun _ _ => rfl) (fun _ _ _ _ h n => file_any h n) T hT W hV hE n pr hpr)
  clear hV hE hpr
  go_enter Tryz.func9, Tryz.ntmps9
  go_wp2_with fail
  refine Calls.mono HT.out ?_
  rintro e w2 ⟨b2, hp⟩
  have HP := hid' hp
  have HB := hid' b2
  cases pr with
  | lex pos =>
    obtain ⟨g, rfl, _⟩ := hp
    go_wp2
    go_returns
    exact ⟨HB.out, HP.out⟩
  | bad lim pos =>
    obtain ⟨g, rfl, _⟩ := hp
    go_wp2
    go_returns
    exact ⟨HB.out, HP.out⟩
  | ok l =>
    obtain ⟨B, vl, vs, rfl, _⟩ := hp
    go_wp2
    go_returns
    exact ⟨HB.out, HP.out⟩

set_option maxRecDepth 20000 in
theorem expr_any (A : Nat → Addr) (T : ByteArray) (hT : T.size ≤ 65536) (W : World) (hV : Vars A W) (hE : EV A W.heap.size W) (n : Nat) (pr : PR) (hpr : Px.treeF n .alone T.data.toList = some pr) :
    Calls Tryz.prog 14 #[.string T] W (TreeP A W pr) := by
  have HT := hid' (tree_any A 26 .alone (fun _ _ => rfl) (fun _ _ _ _ h n => alone_any h n) T hT W hV hE n pr hpr)
  clear hV hE hpr
  go_enter Tryz.func14, Tryz.ntmps14
  go_wp2_with fail
  refine Calls.mono HT.out ?_
  rintro e w2 ⟨b2, hp⟩
  have HP := hid' hp
  have HB := hid' b2
  cases pr with
  | lex pos =>
    obtain ⟨g, rfl, _⟩ := hp
    go_wp2
    go_returns
    exact ⟨HB.out, HP.out⟩
  | bad lim pos =>
    obtain ⟨g, rfl, _⟩ := hp
    go_wp2
    go_returns
    exact ⟨HB.out, HP.out⟩
  | ok l =>
    obtain ⟨B, vl, vs, rfl, _⟩ := hp
    go_wp2
    go_returns
    exact ⟨HB.out, HP.out⟩
end Go.Proofs.YtpjjofdphlgeiaaGreatDoor
