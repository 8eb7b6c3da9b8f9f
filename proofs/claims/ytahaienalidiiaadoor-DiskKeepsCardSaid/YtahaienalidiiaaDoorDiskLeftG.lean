/- What left leaves of any history. Conditions: short texts. -/
import Derived.Test.YtahaienalidiiaaDoorDiskPart
import Derived.Laws.ResultCell
namespace Go.Proofs.YtahaienalidiiaaDoor
open Go.RowKit Go.Maps

def hRow (x : Cnt) (k0 : Int) (t0 : ByteArray) (k1 : Int) (t1 : ByteArray) (k2 : Int) (t2 : ByteArray) (k3 : Int) (t3 : ByteArray) (n : Nat) : Array Value :=
  #[.string x.1, .bool x.2, .int .i64 k0, .string t0, .int .i64 k1, .string t1, .int .i64 k2, .string t2, .int .i64 k3, .string t3, .int .i64 (n : Int)]
/-- The walk's state: the history, what is to be told, what the file is so far. -/
structure LSt (w wr : World) (row : Array Value) (s : ByteArray) (b : Bool) : Prop where
  below : Below w.heap.size w wr
  hist : wr.heap[w.heap.size]? = some (.cells row 71 (0, 0))
  res : wr.heap[w.heap.size + 1]? = some (.cells #[.string ⟨#[]⟩, .bool false] 60 (0, 0))
  now : wr.heap[w.heap.size + 1 + 1]? = some (.cells #[.string s, .bool b] 60 (0, 0))
theorem LSt.grow {w wr wr' : World} {row : Array Value} {s : ByteArray} {b : Bool} (h : LSt w wr row s b) (hb : Below wr.heap.size wr wr') : LSt w wr' row s b :=
  ⟨h.below.trans (hb.mono h.below.size), (hb.block _ (Array.getElem?_eq_some_iff.1 h.hist).1).trans h.hist, (hb.block _ (Array.getElem?_eq_some_iff.1 h.res).1).trans h.res, (hb.block _ (Array.getElem?_eq_some_iff.1 h.now).1).trans h.now⟩
theorem LSt.turn {w wr : World} {row : Array Value} {s s' : ByteArray} {b b' : Bool} (h : LSt w wr row s b) : LSt w ((wr.setCell ⟨w.heap.size + 1 + 1, 0, none⟩ (.string s')).setCell ⟨w.heap.size + 1 + 1, 1, none⟩ (.bool b')) row s' b' :=
  ⟨(h.below.setCell (p := ⟨w.heap.size + 1 + 1, 0, none⟩) (by simp only; omega) _).setCell (p := ⟨w.heap.size + 1 + 1, 1, none⟩) (by simp only; omega) _,
   (heap_setCell_other _ _ _ _ (by simp only; omega)).trans ((heap_setCell_other _ _ _ _ (by simp only; omega)).trans h.hist),
   (heap_setCell_other _ _ _ _ (by simp only; omega)).trans ((heap_setCell_other _ _ _ _ (by simp only; omega)).trans h.res),
   heap_setCell_same _ (w.heap.size + 1 + 1) 1 #[.string s', .bool b] _ _ (heap_setCell_same _ (w.heap.size + 1 + 1) 0 #[.string s, .bool b] _ _ h.now)⟩
theorem LSt.tell {w wr : World} {row : Array Value} {s : ByteArray} {b : Bool} (h : LSt w wr row s b) : Below w.heap.size w ((wr.setCell ⟨w.heap.size + 1, 0, none⟩ (.string s)).setCell ⟨w.heap.size + 1, 1, none⟩ (.bool b)) ∧
    ((wr.setCell ⟨w.heap.size + 1, 0, none⟩ (.string s)).setCell ⟨w.heap.size + 1, 1, none⟩ (.bool b)).heap[w.heap.size + 1]? = some (.cells #[.string s, .bool b] 60 (0, 0)) :=
  ⟨(h.below.setCell (p := ⟨w.heap.size + 1, 0, none⟩) (by simp only; omega) _).setCell (p := ⟨w.heap.size + 1, 1, none⟩) (by simp only; omega) _,
   heap_setCell_same _ (w.heap.size + 1) 1 #[.string s, .bool false] _ _ (heap_setCell_same _ (w.heap.size + 1) 0 #[.string ⟨#[]⟩, .bool false] _ _ h.res)⟩
theorem LSt.begin_ (w : World) (row : Array Value) (s : ByteArray) (b : Bool) : LSt w (((w.alloc (.cells row 71)).alloc (.cells #[.string ⟨#[]⟩, .bool false] 60)).alloc (.cells #[.string s, .bool b] 60)) row s b := by
  refine ⟨(((Below.refl _ _).alloc (Nat.le_refl _) _).alloc (by simp) _).alloc (by simp; omega) _, ?_, ?_, ?_⟩
  · rw [Below.heap_alloc _ _ _ (by simp; omega), Below.heap_alloc _ _ _ (by simp)]
    exact heap_alloc_new w _
  · rw [Below.heap_alloc _ _ _ (by simp), show w.heap.size + 1 = (w.alloc (.cells row 71)).heap.size by simp]
    exact heap_alloc_new _ _
  · rw [show w.heap.size + 1 + 1 = ((w.alloc (.cells row 71)).alloc (.cells #[.string ⟨#[]⟩, .bool false] 60)).heap.size by simp]
    exact heap_alloc_new _ _
theorem slice_hist (g m : Nat) (hm : m ≤ 4) (W : World) : (Instr.sliceAt 69 (.pointer (some ⟨g, 2, none⟩)) none (some (.int .i64 (m : Int))) none).run Tryd.prog W = .ok (.slice (some ⟨g, 2, none⟩) m 4) W := by
  match m, hm with
  | 0, _ => go_simp
  | 1, _ => go_simp
  | 2, _ => go_simp
  | 3, _ => go_simp
  | 4, _ => go_simp
/-- The changes' cells. -/
theorem hRow_at (x : Cnt) (k0 : Int) (t0 : ByteArray) (k1 : Int) (t1 : ByteArray) (k2 : Int) (t2 : ByteArray) (k3 : Int) (t3 : ByteArray) (n : Nat) (cs : List Chg) (hc : cs = [(k0, t0), (k1, t1), (k2, t2), (k3, t3)].take n) (i : Nat) (c : Chg) (hi : cs[i]? = some c) :
    (hRow x k0 t0 k1 t1 k2 t2 k3 t3 n)[2 + i * 2]? = some (.int .i64 c.1) ∧ (hRow x k0 t0 k1 t1 k2 t2 k3 t3 n)[2 + i * 2 + 1]? = some (.string c.2) := by
  subst hc
  rw [List.getElem?_take] at hi
  split at hi
  · match i, hi with
    | 0, hi => obtain rfl : (k0, t0) = c := by simpa using hi
               exact ⟨rfl, rfl⟩
    | 1, hi => obtain rfl : (k1, t1) = c := by simpa using hi
               exact ⟨rfl, rfl⟩
    | 2, hi => obtain rfl : (k2, t2) = c := by simpa using hi
               exact ⟨rfl, rfl⟩
    | 3, hi => obtain rfl : (k3, t3) = c := by simpa using hi
               exact ⟨rfl, rfl⟩
    | i + 4, hi => simp at hi
  · cases hi
set_option maxRecDepth 100000 in
set_option maxHeartbeats 3200000 in
theorem left_any (x : Cnt) (cs : List Chg) (M : Nat) (v : Value) (hv : IsH v x cs) (hs : ShortH M x cs) (hM : M ≤ 10000) (stand : Nat) (hst : stand ≤ 1000) (cut : Int) (hc1 : -9223372036854775808 ≤ cut) (hc2 : cut < 9223372036854775808) (w : World) :
    Calls Tryd.prog 29 #[v, .int .i64 (stand : Int), .int .i64 cut] w fun e w' => e = .returned (cont (leftP x cs stand cut).1 (leftP x cs stand cut).2) ∧ Below w.heap.size w w' := by
  obtain ⟨k0, t0, k1, t1, k2, t2, k3, t3, rfl, hl, hcs⟩ := hv
  have hAt := hRow_at x k0 t0 k1 t1 k2 t2 k3 t3 cs.length cs hcs
  have hsz := fun i hi => stAt_size hs i hi
  have hcz := hs.2
  obtain ⟨n, hn⟩ : ∃ n, cs.length = n := ⟨_, rfl⟩
  rw [hn] at hAt hl
  have HAT := hid' hAt
  have HSZ := hid' hsz
  have HCZ := hid' hcz
  have HN := hid' hn
  clear hcs hs hAt hsz hcz hn
  rw [HN.out]
  obtain ⟨m, hmin, hm4, h3⟩ : ∃ m, min stand n = m ∧ m ≤ 4 ∧ ((stand < n ∧ m = stand) ∨ (stand = n ∧ m = stand) ∨ (n < stand ∧ m = n)) := ⟨min stand n, rfl, by omega, by omega⟩
  have HSL := hid' (fun m (hm : m ≤ 4) W => slice_hist w.heap.size m hm W)
  have HB := hid' (LSt.begin_ w (hRow x k0 t0 k1 t1 k2 t2 k3 t3 n) x.1 x.2)
  have HLP : Hid ((cs[m]? = none → leftP x cs stand cut = stAt x cs m) ∧ (∀ c, cs[m]? = some c → leftP x cs stand cut = if partN c cut = 0 then stAt x cs m else ((stAt x cs m).1 ++ c.2.extract 0 (partN c cut), true))) := hid' (by
    subst hmin
    unfold leftP
    rw [HN.out]
    exact ⟨fun h => by rw [h], fun c h => by rw [h]⟩)
  generalize leftP x cs stand cut = lp at HLP ⊢
  obtain ⟨row, hrow⟩ : ∃ row, hRow x k0 t0 k1 t1 k2 t2 k3 t3 n = row := ⟨_, rfl⟩
  have hr10 : row[10]? = some (.int .i64 (n : Int)) := by rw [← hrow]; rfl
  have HROW := hid' hrow
  rw [hrow] at HAT
  clear hrow hmin
  have hsl := HSL.out m hm4
  have HCUT := hid' (And.intro hc1 hc2)
  clear hc1 hc2
  rcases h3 with ⟨h3, rfl⟩ | ⟨rfl, rfl⟩ | ⟨h3, rfl⟩
  · have h3' : (m : Int) < (n : Int) := by omega
    have hne : ((m : Int) == (n : Int)) = false := by rw [beq_eq_false_iff_ne]; omega
    have hmn : m ≠ n := by omega
    have H3 := hid' h3
    clear h3
    unfold hV cont
    go_enter Tryd.func29, Tryd.ntmps29
    go_wp2
    generalize hg : (((w.alloc (Obj.cells #[Value.string x.1, Value.bool x.2, Value.int IntKind.i64 k0, Value.string t0, Value.int IntKind.i64 k1, Value.string t1, Value.int IntKind.i64 k2, Value.string t2, Value.int IntKind.i64 k3, Value.string t3, Value.int IntKind.i64 (n : Int)] 71)).alloc (Obj.cells #[Value.string { data := #[] }, Value.bool false] 60)).alloc (Obj.cells #[Value.string x.1, Value.bool x.2] 60)) = w3
    have HB3 : Hid (LSt w w3 row x.1 x.2) := hid' (by rw [← hg, ← HROW.out]; exact LSt.begin_ w _ x.1 x.2)
    clear hg HB
    go_loopw [22] (fun i wr => ∃ k : Nat, k ≤ m ∧ i = .int .i64 k ∧ Hid (LSt w wr row (stAt x cs k).1 (stAt x cs k).2)) (fun i _ => m - (intOf i).toNat)
    case atStart => exact ⟨0, Nat.zero_le _, rfl, HB3⟩
    case round =>
      clear HB3
      obtain ⟨k, hk, rfl, hL⟩ := hrel
      by_cases hkm : k < m
      · obtain ⟨c, hc⟩ : ∃ c, cs[k]? = some c := ⟨cs[k]'(by rw [HN.out]; omega), List.getElem?_eq_getElem _⟩
        obtain ⟨r0, r1⟩ := HAT.out k c hc
        have q0 := (cell_of_row wr w.heap.size (2 + k * 2) _ _ _ hL.out.hist).trans r0
        have q1 := (cell_of_row wr w.heap.size (2 + k * 2 + 1) _ _ _ hL.out.hist).trans r1
        have hS := HSZ.out k (by omega)
        have hcs := HCZ.out c (List.mem_of_getElem? hc)
        have HST := hid' (stAt_succ x cs k c hc)
        obtain ⟨⟨s, b⟩, hsb⟩ : ∃ p, stAt x cs k = p := ⟨_, rfl⟩
        rw [hsb] at hL hS HST
        have HO := hid' (on_any c.1 c.2 s b (by have h1 : s.size ≤ 5 * M := hS; omega))
        rw [onF_onP] at HO
        obtain ⟨⟨s', b'⟩, hsb'⟩ : ∃ p, onP (s, b) c = p := ⟨_, rfl⟩
        rw [show ((c.1, c.2) : Chg) = c from rfl, hsb'] at HO
        rw [hsb'] at HST
        unfold chg cont at HO
        have hkm' : (k : Int) < (m : Int) := by omega
        have p0 := fun o => cell_of_row (wr.alloc o) (w.heap.size + 1 + 1) 0 _ _ _ (hL.out.grow ((Below.refl wr.heap.size wr).alloc (Nat.le_refl _) o)).now
        have p1 := fun o => cell_of_row (wr.alloc o) (w.heap.size + 1 + 1) 1 _ _ _ (hL.out.grow ((Below.refl wr.heap.size wr).alloc (Nat.le_refl _) o)).now
        have HL1 := hid' (fun o => hL.out.grow ((Below.refl wr.heap.size wr).alloc (Nat.le_refl _) o))
        clear hsb hsb' r0 r1 hc
        go_wp2_with fail
        refine (HO.out _).mono ?_
        rintro e w4 ⟨rfl, hb4⟩
        have L4 := (HL1.out _).grow hb4
        have L5 := L4.turn (s' := s') (b' := b')
        have g0 := frozen_of_row w4 (w.heap.size + 1 + 1) 0 _ _ L4.now
        have g1 := frozen_of_row w4 (w.heap.size + 1 + 1) 1 _ _ L4.now
        have u0 := cell_of_row w4 (w.heap.size + 1 + 1) 0 _ _ _ L4.now
        have u1 := cell_of_row w4 (w.heap.size + 1 + 1) 1 _ _ _ L4.now
        have HL5 := hid' L5
        clear L4 L5 hb4 HO p0 p1 q0 q1 HL1
        go_wp2
        go_roundw
        case rel => exact ⟨k + 1, by omega, by go_num, by rw [HST.out]; exact HL5⟩
        case measure => simp [intOf]; omega
      · obtain rfl : k = m := by omega
        obtain ⟨c, hc⟩ : ∃ c, cs[k]? = some c := ⟨cs[k]'(by rw [HN.out]; exact H3.out), List.getElem?_eq_getElem _⟩
        have hlp := HLP.out.2 c hc
        have HP := hid' (fun W => part_any c cut (by have := HCZ.out c (List.mem_of_getElem? hc); omega) HCUT.out.1 HCUT.out.2 W)
        obtain ⟨r0, r1⟩ := HAT.out k c hc
        have q0 := (cell_of_row wr w.heap.size (2 + k * 2) _ _ _ hL.out.hist).trans r0
        have q1 := (cell_of_row wr w.heap.size (2 + k * 2 + 1) _ _ _ hL.out.hist).trans r1
        have q10 := (cell_of_row wr w.heap.size 10 _ _ _ hL.out.hist).trans hr10
        have hS := HSZ.out k hm4
        obtain ⟨⟨s, b⟩, hsb⟩ : ∃ p, stAt x cs k = p := ⟨_, rfl⟩
        rw [hsb] at hL hS hlp
        have hcs := HCZ.out c (List.mem_of_getElem? hc)
        clear r0 r1 hkm
        by_cases hp : partN c cut = 0
        · rw [if_pos hp] at hlp
          have HE := hid' hlp
          unfold partC at HP
          rw [if_pos hp, decide_eq_false (by simpa using hp)] at HP
          unfold chg at HP
          have HCC := hid' hc
          clear hp hlp hsb hc
          go_wp2_with fail
          refine (HP.out _).mono ?_
          rintro e w4 ⟨rfl, hb4⟩
          have L5 := fun o => (hL.out.grow hb4).grow ((Below.refl w4.heap.size w4).alloc (Nat.le_refl _) o)
          have p0 := fun o => cell_of_row (w4.alloc o) (w.heap.size + 1 + 1) 0 _ _ _ (L5 o).now
          have p1 := fun o => cell_of_row (w4.alloc o) (w.heap.size + 1 + 1) 1 _ _ _ (L5 o).now
          have f0 := fun o => frozen_of_row (w4.alloc o) (w.heap.size + 1) 0 _ _ (L5 o).res
          have f1 := fun o => frozen_of_row (w4.alloc o) (w.heap.size + 1) 1 _ _ (L5 o).res
          have s0 := fun o => cell_of_row (w4.alloc o) (w.heap.size + 1) 0 _ _ _ (L5 o).res
          have s1 := fun o => cell_of_row (w4.alloc o) (w.heap.size + 1) 1 _ _ _ (L5 o).res
          have HT := hid' (fun o => (L5 o).tell)
          clear L5 hb4 HP q0 q1 q10
          go_wp2
          rw [HE.out]
          refine bodyPost_ret (v := .agg #[.string s, .bool b]) ?_ rfl ⟨rfl, (HT.out _).1⟩
          exact results_cell_row (fn := Tryd.f29) (p := 6) (ty := 60) (by kernel_rfl) _ _ (w.heap.size + 1) _ #[.string s, .bool b] (0, 0) _ (by simp) (HT.out _).2 Tryd.underlying60 rfl (by kernel_rfl)
        · rw [if_neg hp] at hlp
          have HE := hid' hlp
          unfold partC at HP
          rw [if_neg hp, decide_eq_true (by simpa using hp)] at HP
          have HO := hid' (on_any 1 (c.2.extract 0 (partN c cut)) s b (by have h1 : s.size ≤ 5 * M := hS; rw [ByteArray.size_extract]; omega))
          rw [show onF 1 (c.2.extract 0 (partN c cut)) s = cont (s ++ c.2.extract 0 (partN c cut)) true from rfl] at HO
          generalize c.2.extract 0 (partN c cut) = tp at HP HO HE
          unfold chg at HP HO
          unfold cont at HO
          have HCC := hid' hc
          clear hp hlp hsb hc
          go_wp2_with fail
          refine (HP.out _).mono ?_
          rintro e w4 ⟨rfl, hb4⟩
          have L5 := fun o => (hL.out.grow hb4).grow ((Below.refl w4.heap.size w4).alloc (Nat.le_refl _) o)
          have p0 := fun o => cell_of_row (w4.alloc o) (w.heap.size + 1 + 1) 0 _ _ _ (L5 o).now
          have p1 := fun o => cell_of_row (w4.alloc o) (w.heap.size + 1 + 1) 1 _ _ _ (L5 o).now
          have HL5 := hid' L5
          clear L5 hb4 HP q0 q1 q10
          go_wp2_with fail
          refine (HO.out _).mono ?_
          rintro e w6 ⟨rfl, hb6⟩
          have L6 := (HL5.out _).grow hb6
          have L7 := L6.turn (s' := s ++ tp) (b' := true)
          have g0 := frozen_of_row w6 (w.heap.size + 1 + 1) 0 _ _ L6.now
          have g1 := frozen_of_row w6 (w.heap.size + 1 + 1) 1 _ _ L6.now
          have u0 := cell_of_row w6 (w.heap.size + 1 + 1) 0 _ _ _ L6.now
          have u1 := cell_of_row w6 (w.heap.size + 1 + 1) 1 _ _ _ L6.now
          have f0 := frozen_of_row w6 (w.heap.size + 1) 0 _ _ L6.res
          have f1 := frozen_of_row w6 (w.heap.size + 1) 1 _ _ L6.res
          have s0 := cell_of_row w6 (w.heap.size + 1) 0 _ _ _ L6.res
          have s1 := cell_of_row w6 (w.heap.size + 1) 1 _ _ _ L6.res
          have HT := hid' L7.tell
          clear L6 L7 hb6 HO p0 p1 HL5
          go_wp2
          rw [HE.out]
          refine bodyPost_ret (v := .agg #[.string (s ++ tp), .bool true]) ?_ rfl ⟨rfl, HT.out.1⟩
          exact results_cell_row (fn := Tryd.f29) (p := 6) (ty := 60) (by kernel_rfl) _ _ (w.heap.size + 1) _ #[.string (s ++ tp), .bool true] (0, 0) _ (by simp) HT.out.2 Tryd.underlying60 rfl (by kernel_rfl)
  all_goals
    have hlp := HLP.out.1 (List.getElem?_eq_none (by rw [HN.out]; exact Nat.le_refl _))
    have HE := hid' hlp
    have H3 : Hid (m = m) := hid' rfl
    try (have h3' : (m : Int) < (stand : Int) := by omega)
    clear hlp
    unfold hV cont
    go_enter Tryd.func29, Tryd.ntmps29
    go_wp2
    generalize hg : (((w.alloc (Obj.cells #[Value.string x.1, Value.bool x.2, Value.int IntKind.i64 k0, Value.string t0, Value.int IntKind.i64 k1, Value.string t1, Value.int IntKind.i64 k2, Value.string t2, Value.int IntKind.i64 k3, Value.string t3, Value.int IntKind.i64 (m : Int)] 71)).alloc (Obj.cells #[Value.string { data := #[] }, Value.bool false] 60)).alloc (Obj.cells #[Value.string x.1, Value.bool x.2] 60)) = w3
    have HB3 : Hid (LSt w w3 row x.1 x.2) := hid' (by rw [← hg, ← HROW.out]; exact LSt.begin_ w _ x.1 x.2)
    clear hg HB
    go_loopw [22] (fun i wr => ∃ k : Nat, k ≤ m ∧ i = .int .i64 k ∧ Hid (LSt w wr row (stAt x cs k).1 (stAt x cs k).2)) (fun i _ => m - (intOf i).toNat)
    case atStart => exact ⟨0, Nat.zero_le _, rfl, HB3⟩
    case round =>
      clear HB3
      obtain ⟨k, hk, rfl, hL⟩ := hrel
      by_cases hkm : k < m
      · obtain ⟨c, hc⟩ : ∃ c, cs[k]? = some c := ⟨cs[k]'(by rw [HN.out]; omega), List.getElem?_eq_getElem _⟩
        obtain ⟨r0, r1⟩ := HAT.out k c hc
        have q0 := (cell_of_row wr w.heap.size (2 + k * 2) _ _ _ hL.out.hist).trans r0
        have q1 := (cell_of_row wr w.heap.size (2 + k * 2 + 1) _ _ _ hL.out.hist).trans r1
        have hS := HSZ.out k (by omega)
        have hcs := HCZ.out c (List.mem_of_getElem? hc)
        have HST := hid' (stAt_succ x cs k c hc)
        obtain ⟨⟨s, b⟩, hsb⟩ : ∃ p, stAt x cs k = p := ⟨_, rfl⟩
        rw [hsb] at hL hS HST
        have HO := hid' (on_any c.1 c.2 s b (by have h1 : s.size ≤ 5 * M := hS; omega))
        rw [onF_onP] at HO
        obtain ⟨⟨s', b'⟩, hsb'⟩ : ∃ p, onP (s, b) c = p := ⟨_, rfl⟩
        rw [show ((c.1, c.2) : Chg) = c from rfl, hsb'] at HO
        rw [hsb'] at HST
        unfold chg cont at HO
        have hkm' : (k : Int) < (m : Int) := by omega
        have p0 := fun o => cell_of_row (wr.alloc o) (w.heap.size + 1 + 1) 0 _ _ _ (hL.out.grow ((Below.refl wr.heap.size wr).alloc (Nat.le_refl _) o)).now
        have p1 := fun o => cell_of_row (wr.alloc o) (w.heap.size + 1 + 1) 1 _ _ _ (hL.out.grow ((Below.refl wr.heap.size wr).alloc (Nat.le_refl _) o)).now
        have HL1 := hid' (fun o => hL.out.grow ((Below.refl wr.heap.size wr).alloc (Nat.le_refl _) o))
        clear hsb hsb' r0 r1 hc
        go_wp2_with fail
        refine (HO.out _).mono ?_
        rintro e w4 ⟨rfl, hb4⟩
        have L4 := (HL1.out _).grow hb4
        have L5 := L4.turn (s' := s') (b' := b')
        have g0 := frozen_of_row w4 (w.heap.size + 1 + 1) 0 _ _ L4.now
        have g1 := frozen_of_row w4 (w.heap.size + 1 + 1) 1 _ _ L4.now
        have u0 := cell_of_row w4 (w.heap.size + 1 + 1) 0 _ _ _ L4.now
        have u1 := cell_of_row w4 (w.heap.size + 1 + 1) 1 _ _ _ L4.now
        have HL5 := hid' L5
        clear L4 L5 hb4 HO p0 p1 q0 q1 HL1
        go_wp2
        go_roundw
        case rel => exact ⟨k + 1, by omega, by go_num, by rw [HST.out]; exact HL5⟩
        case measure => simp [intOf]; omega
      · obtain rfl : k = m := by omega
        have q10 := (cell_of_row wr w.heap.size 10 _ _ _ hL.out.hist).trans hr10
        obtain ⟨⟨s, b⟩, hsb⟩ : ∃ p, stAt x cs k = p := ⟨_, rfl⟩
        rw [hsb] at hL HE
        clear hsb hkm
        have p0 := cell_of_row wr (w.heap.size + 1 + 1) 0 _ _ _ hL.out.now
        have p1 := cell_of_row wr (w.heap.size + 1 + 1) 1 _ _ _ hL.out.now
        have f0 := frozen_of_row wr (w.heap.size + 1) 0 _ _ hL.out.res
        have f1 := frozen_of_row wr (w.heap.size + 1) 1 _ _ hL.out.res
        have s0 := cell_of_row wr (w.heap.size + 1) 0 _ _ _ hL.out.res
        have s1 := cell_of_row wr (w.heap.size + 1) 1 _ _ _ hL.out.res
        have HT := hid' hL.out.tell
        go_wp2
        rw [HE.out]
        refine bodyPost_ret (v := .agg #[.string s, .bool b]) ?_ rfl ⟨rfl, HT.out.1⟩
        exact results_cell_row (fn := Tryd.f29) (p := 6) (ty := 60) (by kernel_rfl) _ _ (w.heap.size + 1) _ #[.string s, .bool b] (0, 0) _ (by simp) HT.out.2 Tryd.underlying60 rfl (by kernel_rfl)
end Go.Proofs.YtahaienalidiiaaDoor
