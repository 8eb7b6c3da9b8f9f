/- What a change does to a disk that is up, and to one that is down. Conditions: the disk's blocks lie from block B on; the errors of api lie in their variables. -/
import Derived.Test.YtahaienalidiiaaDoorDiskNote
import Derived.Test.YtahaienalidiiaaDoorValB
namespace Go.Proofs.YtahaienalidiiaaDoor
open Go.RowKit Go.Maps

/-- What holds within do: the rows of the change and of what was. -/
structure InDo (sb g5 g7 : Nat) (k : Int) (t s : ByteArray) (b : Bool) (m : Int) (W : World) : Prop where
  r5 : W.heap[g5]? = some (.cells #[.int .i64 k, .string t] 64 (0, 0))
  r7 : W.heap[g7]? = some (.cells #[.string s, .bool b] 60 (0, 0))
  mx : W.cell? ⟨3, 0, none⟩ = some (.int .i64 m)
theorem InDo.cells {sb g5 g7 : Nat} {k : Int} {t s : ByteArray} {b : Bool} {m : Int} {W : World} (h : InDo sb g5 g7 k t s b m W) : W.cell? ⟨g5, 0, none⟩ = some (.int .i64 k) ∧ W.cell? ⟨g5, 1, none⟩ = some (.string t) ∧ W.cell? ⟨g7, 0, none⟩ = some (.string s) ∧ W.cell? ⟨g7, 1, none⟩ = some (.bool b) ∧ W.cell? ⟨3, 0, none⟩ = some (.int .i64 m) :=
  ⟨cell_of_row W g5 0 _ _ _ h.r5, cell_of_row W g5 1 _ _ _ h.r5, cell_of_row W g7 0 _ _ _ h.r7, cell_of_row W g7 1 _ _ _ h.r7, h.mx⟩
theorem InDo.below {sb g5 g7 : Nat} {k : Int} {t s : ByteArray} {b : Bool} {m : Int} {W W' : World} (h : InDo sb g5 g7 k t s b m W) (hb : Below W.heap.size W W') : InDo sb g5 g7 k t s b m W' :=
  ⟨(hb.block _ (Array.getElem?_eq_some_iff.1 h.r5).1).trans h.r5, (hb.block _ (Array.getElem?_eq_some_iff.1 h.r7).1).trans h.r7, (hb.cell (p := ⟨3, 0, none⟩) (World.block_lt_of_cell? _ _ h.mx)).trans h.mx⟩
section
variable {W W' : World} {B sb fb cb nf nc : Nat} {F C : ByteArray → Option Value} {ops armed : Int} {down : Bool}
set_option maxRecDepth 100000 in
set_option maxHeartbeats 1600000 in
theorem do_core (C' : ByteArray → Option Value) (nc' : Nat) (h : DiskAt W B sb fb cb nf nc F C ops armed false) (hBW : 3 < B) (ho : 0 ≤ ops) (ho2 : ops < 1000000) (ha1 : -9223372036854775808 ≤ armed) (ha2 : armed < 9223372036854775808) (ha : armed ≠ 1) (hnf : nf < 2000)
    (key : ByteArray) (hk : key.size ≤ 1000) (hv : Pth.splitOK Pth.partOK key.data.toList = true) (m : Int) (hm : W.cell? ⟨3, 0, none⟩ = some (.int .i64 m))
    (s : ByteArray) (b : Bool) (hF : (F key).getD cont0 = cont s b) (k : Int) (t s' : ByteArray) (hon : onF k t s = cont s' true) (hl : s.size + t.size < 1000000000) (hs' : s'.size ≤ 65536)
    (HN : ∀ W1, DiskAt W1 B sb fb cb nf nc F C (ops + 1) (armed' armed) false → Calls Tryd.prog 36 #[.pointer (some ⟨sb, 0, none⟩), .string key, cont s b, chg k t] W1 fun e w' => e = .returned (.tuple #[]) ∧ DiskAt w' B sb fb cb nf nc' F C' (ops + 1) (armed' armed) false ∧ Tri sb fb cb W1 w') :
    Calls Tryd.prog 25 #[.pointer (some ⟨sb, 0, none⟩), .string key, chg k t] W fun e w' => e = .returned .nilIface ∧ DiskAt w' B sb fb cb (nf + 1) nc' (putF F key (cont s' true)) C' (ops + 1) (armed' armed) false ∧ Tri sb fb cb W w' := by
  have HNN := hid' HN
  have HM := hid' hm
  have HON := hid' (fun W => on_any k t s b hl W)
  rw [hon] at HON
  have HBG := hid' (begin_up (h.alloc (.cells #[.int .i64 k, .string t] 64)) ho ho2 ha1 ha2)
  rw [decide_eq_true ha, decide_eq_false ha] at HBG
  have HR5 : Hid ((W.alloc (.cells #[.int .i64 k, .string t] 64)).heap[W.heap.size]? = some (.cells #[.int .i64 k, .string t] 64 (0, 0))) := hid' (heap_alloc_new _ _)
  have HH := hid' h
  clear HN hm h
  unfold chg cont at HON ⊢
  go_enter Tryd.func25, Tryd.ntmps25
  go_wp2_with fail
  refine (HBG.out).mono ?_
  rintro e w1 ⟨rfl, h1, hb1⟩
  have hz1 := hb1.size
  rw [World.size_alloc] at hz1
  have hap := h1.apart
  have hhi := h1.high
  have hlt := HH.out.lt
  have hwm := World.block_lt_of_cell? W _ HM.out
  have T1 : Tri sb fb cb W w1 := ((Tri.refl sb fb cb W).alloc _).trans hb1
  have r5 : w1.heap[W.heap.size]? = some (.cells #[.int .i64 k, .string t] 64 (0, 0)) := (hb1.block _ (by simp) (by omega) (by omega) (by omega)).trans HR5.out
  have hm1 : w1.cell? ⟨3, 0, none⟩ = some (.int .i64 m) := by
    have e : w1.heap[3]? = W.heap[3]? := T1.block _ hwm (by omega) (by omega) (by omega)
    have := HM.out
    simp only [World.cell?] at this ⊢
    rwa [e]
  have hlk := h1.files.look Tryd.underlying54 (zero_cont _) key (by unfold maxLen; omega)
  rw [hF] at hlk
  obtain ⟨c0, c1, c2, c3, c4⟩ := h1.cells
  have D2 := h1.alloc (.cells #[.string s, .bool b] 60)
  have R2 : InDo sb (W.heap.size) w1.heap.size k t s b m (w1.alloc (.cells #[.string s, .bool b] 60)) :=
    ⟨(Below.heap_alloc _ _ _ (by omega)).trans r5, heap_alloc_new _ _, (((Below.refl _ _).alloc (Nat.le_refl _) _ : Below w1.heap.size w1 _).cell (p := ⟨3, 0, none⟩) (World.block_lt_of_cell? _ _ hm1)).trans hm1⟩
  have hlt1 := h1.lt
  have T2 := T1.alloc (.cells #[.string s, .bool b] 60)
  obtain ⟨q0, q1, p0, p1, qm⟩ := R2.cells
  have HD2 := hid' D2
  have HR2 := hid' R2
  have HT2 := hid' T2
  have HVV := hid' hv
  unfold cont at hlk
  clear hF hon hv h1 T1 hb1 r5 HR5 HBG D2 R2 T2 hm1
  go_wp2_with fail
  refine (HON.out _).mono ?_
  rintro e w3 ⟨rfl, hb3⟩
  have hlt2 := HD2.out.lt
  have hz2 : (w1.alloc (.cells #[.string s, .bool b] 60)).heap.size = w1.heap.size + 1 := by simp
  have D3 := HD2.out.below hb3
  have R3 := HR2.out.below hb3
  have T3 := HT2.out.trans (Tri.of_below hb3)
  have hz3 := hb3.size
  have D4 := D3.alloc (.cells #[.string s', .bool true] 60)
  have R4 := R3.below ((Below.refl _ _).alloc (Nat.le_refl _) (.cells #[.string s', .bool true] 60))
  have T4 := T3.alloc (.cells #[.string s', .bool true] 60)
  have r8 : (w3.alloc (.cells #[.string s', .bool true] 60)).heap[w3.heap.size]? = some (.cells #[.string s', .bool true] 60 (0, 0)) := heap_alloc_new _ _
  have hV4 := valid_below key m _ (by omega) R4.mx
  rw [HVV.out] at hV4
  have HV4 := hid' hV4
  have HD4 := hid' D4
  have HR4 := hid' R4
  have HT4 := hid' T4
  have HR8 := hid' r8
  clear q0 q1 p0 p1 qm hV4 D3 R3 T3 D4 R4 T4 r8 hb3 HD2 HR2 HT2 c0 c1 c2 c3 c4 hlk
  go_wp2_with fail
  refine (HV4.out).mono ?_
  rintro e w5 ⟨rfl, hb5⟩
  have hz4 : (w3.alloc (.cells #[.string s', .bool true] 60)).heap.size = w3.heap.size + 1 := by simp
  have hz5 := hb5.size
  have D5 := HD4.out.below hb5
  have R5 := HR4.out.below hb5
  have T5 := HT4.out.trans (Tri.of_below hb5)
  have r8 := (hb5.block w3.heap.size (by omega)).trans HR8.out
  have HNO := hid' (HNN.out w5 D5)
  obtain ⟨q0, q1, p0, p1, qm⟩ := R5.cells
  have u0 := cell_of_row w5 w3.heap.size 0 _ _ _ r8
  have u1 := cell_of_row w5 w3.heap.size 1 _ _ _ r8
  obtain ⟨c0, c1, c2, c3, c4⟩ := D5.cells
  obtain ⟨m2, hm2, hlen⟩ := D5.files.len Tryd.underlying54
  have hlt5 := D5.lt
  have HR5b := hid' R5
  have HT5 := hid' T5
  have HR85 := hid' r8
  clear D5 R5 T5 r8 hb5 HV4 HD4 HR4 HT4 HR8
  unfold cont chg at HNO
  have fin : ∀ e w6, (e = Ending.returned (.tuple #[]) ∧ DiskAt w6 B sb fb cb nf nc' F C' (ops + 1) (armed' armed) false ∧ Tri sb fb cb w5 w6) → DiskAt w6 B sb fb cb nf nc' F C' (ops + 1) (armed' armed) false ∧ Tri sb fb cb W w6 ∧ w6.heap[w3.heap.size]? = some (.cells #[.string s', .bool true] 60 (0, 0)) := fun e w6 h6 =>
    ⟨h6.2.1, HT5.out.trans h6.2.2, (h6.2.2.block _ (by omega) (by omega) (by omega) (by omega)).trans HR85.out⟩
  have FIN := hid' fin
  clear fin
  cases b with
  | true =>
    go_wp2_with fail
    refine (HNO.out).mono ?_
    rintro e w6 h6
    obtain ⟨D6, T6, r86⟩ := FIN.out e w6 h6
    obtain ⟨rfl, _, _⟩ := h6
    have v0 := cell_of_row w6 w3.heap.size 0 _ _ _ r86
    have v1 := cell_of_row w6 w3.heap.size 1 _ _ _ r86
    have HP := hid' (put_there D6 key (by unfold maxLen; omega) s' (by omega))
    have HT6 := hid' T6
    clear D6 T6 r86 c0 c1 c2 c3 c4 q0 q1 p0 p1 u0 u1 qm hlen
    unfold cont at HP
    go_wp2_with fail
    refine (HP.out).mono ?_
    rintro e w7 ⟨rfl, D7, T7⟩
    have HD7 := hid' D7
    have HT7 := hid' (HT6.out.trans T7)
    clear D7 T7
    go_wp2
    go_ret
    exact ⟨rfl, HD7.out, HT7.out⟩
  | false =>
    have hlen2 : ¬ (2000 ≤ (m2 : Int)) := by omega
    go_wp2_with fail
    refine (HNO.out).mono ?_
    rintro e w6 h6
    obtain ⟨D6, T6, r86⟩ := FIN.out e w6 h6
    obtain ⟨rfl, _, _⟩ := h6
    have v0 := cell_of_row w6 w3.heap.size 0 _ _ _ r86
    have v1 := cell_of_row w6 w3.heap.size 1 _ _ _ r86
    have HP := hid' (put_there D6 key (by unfold maxLen; omega) s' (by omega))
    have HT6 := hid' T6
    clear D6 T6 r86 c0 c1 c2 c3 c4 q0 q1 p0 p1 u0 u1 qm hlen
    unfold cont at HP
    go_wp2_with fail
    refine (HP.out).mono ?_
    rintro e w7 ⟨rfl, D7, T7⟩
    have HD7 := hid' D7
    have HT7 := hid' (HT6.out.trans T7)
    clear D7 T7
    go_wp2
    go_ret
    exact ⟨rfl, HD7.out, HT7.out⟩
end
end Go.Proofs.YtahaienalidiiaaDoor
