/- What Rise makes of a disk that is up, and of one that is down without changes or with the example's one. Conditions: the disk's blocks lie from block B on. -/
import Derived.Test.YtahaienalidiiaaDoorDiskSort
import Derived.Test.YtahaienalidiiaaDoorDiskLeft
namespace Go.Proofs.YtahaienalidiiaaDoor
open Go.RowKit Go.Maps Go.Sort Go.MapKept Go.ChangeMaps

theorem MapAt.clear {W : World} {b n : Nat} {z : Value} {F : ByteArray → Option Value} {t e : TypeId} (h : MapAt W b n z F) (ht : Tryd.prog.underlying t = some (.map 9 e)) (ty : TypeId) :
    ∃ w', (Builtin.clear_ #[t] ty #[.map (some b)]).run Tryd.prog W = .ok (.tuple #[]) w' ∧ MapAt w' b 0 z (fun _ => none) ∧ W.mapTurned w' b := by
  obtain ⟨D, zd, zp, h1, ⟨es, clock, hb, h2⟩, h3⟩ := h
  refine ⟨setBlock W b (.map #[] clock), ?_, ⟨.map [], zd, zp, h1, ⟨#[], clock, heap_setBlock_same hb _, ⟨by simp, stamped_empty _, by simp⟩, Nat.le_refl _, rfl⟩, fun _ => ⟨rfl, zp, h1⟩⟩, ⟨es, clock, #[], clock, hb, rfl⟩⟩
  simp [Builtin.clear_, run_underlying ht, MapKept.run_getObj_map hb, MapKept.run_setObj_map _ hb, Result.andThen]
  rfl

section
variable {W W' : World} {B sb fb cb nf nc : Nat} {F C : ByteArray → Option Value} {ops armed : Int} {down : Bool}
theorem rise_up (h : DiskAt W B sb fb cb nf nc F C ops armed false) (a b : Int) : Calls Tryd.prog 14 #[.pointer (some ⟨sb, 0, none⟩), .int .i64 a, .int .i64 b] W fun e w' => e = .returned (.tuple #[]) ∧ w' = W := by
  obtain ⟨c0, c1, c2, c3, c4⟩ := h.cells
  clear h
  go_enter Tryd.func14, Tryd.ntmps14
  go_wp2
  go_returns
  exact ⟨rfl, rfl⟩
set_option maxHeartbeats 1600000 in
theorem rise_none (h : DiskAt W B sb fb cb nf nc F C ops armed true) (hC : ∀ k, C k = none) (hnc : nc ≤ 1000000) :
    Calls Tryd.prog 14 #[.pointer (some ⟨sb, 0, none⟩), .int .i64 0, .int .i64 0] W fun e w' => e = .returned (.tuple #[]) ∧ DiskAt w' B sb fb cb nf 0 F (fun _ => none) ops 0 false ∧ Tri sb fb cb W w' := by
  obtain ⟨c0, c1, c2, c3, c4⟩ := h.cells
  have HK := hid' (keys_call cb W)
  have HS := hid' (sorted_call h.changed hnc [] List.nodup_nil (fun x => by rw [hC]; simp))
  have HD := hid' h
  clear h
  unfold kh at HK HS
  go_enter Tryd.func14, Tryd.ntmps14
  go_wp2_with fail
  refine (HK.out).mono ?_
  rintro e w1 ⟨rfl, rfl⟩
  go_wp2_with fail
  refine (HS.out).mono ?_
  rintro e w2 ⟨v, rfl, ho, hb2⟩
  obtain ⟨ao, cap, rfl⟩ : ∃ ao cap, v = .slice ao 0 cap := by
    rcases ho.2 with ⟨rfl, _⟩ | ⟨g, cap, cur, rfl, _⟩
    · exact ⟨_, _, rfl⟩
    · exact ⟨_, _, rfl⟩
  have D1 := HD.out.alloc (.cells #[.map (some cb)] 55)
  have hb2' : RowKit.Below (W.alloc (.cells #[.map (some cb)] 55)).heap.size (W.alloc (.cells #[.map (some cb)] 55)) w2 := by rw [World.size_alloc]; exact hb2
  have D2 := D1.below hb2'
  have T2 := ((Tri.refl sb fb cb W).alloc (.cells #[.map (some cb)] 55)).trans (Tri.of_below hb2')
  obtain ⟨w3, hr, hm3, ht⟩ := D2.changed.clear Tryd.underlying55 0
  obtain ⟨D3, T3⟩ := D2.turnC hm3 ht
  have HD3 := hid' ((D3.setArmed 0).setDown false)
  have HT3 := hid' (((T2.trans T3).setSb 3 (.int .i64 0)).setSb 4 (.bool false))
  obtain ⟨d0, d1, d2, d3, d4⟩ := D2.cells
  obtain ⟨e0, e1, e2, e3, e4⟩ := D3.cells
  obtain ⟨f2, f3, f4⟩ := D3.frozen
  clear D1 D2 D3 T2 T3 hm3 ht ho hb2 hb2' HK HS c0 c1 c2 c3 c4
  go_wp2
  go_loopw [22] (fun i wr => i = .int .i64 0 ∧ wr = w2) (fun _ _ => 0)
  case atStart => exact ⟨rfl, rfl⟩
  case round =>
    obtain ⟨rfl, rfl⟩ := hrel
    go_wp2
    go_end0
    exact ⟨rfl, HD3.out, HT3.out⟩
/-- The example's change. -/
def histX : Value := hV ⟨#[120]⟩ true 1 ⟨#[121, 122]⟩ 0 ⟨#[]⟩ 0 ⟨#[]⟩ 0 ⟨#[]⟩ 1
theorem one_key {C : ByteArray → Option Value} (h1 : C ⟨#[97]⟩ = some histX) (h2 : ∀ k, k ≠ ⟨#[97]⟩ → C k = none) (x : List UInt8) : x ∈ [[(97 : UInt8)]] ↔ (C ⟨x.toArray⟩).isSome = true := by
  by_cases e : x = [97]
  · subst e
    rw [show (⟨[(97 : UInt8)].toArray⟩ : ByteArray) = ⟨#[97]⟩ from rfl, h1]
    simp
  · rw [h2 ⟨x.toArray⟩ (fun h => e (by have := congrArg (fun b : ByteArray => b.data.toList) h; simpa using this))]
    simpa using e
set_option maxRecDepth 100000 in
set_option maxHeartbeats 1600000 in
theorem rise_first (h : DiskAt W B sb fb cb nf nc F C ops armed true) (h1 : C ⟨#[97]⟩ = some histX) (h2 : ∀ k, k ≠ ⟨#[97]⟩ → C k = none) (hnc : nc ≤ 1000000) (hnf : nf < 1000) :
    Calls Tryd.prog 14 #[.pointer (some ⟨sb, 0, none⟩), .int .i64 0, .int .i64 1] W fun e w' => e = .returned (.tuple #[]) ∧ DiskAt w' B sb fb cb (nf + 1) 0 (putF F ⟨#[97]⟩ (cont ⟨#[120, 121]⟩ true)) (fun _ => none) ops 0 false ∧ Tri sb fb cb W w' := by
  obtain ⟨c0, c1, c2, c3, c4⟩ := h.cells
  have HK := hid' (keys_call cb W)
  have HS := hid' (sorted_call h.changed hnc [[97]] (by simp) (one_key h1 h2))
  have HD := hid' h
  have HC1 := hid' h1
  clear h h1 h2
  unfold kh at HK HS
  go_enter Tryd.func14, Tryd.ntmps14
  go_wp2_with fail
  refine (HK.out).mono ?_
  rintro e w1 ⟨rfl, rfl⟩
  go_wp2_with fail
  refine (HS.out).mono ?_
  rintro e w2 ⟨v, rfl, ho, hb2⟩
  rw [show ([[(97 : UInt8)]].mergeSort leB).map encStr = [.string ⟨#[97]⟩] from by simp [encStr]] at ho
  obtain ⟨g, cap, rfl, hcap, hg, hc⟩ : ∃ g cap, v = .slice (some ⟨g, 0, none⟩) 1 cap ∧ 1 ≤ cap ∧ W.heap.size + 1 ≤ g ∧ w2.cell? ⟨g, 0, none⟩ = some (.string ⟨#[97]⟩) := by
    rcases ho.2 with ⟨_, h0⟩ | ⟨g, cap, cur, rfl, hB, hg, hc, _, hs, ht⟩
    · exact absurd h0 (by decide)
    · refine ⟨g, cap, rfl, hc, hB, ?_⟩
      rw [cell_of_row w2 g 0 _ _ _ hg]
      have h1 : ([Value.string ⟨#[97]⟩] : List Value)[0]? = some (.string ⟨#[97]⟩) := rfl
      rw [← ht, List.getElem?_take] at h1
      split at h1
      · simpa using h1
      · cases h1
  have D1 := HD.out.alloc (.cells #[.map (some cb)] 55)
  have hb2' : RowKit.Below (W.alloc (.cells #[.map (some cb)] 55)).heap.size (W.alloc (.cells #[.map (some cb)] 55)) w2 := by rw [World.size_alloc]; exact hb2
  have D2 := D1.below hb2'
  have T2 := ((Tri.refl sb fb cb W).alloc (.cells #[.map (some cb)] 55)).trans (Tri.of_below hb2')
  have HD2 := hid' D2
  have HT2 := hid' T2
  clear D1 D2 T2 ho hb2 hb2' HK HS c0 c1 c2 c3 c4
  go_wp2
  go_loopw [1, 22] (fun k i wr => k = .int .i64 0 ∧ ∃ n : Nat, i = .int .i64 n ∧ ((n = 0 ∧ wr = w2) ∨ (n = 1 ∧ Hid (DiskAt wr B sb fb cb (nf + 1) nc (putF F ⟨#[97]⟩ (cont ⟨#[120, 121]⟩ true)) C ops armed true) ∧ Hid (Tri sb fb cb W wr)))) (fun _ i _ => 1 - (intOf i).toNat)
  case atStart => exact ⟨rfl, 0, rfl, .inl ⟨rfl, rfl⟩⟩
  case round =>
    obtain ⟨rfl, n, rfl, ⟨rfl, rfl⟩ | ⟨rfl, hD, hT⟩⟩ := hrel
    · obtain ⟨c0, c1, c2, c3, c4⟩ := HD2.out.cells
      have hlk := HD2.out.changed.look Tryd.underlying55 (zero_hist _) ⟨#[97]⟩ (by decide)
      rw [HC1.out] at hlk
      simp only [Option.getD_some, histX, hV] at hlk
      have HL := hid' left_first
      unfold hV cont at HL
      go_wp2_with fail
      refine (HL.out _).mono ?_
      rintro e w3 ⟨rfl, hb3⟩
      have D3 := HD2.out.below hb3
      have HP := hid' (put_there D3 ⟨#[97]⟩ (by decide) ⟨#[120, 121]⟩ (by omega))
      have HT3 := hid' (HT2.out.trans (Tri.of_below hb3))
      unfold cont at HP
      clear D3 hb3
      go_wp2_with fail
      refine (HP.out).mono ?_
      rintro e w4 ⟨rfl, D4, T4⟩
      have HD4 := hid' D4
      have HT4 := hid' (HT3.out.trans T4)
      clear D4 T4
      go_wp2
      go_roundw
      case rel => exact ⟨by rfl, 1, by go_num, .inr ⟨rfl, HD4, HT4⟩⟩
      case measure => simp [intOf]
    · obtain ⟨w3, hr, hm3, ht⟩ := hD.out.changed.clear Tryd.underlying55 0
      obtain ⟨D3, T3⟩ := hD.out.turnC hm3 ht
      have HD3 := hid' ((D3.setArmed 0).setDown false)
      have HT3 := hid' (((hT.out.trans T3).setSb 3 (.int .i64 0)).setSb 4 (.bool false))
      obtain ⟨d0, d1, d2, d3, d4⟩ := hD.out.cells
      obtain ⟨e0, e1, e2, e3, e4⟩ := D3.cells
      obtain ⟨f2, f3, f4⟩ := D3.frozen
      clear D3 T3 hm3 ht
      go_wp2
      go_end0
      exact ⟨rfl, HD3.out, HT3.out⟩
end
end Go.Proofs.YtahaienalidiiaaDoor
