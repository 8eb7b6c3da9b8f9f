/- What put, on, with and note make of a disk. Conditions: the disk's blocks lie from block B on. -/
import Derived.Test.YtahaienalidiiaaDoorDiskAt
import Derived.BigRegion
import Derived.Deep.RegionLaw
namespace Go.Proofs.YtahaienalidiiaaDoor
open Go.RowKit Go.Maps

theorem tri_turned {W W' : World} {sb fb cb b : Nat} (h : W.mapTurned W' b) (hb : b = fb ∨ b = cb) : Tri sb fb cb W W' := by
  have hs := turned_size h
  refine ⟨?_, ?_, ?_, Nat.le_of_eq hs.symm, fun k _ _ h2 h3 => turned_other h (by rcases hb with rfl | rfl <;> assumption)⟩ <;> (obtain ⟨es, clock, es', clock', hb', rfl⟩ := h; rfl)
section
variable {W W' : World} {B sb fb cb nf nc : Nat} {F C : ByteArray → Option Value} {ops armed : Int} {down : Bool}
theorem DiskAt.turnF (h : DiskAt W B sb fb cb nf nc F C ops armed down) {nf' : Nat} {F' : ByteArray → Option Value} (hm : MapAt W' fb nf' cont0 F') (ht : W.mapTurned W' fb) : DiskAt W' B sb fb cb nf' nc F' C ops armed down ∧ Tri sb fb cb W W' :=
  ⟨⟨(turned_other ht h.apart.2.1).trans h.row, hm, h.changed.of_eq (turned_other ht (Ne.symm h.apart.1)), h.apart, h.high⟩, tri_turned ht (.inl rfl)⟩
theorem DiskAt.turnC (h : DiskAt W B sb fb cb nf nc F C ops armed down) {nc' : Nat} {C' : ByteArray → Option Value} (hm : MapAt W' cb nc' hist0 C') (ht : W.mapTurned W' cb) : DiskAt W' B sb fb cb nf nc' F C' ops armed down ∧ Tri sb fb cb W W' :=
  ⟨⟨(turned_other ht h.apart.2.2).trans h.row, h.files.of_eq (turned_other ht h.apart.1), hm, h.apart, h.high⟩, tri_turned ht (.inr rfl)⟩
theorem DiskAt.drew (h : DiskAt W B sb fb cb nf nc F C ops armed down) : DiskAt W.drew B sb fb cb nf nc F C ops armed down := h.of_eq rfl rfl rfl
theorem DiskAt.alloc (h : DiskAt W B sb fb cb nf nc F C ops armed down) (o : Obj) : DiskAt (W.alloc o) B sb fb cb nf nc F C ops armed down := h.below ((Below.refl _ _).alloc (Nat.le_refl _) _)

set_option maxHeartbeats 800000 in
theorem put_there (h : DiskAt W B sb fb cb nf nc F C ops armed down) (key : ByteArray) (hk : key.size ≤ maxLen) (s : ByteArray) (hn : nf < 1000000) :
    Calls Tryd.prog 24 #[.pointer (some ⟨sb, 0, none⟩), .string key, cont s true] W fun e w' => e = .returned (.tuple #[]) ∧ DiskAt w' B sb fb cb (nf + 1) nc (putF F key (cont s true)) C ops armed down ∧ Tri sb fb cb W w' := by
  have h1 := (h.alloc (.cells #[.string s, .bool true] 60)).drew
  obtain ⟨c0, c1, c2, c3, c4⟩ := h1.cells
  obtain ⟨d, hd⟩ := rd_cont s true
  obtain ⟨w2, hr, hm, ht⟩ := h1.files.store Tryd.underlying54 (by unfold maxLen; omega) key hk _ hd
  obtain ⟨h2, hb2⟩ := h1.turnF hm ht
  have H2 := hid' h2
  have HB2 := hid' (((Tri.refl sb fb cb W).alloc (.cells #[.string s, .bool true] 60)).drew.trans hb2)
  clear h h1 hm ht h2 hb2 hd
  unfold cont at *
  go_enter Tryd.func24, Tryd.ntmps24
  go_wp2
  go_region
  go_wp2
  go_end0
  exact ⟨rfl, H2.out, HB2.out⟩
set_option maxHeartbeats 800000 in
theorem put_gone (h : DiskAt W B sb fb cb nf nc F C ops armed down) (key : ByteArray) (hk : key.size ≤ maxLen) (s : ByteArray) :
    Calls Tryd.prog 24 #[.pointer (some ⟨sb, 0, none⟩), .string key, cont s false] W fun e w' => e = .returned (.tuple #[]) ∧ DiskAt w' B sb fb cb nf nc (delF F key) C ops armed down ∧ Tri sb fb cb W w' := by
  have h1 := h.alloc (.cells #[.string s, .bool false] 60)
  obtain ⟨c0, c1, c2, c3, c4⟩ := h1.cells
  obtain ⟨w2, hr, hm, ht⟩ := h1.files.drop Tryd.underlying54 key hk 0
  obtain ⟨h2, hb2⟩ := h1.turnF hm ht
  have H2 := hid' h2
  have HB2 := hid' (((Tri.refl sb fb cb W).alloc (.cells #[.string s, .bool false] 60)).trans hb2)
  clear h h1 hm ht h2 hb2
  unfold cont at *
  go_enter Tryd.func24, Tryd.ntmps24
  go_wp2
  go_end0
  exact ⟨rfl, H2.out, HB2.out⟩
end
/-- What a change makes of a file. -/
def onF (k : Int) (t : ByteArray) (s : ByteArray) : Value := if k = 0 then cont t true else if k = 1 then cont (s ++ t) true else cont0
def chg (k : Int) (t : ByteArray) : Value := .agg #[.int .i64 k, .string t]
set_option maxHeartbeats 800000 in
theorem on_any (k : Int) (t s : ByteArray) (b : Bool) (hl : s.size + t.size < 1000000000) (w : World) :
    Calls Tryd.prog 35 #[chg k t, cont s b] w fun e w' => e = .returned (onF k t s) ∧ Below w.heap.size w w' := by
  by_cases h0 : k = 0
  · subst h0
    unfold onF cont0 cont chg
    go_enter Tryd.func35, Tryd.ntmps35
    go_wp2
    go_returns
    refine ⟨by simp, ?_⟩
    go_grown
  · by_cases h1 : k = 1
    · subst h1
      unfold onF cont0 cont chg
      go_enter Tryd.func35, Tryd.ntmps35
      go_wp2
      go_returns
      refine ⟨by simp, ?_⟩
      go_grown
    · unfold onF cont0 cont chg
      go_enter Tryd.func35, Tryd.ntmps35
      go_wp2
      go_returns
      refine ⟨by simp, ?_⟩
      go_grown
end Go.Proofs.YtahaienalidiiaaDoor
