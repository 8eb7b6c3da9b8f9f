/- What path.split and path.Valid answer at every text. Conditions: a text of fewer than 2^32 bytes; internal/bytealg.MaxLen holds some number. -/
import Derived.Test.YtahaienalidiiaaDoorValA
import Derived.Deep.DeepFit
import Derived.RangeFuncRecord
namespace Go.Proofs.YtahaienalidiiaaDoor
open Go.RowKit

/-- The block that strings.Split makes. -/
def pieces (s : ByteArray) : Obj := .cells (((Pth.parts s.data.toList).map fun l => Value.string ⟨l.toArray⟩).toArray) 9
theorem Split_any (s : ByteArray) (m : Int) (w : World) (hs : s.size < 4294967281) (hm : w.cell? ⟨3, 0, none⟩ = some (.int .i64 m)) :
    Calls Tryd.prog 44 #[.string s, .string ⟨#[47]⟩] w fun e w' =>
      e = .returned (.slice (some ⟨w.heap.size, 0, none⟩) (Pth.parts s.data.toList).length (Pth.parts s.data.toList).length) ∧ w' = w.alloc (pieces s) := by
  refine (Tryd.strings_Split s ⟨#[47]⟩ m w hs hm (by decide)).mono ?_
  rintro e w' ⟨rfl, rfl⟩
  rw [Pth.splitB_parts, Pth.countB_parts]
  refine ⟨rfl, ?_⟩
  unfold pieces
  rw [List.map_map]
  rfl
theorem pieces_cell (s : ByteArray) (w : World) (j : Nat) (h : j < (Pth.parts s.data.toList).length) : (w.alloc (pieces s)).cell? ⟨w.heap.size, j, none⟩ = some (.string ⟨((Pth.parts s.data.toList)[j]).toArray⟩) := by
  have := World.alloc_heap_new w (pieces s)
  unfold World.cell?
  rw [this]
  simp [pieces, h]

/-- What path.split leaves: the pieces, or none. -/
def splitPost (s : ByteArray) (ok : List UInt8 → Bool) (w : World) (e : Ending) (w' : World) : Prop :=
  (Pth.splitOK ok s.data.toList = true ∧ e = .returned (.tuple #[.slice (some ⟨w.heap.size, 0, none⟩) (Pth.parts s.data.toList).length (Pth.parts s.data.toList).length, .bool true]) ∧ w' = w.alloc (pieces s)) ∨
  (Pth.splitOK ok s.data.toList = false ∧ e = .returned (.tuple #[.slice none 0 0, .bool false]) ∧ (w' = w ∨ w' = w.alloc (pieces s)))
def allTo (ok : List UInt8 → Bool) (ps : List (List UInt8)) (k : Nat) : Prop := (ps.take k).all ok = true
theorem allTo_succ {ok : List UInt8 → Bool} {ps : List (List UInt8)} {k : Nat} (h : k < ps.length) (h1 : allTo ok ps k) (h2 : ok ps[k] = true) : allTo ok ps (k + 1) := by
  unfold allTo at *
  rw [List.take_succ_eq_append_getElem h, List.all_append, h1]
  simp [h2]
theorem split_yes {ok : List UInt8 → Bool} {l : List UInt8} (hl : l.length ≤ 200) (h : allTo ok (Pth.parts l) (Pth.parts l).length) : Pth.splitOK ok l = true := by
  unfold allTo at h
  rw [List.take_length] at h
  unfold Pth.splitOK
  rw [h, decide_eq_true hl]; rfl
theorem split_no {ok : List UInt8 → Bool} {l : List UInt8} {k : Nat} (hk : k < (Pth.parts l).length) (h : ok (Pth.parts l)[k] = false) : Pth.splitOK ok l = false := by
  have : (Pth.parts l).all ok = false := by
    rw [List.all_eq_false]; exact ⟨_, List.getElem_mem hk, by simp [h]⟩
  unfold Pth.splitOK
  rw [this]; simp

set_option maxHeartbeats 400000 in
theorem split_any (g : Nat) (ok : List UInt8 → Bool) (eg : ∀ args w, (callFunc g args).run Tryd.prog w = .ok (.enter g args) w) (s : ByteArray) (m : Int) (w : World) (hs : s.size < 4294967281) (hm : w.cell? ⟨3, 0, none⟩ = some (.int .i64 m))
    (hg : Hid (∀ p : List UInt8, p.length ≤ 200 → Calls Tryd.prog g #[.string ⟨p.toArray⟩] (w.alloc (pieces s)) fun e w' => e = .returned (.bool (ok p)) ∧ w.alloc (pieces s) = w')) :
    Calls Tryd.prog 33 #[.string s, .func (.func g) #[] #[]] w (splitPost s ok w) := by
  by_cases hlen : 200 < s.size
  · have H : Hid (Pth.splitOK ok s.data.toList = false) := Lib.hid (by unfold Pth.splitOK; rw [decide_eq_false (by rw [← Lib.size_eq]; omega)]; rfl)
    go_enter Tryd.func33, Tryd.ntmps33
    go_wp2
    go_ret2
    exact .inr ⟨H.out, rfl, .inl rfl⟩
  · have Hm := Lib.hid hm
    clear hm
    have hbound := Pth.parts_count s.data.toList
    rw [← Lib.size_eq] at hbound
    have hcells := Lib.hid (pieces_cell s w)
    go_enter Tryd.func33, Tryd.ntmps33
    go_wp2_with (go_at_call 44; refine (Split_any _ _ _ hs Hm.out).mono ?_; rintro e w' ⟨rfl, rfl⟩)
    obtain ⟨W, hW⟩ : ∃ W, w.alloc (pieces s) = W := ⟨_, rfl⟩
    rw [hW] at hg hcells ⊢
    have HW := Lib.hid hW
    clear hW
    go_loop [16] (fun i => ∃ k : Nat, k ≤ (Pth.parts s.data.toList).length ∧ i = .int .i64 k ∧ allTo ok (Pth.parts s.data.toList) k) (fun i => (Pth.parts s.data.toList).length - (intOf i).toNat)
    case atStart => exact ⟨0, Nat.zero_le _, rfl, by simp [allTo]⟩
    case round =>
      obtain ⟨k, hk, rfl, hok⟩ := hrel
      by_cases hlt : k < (Pth.parts s.data.toList).length
      · have hcell := hcells.out k hlt
        have hp := Pth.parts_le s.data.toList _ (List.getElem_mem hlt)
        rw [← Lib.size_eq] at hp
        have Hp : Hid ((Pth.parts s.data.toList)[k].length ≤ 200) := Lib.hid (by omega)
        clear hp
        cases ho : ok ((Pth.parts s.data.toList)[k])
        · have Ho := Lib.hid ho
          go_wp2_with (go_at_fn g; refine (hg.out _ Hp.out).mono ?_; rintro e w' ⟨rfl, rfl⟩)
          go_ret2
          exact .inr ⟨split_no hlt Ho.out, rfl, .inr HW.out.symm⟩
        · have Ho := Lib.hid ho
          go_wp2_with (go_at_fn g; refine (hg.out _ Hp.out).mono ?_; rintro e w' ⟨rfl, rfl⟩)
          go_round
          case rel => exact ⟨k + 1, by omega, by go_num, allTo_succ hlt hok Ho.out⟩
          case measure => simp [intOf]; omega
      · obtain rfl : k = (Pth.parts s.data.toList).length := by omega
        go_wp2
        go_ret2
        exact .inl ⟨split_yes (by rw [← Lib.size_eq]; omega) hok, rfl, HW.out.symm⟩

def validPost (s : ByteArray) (w : World) (e : Ending) (w' : World) : Prop := e = .returned (.bool (Pth.splitOK Pth.partOK s.data.toList)) ∧ (w' = w ∨ w' = w.alloc (pieces s))
set_option maxHeartbeats 400000 in
theorem Valid_any (s : ByteArray) (m : Int) (w : World) (hs : s.size < 4294967281) (hg : 3 < w.heap.size) (hm : w.cell? ⟨3, 0, none⟩ = some (.int .i64 m)) :
    Calls Tryd.prog 23 #[.string s] w (validPost s w) := by
  have Hc : Hid (∀ p : List UInt8, p.length ≤ 200 → Calls Tryd.prog 34 #[.string ⟨p.toArray⟩] (w.alloc (pieces s)) fun e w' => e = .returned (.bool (Pth.partOK p)) ∧ w.alloc (pieces s) = w') :=
    Lib.hid fun p hp => isPart_any ⟨p.toArray⟩ m _ (by show p.toArray.size < _; simp; omega) (((Below.refl _ w).alloc (Nat.le_refl _) _).cell (p := ⟨3, 0, none⟩) hg ▸ hm)
  have Hm := Lib.hid hm
  clear hm
  go_enter Tryd.func23, Tryd.ntmps23
  go_wp2_with fail
  refine (split_any 34 Pth.partOK (enters_of Tryd.func34 (by kernel_rfl) rfl) s m w hs Hm.out Hc).mono ?_
  rintro e w' (⟨h, rfl, hw⟩ | ⟨h, rfl, hw⟩)
  · have H := Lib.hid h
    have HW := Lib.hid hw
    clear h hw
    go_wp2
    go_ret
    exact ⟨ret_bool H.out.symm, .inr HW.out⟩
  · have H := Lib.hid h
    have HW := Lib.hid hw
    clear h hw
    go_wp2
    go_ret
    exact ⟨ret_bool H.out.symm, HW.out⟩

theorem valid_below (s : ByteArray) (m : Int) (w : World) (hs : s.size < 4294967281) (hm : w.cell? ⟨3, 0, none⟩ = some (.int .i64 m)) :
    Calls Tryd.prog 23 #[.string s] w fun e w' => e = .returned (.bool (Pth.splitOK Pth.partOK s.data.toList)) ∧ Below w.heap.size w w' := by
  refine (Valid_any s m w hs (World.block_lt_of_cell? w _ hm) hm).mono ?_
  rintro e w' ⟨he, hw⟩
  refine ⟨he, ?_⟩
  rcases hw with rfl | rfl
  · exact Below.refl _ _
  · exact (Below.refl _ _).alloc (Nat.le_refl _) _
end Go.Proofs.YtahaienalidiiaaDoor
