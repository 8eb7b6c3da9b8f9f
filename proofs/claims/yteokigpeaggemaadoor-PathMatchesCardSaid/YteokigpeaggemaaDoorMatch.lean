/- What path.matchPart, matchParts and Match answer. Conditions: texts of at most 200 bytes where they are parts; internal/bytealg.MaxLen holds some number, smithy/api.ErrPath an error. -/
import Derived.Test.YteokigpeaggemaaDoorMatchRow
import Derived.WalkSmall
import Derived.RangeFuncBox
import Derived.StillTailTactics
namespace Go.Proofs.YteokigpeaggemaaDoor
open Go.RowKit

def byteAt (l : List UInt8) (i : Nat) : UInt8 := l[i]?.getD 0
theorem byteAt_get (s : ByteArray) (i : Nat) (h : i < s.size) : s[i] = byteAt s.data.toList i := by
  unfold byteAt
  rw [List.getElem?_eq_getElem (by simpa using h)]
  rfl
def partB (a b : List UInt8) : Bool := Row.rowB a.length b.length (fun i => byteAt a i == 42) (fun i j => byteAt a i == byteAt b j)

theorem eq_bytes (a b : UInt8) : (((a.toNat : Int)) == (b.toNat : Int)) = (a == b) := by
  rw [Bool.eq_iff_iff, beq_iff_eq, beq_iff_eq, ← UInt8.toNat_inj]; omega
theorem eq_star (a : UInt8) : ((a.toNat : Int) == 42) = (a == 42) := eq_bytes a 42

set_option maxHeartbeats 400000 in
theorem part1_any (s : ByteArray) (pa : Addr) (i : Nat) (n₀ : Nat) (W : World) (_hs : s.size < 4294967281) (hi : i < s.size) (hc : W.cell? pa = some (.string s)) :
    Calls Tryd.prog 86 #[.int .i64 (i : Int), .pointer (some pa)] W (saysB n₀ W (byteAt s.data.toList i == 42)) := by
  rw [← byteAt_get s i hi]
  go_enter Tryd.func86, Tryd.ntmps86
  go_wp2
  go_ret
  exact ⟨ret_bool (eq_star _), Below.refl _ _⟩
set_option maxHeartbeats 400000 in
theorem part2_any (s t : ByteArray) (pa pb : Addr) (i j : Nat) (n₀ : Nat) (W : World) (_hs : s.size < 4294967281) (_ht : t.size < 4294967281) (hi : i < s.size) (hj : j < t.size) (hc : W.cell? pa = some (.string s)) (hd : W.cell? pb = some (.string t)) :
    Calls Tryd.prog 87 #[.int .i64 (i : Int), .int .i64 (j : Int), .pointer (some pa), .pointer (some pb)] W (saysB n₀ W (byteAt s.data.toList i == byteAt t.data.toList j)) := by
  rw [← byteAt_get s i hi, ← byteAt_get t j hj]
  go_enter Tryd.func87, Tryd.ntmps87
  go_wp2_with fail
  go_quiet (fail)
  go_wp2
  go_ret
  exact ⟨ret_bool (eq_bytes _ _), below_drewN (Below.refl _ _) _⟩

set_option maxHeartbeats 400000 in
theorem matchPart_any (s t : ByteArray) (W : World) (hs : s.size < 4294967281) (ht : t.size < 4294967281) :
    Calls Tryd.prog 72 #[.string s, .string t] W (saysB W.heap.size W (partB s.data.toList t.data.toList)) := by
  go_enter Tryd.func72, Tryd.ntmps72
  go_wp2_with fail
  have c1 := ((Boxed.new W 9 (.string s)).alloc (.cells #[.string t] 9)).cell
  have c2 := (Boxed.new (W.alloc (.cells #[.string s] 9)) 9 (.string t)).cell
  rw [World.size_alloc] at c2
  have e : Row.rowB s.size t.size (fun i => byteAt s.data.toList i == 42) (fun i j => byteAt s.data.toList i == byteAt t.data.toList j) = partB s.data.toList t.data.toList := by
    unfold partB; rw [← Lib.size_eq, ← Lib.size_eq]
  refine (matchRow_any 86 87 (enters_of Tryd.func86 (by kernel_rfl) rfl) (enters_of Tryd.func87 (by kernel_rfl) rfl)
    ⟨W.heap.size, 0, none⟩ ⟨W.heap.size + 1, 0, none⟩ (W.heap.size + 2) s.size t.size (fun i => byteAt s.data.toList i == 42) (fun i j => byteAt s.data.toList i == byteAt t.data.toList j) _ (by omega) (by omega) ?hS ?hF).mono ?_
  case hS => exact fun W' hb i hi => part1_any s _ i _ W' hs hi ((hb.cell (p := ⟨W.heap.size, 0, none⟩) (by simp)).trans c1)
  case hF => exact fun W' hb i j hi hj => part2_any s t _ _ i j _ W' hs ht hi hj ((hb.cell (p := ⟨W.heap.size, 0, none⟩) (by simp)).trans c1) ((hb.cell (p := ⟨W.heap.size + 1, 0, none⟩) (by simp)).trans c2)
  rintro e1 w' ⟨rfl, hb⟩
  rw [e]
  clear c1 c2 e
  go_wp2
  go_ret
  exact ⟨rfl, (((Below.refl _ _).alloc (Nat.le_refl _) _).alloc (by simp) _).trans (hb.mono (by omega))⟩

/-- A variable holds a slice that starts at the head of block b and has these texts. -/
def Held (W : World) (pa : Addr) (b : Nat) (ps : List (List UInt8)) : Prop :=
  W.cell? pa = some (.slice (some ⟨b, 0, none⟩) ps.length ps.length) ∧ ∀ (j : Nat) (h : j < ps.length), W.cell? ⟨b, j, none⟩ = some (.string ⟨ps[j].toArray⟩)
def listAt (ps : List (List UInt8)) (i : Nat) : List UInt8 := ps[i]?.getD []
theorem listAt_get {ps : List (List UInt8)} {i : Nat} (h : i < ps.length) : ps[i] = listAt ps i := by
  unfold listAt; rw [List.getElem?_eq_getElem h]; rfl
def partsB (a b : List (List UInt8)) : Bool := Row.rowB a.length b.length (fun i => listAt a i == [42, 42]) (fun i j => partB (listAt a i) (listAt b j))

set_option maxHeartbeats 400000 in
theorem parts1_any (ps : List (List UInt8)) (pa : Addr) (b : Nat) (i : Nat) (n₀ : Nat) (W : World) (_hn : ps.length < 4294967281) (hi : i < ps.length) (hh : Held W pa b ps) :
    Calls Tryd.prog 70 #[.int .i64 (i : Int), .pointer (some pa)] W (saysB n₀ W (listAt ps i == [42, 42])) := by
  have hc := hh.1
  have hd := hh.2 i hi
  clear hh
  rw [← listAt_get hi]
  go_enter Tryd.func70, Tryd.ntmps70
  go_wp2
  go_ret
  exact ⟨rfl, Below.refl _ _⟩
set_option maxRecDepth 100000 in
set_option maxHeartbeats 400000 in
theorem parts2_any (ps qs : List (List UInt8)) (pa pb : Addr) (b c : Nat) (i j : Nat) (n₀ : Nat) (W : World) (_hn : ps.length < 4294967281) (_hm : qs.length < 4294967281) (hi : i < ps.length) (hj : j < qs.length) (hh : Held W pa b ps) (hk : Held W pb c qs)
    (h0 : n₀ ≤ W.heap.size) (hl : ps[i].length < 4294967281) (hr : qs[j].length < 4294967281) :
    Calls Tryd.prog 71 #[.int .i64 (i : Int), .int .i64 (j : Int), .pointer (some pa), .pointer (some pb)] W (saysB n₀ W (partB (listAt ps i) (listAt qs j))) := by
  have hc := hh.1
  have hd := hh.2 i hi
  have hc2 := hk.1
  have hd2 := hk.2 j hj
  clear hh hk
  rw [← listAt_get hi, ← listAt_get hj]
  go_enter Tryd.func71, Tryd.ntmps71
  go_wp2_with fail
  go_still_tail 8, (by kernel_rfl)
  change wpList _ _ _ _ _ W.drew
  have hb0 : Below n₀ W W.drew := (Below.refl _ _).drew
  have hz : n₀ ≤ W.drew.heap.size := h0
  clear hc hd hc2 hd2
  generalize W.drew = W2 at hb0 hz ⊢
  go_wp2_with (go_at_call 72; refine (matchPart_any _ _ _ (by simpa [ByteArray.size] using hl) (by simpa [ByteArray.size] using hr)).mono ?_; rintro e w1 ⟨rfl, hb1⟩; have hb2 := hb0.trans (hb1.mono hz))
  go_ret
  exact ⟨rfl, by assumption⟩

/-- What path.matchParts wants of its two slices. -/
structure TwoHeld (W : World) (a b : Nat) (ps qs : List (List UInt8)) : Prop where
  left : ∀ (j : Nat) (h : j < ps.length), W.cell? ⟨a, j, none⟩ = some (.string ⟨ps[j].toArray⟩)
  right : ∀ (j : Nat) (h : j < qs.length), W.cell? ⟨b, j, none⟩ = some (.string ⟨qs[j].toArray⟩)
  low : a < W.heap.size ∧ b < W.heap.size

set_option maxHeartbeats 400000 in
theorem matchParts_any (ps qs : List (List UInt8)) (a b : Nat) (W : World) (hn : ps.length < 4294967281) (hm : qs.length < 4294967281) (hl : ∀ p ∈ ps, p.length < 4294967281) (hr : ∀ p ∈ qs, p.length < 4294967281) (hT : TwoHeld W a b ps qs) :
    Calls Tryd.prog 47 #[.slice (some ⟨a, 0, none⟩) ps.length ps.length, .slice (some ⟨b, 0, none⟩) qs.length qs.length] W (saysB W.heap.size W (partsB ps qs)) := by
  have Hl := Lib.hid hl
  have Hr := Lib.hid hr
  clear hl hr
  have c1 := Lib.hid ((Boxed.new W 22 (.slice (some ⟨a, 0, none⟩) ps.length ps.length)).alloc (.cells #[.slice (some ⟨b, 0, none⟩) qs.length qs.length] 22)).cell
  have c2 := (Boxed.new (W.alloc (.cells #[.slice (some ⟨a, 0, none⟩) ps.length ps.length] 22)) 22 (.slice (some ⟨b, 0, none⟩) qs.length qs.length)).cell
  rw [World.size_alloc] at c2
  have C2 := Lib.hid c2
  clear c2
  have hB : Below W.heap.size W ((W.alloc (.cells #[.slice (some ⟨a, 0, none⟩) ps.length ps.length] 22)).alloc (.cells #[.slice (some ⟨b, 0, none⟩) qs.length qs.length] 22)) := ((Below.refl _ _).alloc (Nat.le_refl _) _).alloc (by simp) _
  have la := hT.low.1
  have lb := hT.low.2
  go_enter Tryd.func47, Tryd.ntmps47
  go_wp2_with fail
  refine (matchRow_any 70 71 (enters_of Tryd.func70 (by kernel_rfl) rfl) (enters_of Tryd.func71 (by kernel_rfl) rfl)
    ⟨W.heap.size, 0, none⟩ ⟨W.heap.size + 1, 0, none⟩ (W.heap.size + 2) ps.length qs.length (fun i => listAt ps i == [42, 42]) (fun i j => partB (listAt ps i) (listAt qs j)) _ (by omega) (by omega) ?hS ?hF).mono ?_
  case hS =>
    intro W' hb i hi
    exact parts1_any ps _ a i _ W' hn hi ⟨(hb.cell (p := ⟨W.heap.size, 0, none⟩) (by simp)).trans c1.out, fun j hj => (hb.cell (p := ⟨a, j, none⟩) (by simp; omega)).trans ((hB.cell (p := ⟨a, j, none⟩) la).trans (hT.left j hj))⟩
  case hF =>
    intro W' hb i j hi hj
    have hz := hb.size
    exact parts2_any ps qs _ _ a b i j _ W' hn hm hi hj ⟨(hb.cell (p := ⟨W.heap.size, 0, none⟩) (by simp)).trans c1.out, fun j hj => (hb.cell (p := ⟨a, j, none⟩) (by simp; omega)).trans ((hB.cell (p := ⟨a, j, none⟩) la).trans (hT.left j hj))⟩
      ⟨(hb.cell (p := ⟨W.heap.size + 1, 0, none⟩) (by simp)).trans C2.out, fun j hj => (hb.cell (p := ⟨b, j, none⟩) (by simp; omega)).trans ((hB.cell (p := ⟨b, j, none⟩) lb).trans (hT.right j hj))⟩
      (by simp at hz; omega) (Hl.out _ (List.getElem_mem hi)) (Hr.out _ (List.getElem_mem hj))
  rintro e1 w' ⟨rfl, hb⟩
  have HB := Lib.hid (hB.trans (hb.mono (by omega)))
  clear hB hb
  go_wp2
  go_ret
  exact ⟨rfl, HB.out⟩

end Go.Proofs.YteokigpeaggemaaDoor
