/- The disk of the law's three names: written, laid behind, taken away, synced, read. Conditions: few calls, short texts; the disk's blocks lie from block B on. -/
import Derived.Test.YteddkcpjnmmohaaDoorDiskArgs
import Derived.Test.YteddkcpjnmmohaaDoorDiskDump
import Derived.Test.YteddkcpjnmmohaaDoorDiskFirst
namespace Go.Proofs.YteddkcpjnmmohaaDoor
open Go.RowKit Go.Maps

def nm : Nat → ByteArray | 0 => ⟨#[97]⟩ | 1 => ⟨#[98, 47, 99]⟩ | _ => ⟨#[100]⟩
def updB (hv : Nat → Bool) (k : Nat) (b : Bool) : Nat → Bool := fun j => if j = k then b else hv j
def updT (tx : Nat → ByteArray) (k : Nat) (s : ByteArray) : Nat → ByteArray := fun j => if j = k then s else tx j
def filesF (hv : Nat → Bool) (tx : Nat → ByteArray) : ByteArray → Option Value := fun key =>
  if key = nm 0 then optF (hv 0) (tx 0) else if key = nm 1 then optF (hv 1) (tx 1) else if key = nm 2 then optF (hv 2) (tx 2) else none
theorem nm01 : nm 0 ≠ nm 1 := by decide
theorem nm02 : nm 0 ≠ nm 2 := by decide
theorem nm12 : nm 1 ≠ nm 2 := by decide
theorem filesF_at (hv : Nat → Bool) (tx : Nat → ByteArray) (k : Nat) (hk : k < 3) : filesF hv tx (nm k) = optF (hv k) (tx k) := by
  match k, hk with
  | 0, _ => exact if_pos rfl
  | 1, _ => rw [filesF, if_neg (Ne.symm nm01), if_pos rfl]
  | 2, _ => rw [filesF, if_neg (Ne.symm nm02), if_neg (Ne.symm nm12), if_pos rfl]
theorem filesF_put (hv : Nat → Bool) (tx : Nat → ByteArray) (k : Nat) (hk : k < 3) (s : ByteArray) : putF (filesF hv tx) (nm k) (cont s true) = filesF (updB hv k true) (updT tx k s) := by
  funext key
  match k, hk with
  | 0, _ => unfold putF filesF updB updT; by_cases h0 : key = nm 0 <;> simp [h0, optF]
  | 1, _ => unfold putF filesF updB updT; by_cases h0 : key = nm 0 <;> by_cases h1 : key = nm 1 <;> simp_all [optF, nm01, Ne.symm nm01]
  | 2, _ => unfold putF filesF updB updT; by_cases h0 : key = nm 0 <;> by_cases h1 : key = nm 1 <;> by_cases h2 : key = nm 2 <;> simp_all [optF, nm01, nm02, nm12, Ne.symm nm01, Ne.symm nm02, Ne.symm nm12]
theorem filesF_del (hv : Nat → Bool) (tx : Nat → ByteArray) (k : Nat) (hk : k < 3) (s : ByteArray) : delF (filesF hv tx) (nm k) = filesF (updB hv k false) (updT tx k s) := by
  funext key
  match k, hk with
  | 0, _ => unfold delF filesF updB updT; by_cases h0 : key = nm 0 <;> simp [h0, optF]
  | 1, _ => unfold delF filesF updB updT; by_cases h0 : key = nm 0 <;> by_cases h1 : key = nm 1 <;> simp_all [optF, nm01, Ne.symm nm01]
  | 2, _ => unfold delF filesF updB updT; by_cases h0 : key = nm 0 <;> by_cases h1 : key = nm 1 <;> by_cases h2 : key = nm 2 <;> simp_all [optF, nm01, nm02, nm12, Ne.symm nm01, Ne.symm nm02, Ne.symm nm12]
theorem nm_ok (k : Nat) (hk : k < 3) : (nm k).size ≤ 1000 ∧ Pth.splitOK Pth.partOK (nm k).data.toList = true := by
  match k, hk with
  | 0, _ => exact ⟨by decide, by decide⟩
  | 1, _ => exact ⟨by decide, by decide⟩
  | 2, _ => exact ⟨by decide, by decide⟩
/-- The disk of three names after t rounds and o calls. -/
def DSt (W : World) (B sb cb t : Nat) (o : Int) (hv : Nat → Bool) (tx : Nat → ByteArray) : Prop := ∃ C, HistsOK C ∧ DiskAt W B sb B cb t t (filesF hv tx) C o 0 false
theorem DSt.drew {W : World} {B sb cb t : Nat} {o : Int} {hv : Nat → Bool} {tx : Nat → ByteArray} (h : DSt W B sb cb t o hv tx) : DSt W.drew B sb cb t o hv tx := let ⟨C, h1, h2⟩ := h; ⟨C, h1, DiskAt.drew h2⟩
theorem DSt.tri {W W' : World} {B sb cb t : Nat} {o : Int} {hv : Nat → Bool} {tx : Nat → ByteArray} (h : DSt W B sb cb t o hv tx) (hb : Below W.heap.size W W') : DSt W' B sb cb t o hv tx := let ⟨C, h1, h2⟩ := h; ⟨C, h1, h2.below hb⟩
theorem DiskAt.more {W : World} {B sb fb cb nf nc nf' nc' : Nat} {F C : ByteArray → Option Value} {ops armed : Int} {down : Bool} (h : DiskAt W B sb fb cb nf nc F C ops armed down) (h1 : nf ≤ nf') (h2 : nc ≤ nc') : DiskAt W B sb fb cb nf' nc' F C ops armed down :=
  ⟨h.row, h.files.mono h1, h.changed.mono h2, h.apart, h.high⟩
section
variable {W : World} {B sb cb t : Nat} {o : Int} {hv : Nat → Bool} {tx : Nat → ByteArray}
theorem st_write (h : DSt W B sb cb t o hv tx) (hBW : 3 < B) (ho : 0 ≤ o) (ho2 : o < 1000000) (ht : t < 1000) (m : Int) (hm : W.cell? ⟨3, 0, none⟩ = some (.int .i64 m)) (hsm : (tx 0).size ≤ 60000 ∧ (tx 1).size ≤ 60000 ∧ (tx 2).size ≤ 60000) (hg : ∀ k, hv k = false → tx k = ⟨#[]⟩) (k : Nat) (hk : k < 3) (s : ByteArray) (hs : s.size ≤ 100) :
    Calls Tryd.prog 9 #[.pointer (some ⟨sb, 0, none⟩), .string (nm k), .string s] W fun e w' => e = .returned .nilIface ∧ DSt w' B sb cb (t + 1) (o + 1) (updB hv k true) (updT tx k s) ∧ Tri sb B cb W w' := by
  obtain ⟨C, h1, h2⟩ := h
  have hz : (tx k).size ≤ 60000 := by match k, hk with | 0, _ => exact hsm.1 | 1, _ => exact hsm.2.1 | 2, _ => exact hsm.2.2
  obtain ⟨C', h3, h4⟩ := set_any h2 h1 hBW ho ho2 (by omega) (by omega) (nm k) (nm_ok k hk).1 (nm_ok k hk).2 m hm (tx k) (hv k) (by rw [filesF_at hv tx k hk]; exact optF_getD _ _ (hg k)) 0 s s rfl (by omega) (by omega)
  refine write_any sb (nm k) s .nilIface W (h4.mono ?_)
  rintro e w' ⟨he, hD, hT⟩
  rw [filesF_put hv tx k hk s] at hD
  exact ⟨he, ⟨C', h3, hD⟩, hT⟩
theorem st_append (h : DSt W B sb cb t o hv tx) (hBW : 3 < B) (ho : 0 ≤ o) (ho2 : o < 1000000) (ht : t < 1000) (m : Int) (hm : W.cell? ⟨3, 0, none⟩ = some (.int .i64 m)) (hsm : (tx 0).size ≤ 60000 ∧ (tx 1).size ≤ 60000 ∧ (tx 2).size ≤ 60000) (hg : ∀ k, hv k = false → tx k = ⟨#[]⟩) (k : Nat) (hk : k < 3) (s : ByteArray) (hs : s.size ≤ 100) :
    Calls Tryd.prog 10 #[.pointer (some ⟨sb, 0, none⟩), .string (nm k), .string s] W fun e w' => e = .returned .nilIface ∧ DSt w' B sb cb (t + 1) (o + 1) (updB hv k true) (updT tx k (tx k ++ s)) ∧ Tri sb B cb W w' := by
  obtain ⟨C, h1, h2⟩ := h
  have hz : (tx k).size ≤ 60000 := by match k, hk with | 0, _ => exact hsm.1 | 1, _ => exact hsm.2.1 | 2, _ => exact hsm.2.2
  obtain ⟨C', h3, h4⟩ := set_any h2 h1 hBW ho ho2 (by omega) (by omega) (nm k) (nm_ok k hk).1 (nm_ok k hk).2 m hm (tx k) (hv k) (by rw [filesF_at hv tx k hk]; exact optF_getD _ _ (hg k)) 1 s (tx k ++ s) rfl (by omega) (by rw [ByteArray.size_append]; omega)
  refine append_any sb (nm k) s .nilIface W (h4.mono ?_)
  rintro e w' ⟨he, hD, hT⟩
  rw [filesF_put hv tx k hk (tx k ++ s)] at hD
  exact ⟨he, ⟨C', h3, hD⟩, hT⟩
theorem st_remove (h : DSt W B sb cb t o hv tx) (hBW : 3 < B) (ho : 0 ≤ o) (ho2 : o < 1000000) (ht : t < 1000) (m : Int) (hm : W.cell? ⟨3, 0, none⟩ = some (.int .i64 m)) (hsm : (tx 0).size ≤ 60000 ∧ (tx 1).size ≤ 60000 ∧ (tx 2).size ≤ 60000) (k : Nat) (hk : k < 3) :
    Calls Tryd.prog 11 #[.pointer (some ⟨sb, 0, none⟩), .string (nm k)] W fun e w' => e = .returned .nilIface ∧ DSt w' B sb cb (t + 1) (o + 1) (updB hv k false) (updT tx k ⟨#[]⟩) ∧ Tri sb B cb W w' := by
  obtain ⟨C, h1, h2⟩ := h
  have hz : (tx k).size ≤ 60000 := by match k, hk with | 0, _ => exact hsm.1 | 1, _ => exact hsm.2.1 | 2, _ => exact hsm.2.2
  obtain ⟨C', h3, h4⟩ := drop_any h2 h1 hBW ho ho2 (by omega) (nm k) (nm_ok k hk).1 (nm_ok k hk).2 m hm (tx k) (hv k) (filesF_at hv tx k hk) (by omega)
  refine remove_any sb (nm k) .nilIface W (h4.mono ?_)
  rintro e w' ⟨he, hD, hT⟩
  rw [filesF_del hv tx k hk ⟨#[]⟩] at hD
  exact ⟨he, ⟨C', h3, hD.more (by omega) (by omega)⟩, hT⟩
theorem st_sync (h : DSt W B sb cb t o hv tx) (hBW : 3 < B) (ho : 0 ≤ o) (ho2 : o < 1000000) (m : Int) (hm : W.cell? ⟨3, 0, none⟩ = some (.int .i64 m)) (k : Nat) (hk : k < 3) :
    Calls Tryd.prog 12 #[.pointer (some ⟨sb, 0, none⟩), .string (nm k)] W fun e w' => e = .returned .nilIface ∧ DSt w' B sb cb (t + 1) (o + 1) hv tx ∧ Tri sb B cb W w' := by
  obtain ⟨C, h1, h2⟩ := h
  refine (sync_up h2 hBW ho ho2 (by decide) (by decide) (by decide) (nm k) (nm_ok k hk).1 (nm_ok k hk).2 m hm).mono ?_
  rintro e w' ⟨he, hD, hT⟩
  exact ⟨he, ⟨_, h1.del (nm k), hD.more (by omega) (by omega)⟩, hT⟩
theorem st_read (h : DSt W B sb cb t o hv tx) (ho : 0 ≤ o) (ho2 : o < 1000000) (hg : ∀ k, hv k = false → tx k = ⟨#[]⟩) (k : Nat) (hk : k < 3) :
    Calls Tryd.prog 15 #[.pointer (some ⟨sb, 0, none⟩), .string (nm k)] W fun e w' => e = .returned (.tuple #[.string (tx k), .bool (hv k), .nilIface]) ∧ DSt w' B sb cb t (o + 1) hv tx ∧ Tri sb B cb W w' := by
  obtain ⟨C, h1, h2⟩ := h
  refine (read_up h2 ho ho2 (by decide) (by decide) (by decide) (nm k) (nm_ok k hk).1 (tx k) (hv k) (by rw [filesF_at hv tx k hk]; exact optF_getD _ _ (hg k))).mono ?_
  rintro e w' ⟨he, hD, hT⟩
  exact ⟨he, ⟨C, h1, hD⟩, hT⟩
theorem st_ops (h : DSt W B sb cb t o hv tx) : Calls Tryd.prog 18 #[.pointer (some ⟨sb, 0, none⟩)] W fun e w' => e = .returned (.int .i64 o) ∧ w' = W := by
  obtain ⟨C, h1, h2⟩ := h
  exact ops_any h2
end
/-- The two rows that the law keeps. -/
def boolsR (hv : Nat → Bool) : Array Value := #[.bool (hv 0), .bool (hv 1), .bool (hv 2)]
def textsR (tx : Nat → ByteArray) : Array Value := #[.string (tx 0), .string (tx 1), .string (tx 2)]
theorem boolsR_at (hv : Nat → Bool) (k : Nat) (hk : k < 3) : (boolsR hv)[k]? = some (.bool (hv k)) := by
  match k, hk with
  | 0, _ => rfl
  | 1, _ => rfl
  | 2, _ => rfl
theorem textsR_at (tx : Nat → ByteArray) (k : Nat) (hk : k < 3) : (textsR tx)[k]? = some (.string (tx k)) := by
  match k, hk with
  | 0, _ => rfl
  | 1, _ => rfl
  | 2, _ => rfl
theorem boolsR_set (hv : Nat → Bool) (k : Nat) (hk : k < 3) (b : Bool) : (boolsR hv).setIfInBounds k (.bool b) = boolsR (updB hv k b) := by
  match k, hk with
  | 0, _ => rfl
  | 1, _ => rfl
  | 2, _ => rfl
theorem textsR_set (tx : Nat → ByteArray) (k : Nat) (hk : k < 3) (s : ByteArray) : (textsR tx).setIfInBounds k (.string s) = textsR (updT tx k s) := by
  match k, hk with
  | 0, _ => rfl
  | 1, _ => rfl
  | 2, _ => rfl
end Go.Proofs.YteddkcpjnmmohaaDoor
