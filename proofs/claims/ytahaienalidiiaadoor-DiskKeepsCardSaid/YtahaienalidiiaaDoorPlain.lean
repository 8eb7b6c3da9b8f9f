/- Plain mathematics of paths and patterns, on lists of bytes: what a part is, how a text is split at its strokes, what is left of it when it is cleaned, and when a row of things with stars fits another row. Conditions: none; nothing of the program is named. -/
import Derived.Lib.Split
import Derived.Lib.SplitLaws
import Derived.Lib.IndexMore
namespace Go.Proofs.YtahaienalidiiaaDoor
open Go
namespace Pth

def byteOK (b : UInt8) : Bool :=
  (48 ≤ b && b ≤ 57) || (65 ≤ b && b ≤ 90) || (97 ≤ b && b ≤ 122) || decide (0 ≤ Lib.indexByte [33, 35, 37, 43, 44, 45, 46, 61, 64, 95, 126] b)
def patOK (s : List UInt8) : Bool :=
  !(s == [] || s == [46] || s == [46, 46]) && s.all (fun b => b == 42 || byteOK b) && (s == [42, 42] || !Lib.contains s [42, 42])
def partOK (s : List UInt8) : Bool := !decide (0 ≤ Lib.indexByte s 42) && patOK s

/-- A text between its strokes. -/
def parts : List UInt8 → List (List UInt8)
  | [] => [[]]
  | b :: l => if b = 47 then [] :: parts l else match parts l with
    | [] => [[b]]
    | p :: ps => (b :: p) :: ps
theorem parts_ne (l : List UInt8) : parts l ≠ [] := by
  cases l with
  | nil => simp [parts]
  | cons b l => unfold parts; split <;> (try split) <;> simp

/-- Is a text of at most 200 bytes, and is each part allowed? -/
def splitOK (ok : List UInt8 → Bool) (s : List UInt8) : Bool := decide (s.length ≤ 200) && (parts s).all ok

theorem index_one (l : List UInt8) (c : UInt8) : Lib.index l [c] = Lib.indexByte l c := by
  induction l with
  | nil => rfl
  | cons b l ih =>
    unfold Lib.index Lib.indexByte
    rw [ih]
    by_cases h : b = c
    · subst h; simp [List.isPrefixOf]
    · have h' : ¬ c = b := fun e => h e.symm
      simp [List.isPrefixOf, h, h']

theorem parts_miss (l : List UInt8) (h : Lib.indexByte l 47 = -1) : parts l = [l] := by
  induction l with
  | nil => rfl
  | cons b l ih =>
    unfold Lib.indexByte at h
    have hb : b ≠ 47 := by
      intro e; subst e; simp at h
    have hl : Lib.indexByte l 47 = -1 := by
      have hg := Lib.indexByte_ge l 47
      simp [hb] at h
      by_cases e : Lib.indexByte l 47 = -1
      · exact e
      · have := h e; omega
    unfold parts
    rw [if_neg hb, ih hl]

theorem parts_hit (l : List UInt8) (i : Nat) (h : Lib.indexByte l 47 = i) : parts l = l.take i :: parts (l.drop (i + 1)) := by
  induction l generalizing i with
  | nil => simp [Lib.indexByte] at h
  | cons b l ih =>
    unfold Lib.indexByte at h
    by_cases hb : b = 47
    · subst hb
      simp at h
      obtain rfl : i = 0 := by omega
      simp [parts]
    · have hg := Lib.indexByte_ge l 47
      simp [hb] at h
      by_cases e : Lib.indexByte l 47 = -1
      · simp [e] at h
      · simp [e] at h
        obtain ⟨j, hj⟩ : ∃ j : Nat, Lib.indexByte l 47 = j := ⟨(Lib.indexByte l 47).toNat, by omega⟩
        obtain rfl : i = j + 1 := by omega
        rw [show parts (b :: l) = _ from by rw [parts, if_neg hb, ih j hj]]
        simp

theorem index_slash (l : List UInt8) : Lib.index l [47] = Lib.indexByte l 47 := index_one l 47
theorem hit_lt (l : List UInt8) (i : Nat) (h : Lib.indexByte l 47 = i) : i < l.length := by
  have e := index_slash l
  have hr := Lib.index_room l [47] (by omega)
  simp only [List.length_cons, List.length_nil] at hr
  omega
theorem splitK_parts (k : Nat) : ∀ l : List UInt8, l.length ≤ k → Lib.splitK [47] 0 (Lib.count l [47]) l = parts l := by
  induction k with
  | zero =>
    intro l hl
    obtain rfl : l = [] := List.eq_nil_of_length_eq_zero (by omega)
    rfl
  | succ k ih =>
    intro l hl
    by_cases h : Lib.indexByte l 47 = -1
    · rw [parts_miss l h, Lib.count_miss (by rw [index_slash]; exact h)]
      rfl
    · have hg := Lib.indexByte_ge l 47
      obtain ⟨i, hi⟩ : ∃ i : Nat, Lib.indexByte l 47 = i := ⟨(Lib.indexByte l 47).toNat, by omega⟩
      have hlt := hit_lt l i hi
      have hs : Lib.index l [47] = i := by rw [index_slash]; exact hi
      rw [parts_hit l i hi, ← ih (l.drop (i + 1)) (by simp; omega), Lib.count_hit (by simp) hs, Nat.add_comm 1]
      rw [Lib.splitK, if_neg (by rw [hs, beq_iff_eq]; omega), hs]
      simp

/-- What strings.Split's contract says of a text and a stroke. -/
theorem splitB_parts (s : ByteArray) : Lib.splitB ⟨#[47]⟩ 0 (Lib.countB s ⟨#[47]⟩) s = (parts s.data.toList).map (fun l => ⟨l.toArray⟩) := by
  have h := Lib.splitB_data ⟨#[47]⟩ 0 (Lib.countB s ⟨#[47]⟩) s
  rw [show Lib.splitK (⟨#[47]⟩ : ByteArray).data.toList 0 (Lib.countB s ⟨#[47]⟩) s.data.toList = parts s.data.toList from splitK_parts _ _ (Nat.le_refl _)] at h
  rw [← h, List.map_map]
  have e : ((fun l : List UInt8 => (⟨l.toArray⟩ : ByteArray)) ∘ fun x : ByteArray => x.data.toList) = id := funext fun x => Lib.mk_data x
  rw [e, List.map_id]
theorem countB_parts (s : ByteArray) : Lib.countB s ⟨#[47]⟩ + 1 = (parts s.data.toList).length := by
  have h := Lib.splitB_all ⟨#[47]⟩ (by decide) 0 _ s rfl
  rw [splitB_parts] at h
  simpa using h.symm
/-- No part is longer than the text. -/
theorem parts_le (l p : List UInt8) (h : p ∈ parts l) : p.length ≤ l.length := by
  induction l generalizing p with
  | nil => simp [parts] at h; subst h; simp
  | cons b l ih =>
    unfold parts at h
    split at h
    · rcases List.mem_cons.1 h with rfl | h
      · simp
      · have := ih p h; simp; omega
    · split at h
      · rename_i e; exact absurd e (parts_ne l)
      · rename_i q qs e
        rcases List.mem_cons.1 h with rfl | h
        · have := ih q (by rw [e]; simp); simp; omega
        · have := ih p (by rw [e]; simp [h]); simp; omega
theorem parts_count (l : List UInt8) : (parts l).length ≤ l.length + 1 := by
  induction l with
  | nil => simp [parts]
  | cons b l ih =>
    unfold parts
    split
    · simp; omega
    · split
      · simp
      · rename_i e; rw [e] at ih; simp at *; omega

end Pth
end Go.Proofs.YtahaienalidiiaaDoor
