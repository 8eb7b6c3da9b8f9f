/- Plain mathematics of path.Clean: what its rounds come to, part by part. Conditions: none; nothing of the program is named. -/
import Derived.Test.YteokigpeaggemaaDoorPlain
import Derived.Lib.LastIndexByte
namespace Go.Proofs.YteokigpeaggemaaDoor
open Go
namespace Cln

def cutN (l : List UInt8) : Nat := (Lib.lastIndexByte ⟨l.toArray⟩ 47).toNat
/-- One part more. -/
def step (acc p : List UInt8) : Option (List UInt8) :=
  if p = [] ∨ p = [46] then some acc
  else if p = [46, 46] then (if acc = [] then none else some (acc.take (cutN acc)))
  else if Pth.partOK p then some (if acc = [] then p else acc ++ [47] ++ p) else none
def run (ps : List (List UInt8)) : Option (List UInt8) := ps.foldl (fun o p => o.bind fun acc => step acc p) (some [])
/-- The cleaned text, if there is one. -/
def clean (l : List UInt8) : Option (List UInt8) := (run (Pth.parts l)).bind fun acc => if acc.length ≤ 200 then some acc else none

theorem run_snoc (ps : List (List UInt8)) (p : List UInt8) : run (ps ++ [p]) = (run ps).bind fun acc => step acc p := by
  unfold run; rw [List.foldl_append]; rfl
theorem foldl_none (qs : List (List UInt8)) : qs.foldl (fun o p => o.bind fun acc => step acc p) none = none := by
  induction qs with
  | nil => rfl
  | cons q qs ih => exact ih
theorem run_none {ps : List (List UInt8)} (qs : List (List UInt8)) (h : run ps = none) : run (ps ++ qs) = none := by
  unfold run at *
  rw [List.foldl_append, h]
  exact foldl_none qs
theorem clean_none {l : List UInt8} {ps : List (List UInt8)} (hp : ps <+: Pth.parts l) (h : run ps = none) : clean l = none := by
  obtain ⟨qs, e⟩ := hp
  unfold clean
  rw [← e, run_none qs h]; rfl

/-- How many bytes of the text these parts have taken. -/
def taken (ps : List (List UInt8)) : Nat := (ps.map fun p => p.length + 1).sum
theorem taken_snoc (ps : List (List UInt8)) (p : List UInt8) : taken (ps ++ [p]) = taken ps + (p.length + 1) := by
  simp [taken]
theorem taken_parts (l : List UInt8) : taken (Pth.parts l) = l.length + 1 := by
  induction l with
  | nil => rfl
  | cons b l ih =>
    unfold Pth.parts
    split
    · simp [taken] at *; omega
    · split
      · rename_i e; exact absurd e (Pth.parts_ne l)
      · rename_i e; rw [e] at ih; simp [taken] at *; omega
theorem taken_prefix {ps qs : List (List UInt8)} (h : ps <+: qs) : taken ps ≤ taken qs := by
  obtain ⟨r, rfl⟩ := h
  simp [taken]
theorem cutN_le (l : List UInt8) : cutN l ≤ l.length := by
  unfold cutN
  rcases Lib.lastIndexByte_spec ⟨l.toArray⟩ 47 with ⟨h, _⟩ | ⟨i, hi, h, _⟩
  · rw [h]; simp
  · rw [h]; simp [ByteArray.size] at hi; simp; omega
theorem step_le {acc p acc' : List UInt8} (h : step acc p = some acc') : acc'.length ≤ acc.length + (p.length + 1) := by
  unfold step at h
  split at h
  · cases h; omega
  · split at h
    · split at h
      · cases h
      · cases h; rw [List.length_take]; omega
    · split at h
      · cases h
        split
        · omega
        · simp
      · cases h
theorem foldl_le (ps : List (List UInt8)) : ∀ acc0 acc, ps.foldl (fun o p => o.bind fun acc => step acc p) (some acc0) = some acc → acc.length ≤ acc0.length + taken ps := by
  induction ps with
  | nil => intro acc0 acc h; cases h; simp [taken]
  | cons p ps ih =>
    intro acc0 acc h
    rw [List.foldl_cons] at h
    cases hs : step acc0 p with
    | none => rw [Option.bind_some, hs, foldl_none] at h; cases h
    | some a =>
      rw [Option.bind_some, hs] at h
      have h1 := ih a acc h
      have h2 := step_le hs
      simp [taken] at *
      omega
theorem run_le {ps : List (List UInt8)} {acc : List UInt8} (h : run ps = some acc) : acc.length ≤ taken ps := by
  have := foldl_le ps [] acc h
  simpa using this

end Cln
end Go.Proofs.YteokigpeaggemaaDoor
