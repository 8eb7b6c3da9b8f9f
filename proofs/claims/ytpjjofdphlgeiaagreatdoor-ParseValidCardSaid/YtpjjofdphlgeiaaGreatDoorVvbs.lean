/- Parts of the proof, together. What every call of the parser answers, for whatever fuel. Conditions: texts of tokens are short. -/
import Derived.Test.YtpjjofdphlgeiaaGreatDoorVvbj
import Derived.Test.YtpjjofdphlgeiaaGreatDoorVvbk
import Derived.Test.YtpjjofdphlgeiaaGreatDoorVvbl
import Derived.Test.YtpjjofdphlgeiaaGreatDoorVvbn
import Derived.Test.YtpjjofdphlgeiaaGreatDoorVvbo
import Derived.Test.YtpjjofdphlgeiaaGreatDoorVvbq
import Derived.Test.YtpjjofdphlgeiaaGreatDoorVvbr
namespace Go.Proofs.YtpjjofdphlgeiaaGreatDoor
open Go.RowKit
open Lx Ax Px

section
variable {A : Nat → Addr} {B pb : Nat} {ts : List Tok} {tv : Value}
theorem does_zero (f : FuncId) (args : Array Value) (q : Q) : Does A B pb ts tv f args q 0 := fun _ _ _ _ _ _ hr hnr => absurd hr.symm hnr
theorem doesR_zero (f : FuncId) (args : Array Value) (q : Q) : DoesR A B pb ts tv f args q 0 := fun _ _ _ _ _ _ hr hnr => absurd hr.symm hnr
theorem doesL_zero (f : FuncId) (args : Array Value) (q : Q) : DoesL A B pb ts tv f args q 0 := fun _ _ _ _ _ _ hr hnr => absurd hr.symm hnr
theorem all_zero : All A B pb ts tv 0 := ⟨does_zero _ _ _, does_zero _ _ _, does_zero _ _ _, does_zero _ _ _, does_zero _ _ _, does_zero _ _ _, does_zero _ _ _, does_zero _ _ _, does_zero _ _ _, does_zero _ _ _, does_zero _ _ _, does_zero _ _ _, doesR_zero _ _ _, doesR_zero _ _ _, does_zero _ _ _, does_zero _ _ _, fun _ => does_zero _ _ _, fun _ => does_zero _ _ _, fun _ => does_zero _ _ _, does_zero _ _ _, does_zero _ _ _,
  fun _ => does_zero _ _ _, fun _ => does_zero _ _ _, fun _ => does_zero _ _ _, does_zero _ _ _, does_zero _ _ _, does_zero _ _ _, does_zero _ _ _, does_zero _ _ _, doesL_zero _ _ _, does_zero _ _ _, does_zero _ _ _, does_zero _ _ _, does_zero _ _ _, doesR_zero _ _ _, does_zero _ _ _, does_zero _ _ _, fun _ _ => does_zero _ _ _, fun _ => does_zero _ _ _, fun _ => does_zero _ _ _, fun _ => does_zero _ _ _, fun _ => doesL_zero _ _ _⟩
theorem p_all_any (hts : ∀ t ∈ ts, (txt t.text).size ≤ 1000000) (n : Nat) : All A B pb ts tv n := by
  induction n using Nat.strongRecOn with
  | _ n ih =>
    rcases n with _ | m
    · exact all_zero
    · have H : ∀ j, j ≤ m → All A B pb ts tv j := fun j hj => ih j (by omega)
      have Hm := H m (Nat.le_refl _)
      exact ⟨test_step Hm, or_step H, and_step H, sum_step H, product_step H, not_step Hm, ahead0_step Hm, ahead1_step Hm, compare_step Hm, unary_step Hm, primary_step H, atom_step hts Hm, tests_step H, orNone_step Hm, tuple_step Hm, round_step Hm, fun p => statement_step p Hm, fun p => line_step p Hm, fun p => simple_step p Hm, assignment_step Hm, def_step hts H,
        fun z => call_step hts z H, fun z => dot_step z hts, fun z => index_step z Hm, bound_step 0 _ rfl Hm, bound_step 1 _ rfl Hm, list_step Hm, dict_step H, texts_step hts, rounds_step Hm, target_step Hm, load_step hts H, loaded_step hts, result_step Hm, trow_step H, targets_step Hm, round1_step Hm, fun pos p => cond_step pos p Hm, fun p => elif_step p Hm, fun p => loop_step p Hm, fun p => block_step p Hm, fun p => lines_step p H⟩
theorem file_any (hts : ∀ t ∈ ts, (txt t.text).size ≤ 1000000) (n : Nat) : DoesN A B pb ts tv 19 #[ptr pb] .file n := by
  rcases n with _ | m
  · exact fun _ _ _ _ _ _ hr hnr => absurd hr.symm hnr
  · exact file_step fun j _ => p_all_any hts j
theorem alone_any (hts : ∀ t ∈ ts, (txt t.text).size ≤ 1000000) (n : Nat) : DoesN A B pb ts tv 26 #[ptr pb] .alone n := by
  rcases n with _ | m
  · exact fun _ _ _ _ _ _ hr hnr => absurd hr.symm hnr
  · exact alone_step (p_all_any hts m)
end
end Go.Proofs.YtpjjofdphlgeiaaGreatDoor
