/- Words of 32 bits and what the walks' numbers come to; a word turned, by Go's library and by the reference. No conditions. -/
import Derived.Test.YtffmldplchlnpaaDoorProg
import Derived.WalkKit
import Derived.RowKitTokens
import Derived.Laws.MathBits
namespace Go.Proofs.YtffmldplchlnpaaDoor
open Go.RowKit

abbrev W32 := BitVec 32
/-- A word's number. -/
def wv (x : W32) : Int := (x.toNat : Int)
def rotr (x : W32) (r : Nat) : W32 := (x >>> r) ||| (x <<< (32 - r))

theorem u_ofNat (n : Nat) : (BitVec.ofInt 32 (n : Int)) = BitVec.ofNat 32 n := by
  apply BitVec.eq_of_toNat_eq
  simp
theorem u_back (x : W32) : BitVec.ofInt 32 (wv x) = x := by rw [wv, u_ofNat]; simp
theorem wrap_nat (x : W32) : IntKind.u32.wrap (x.toNat : Int) = wv x := by rw [IntKind.wrap_u32', wv]; omega
theorem wv_lo (x : W32) : 0 ≤ wv x := by unfold wv; omega
theorem wv_hi (x : W32) : wv x < 4294967296 := by have := x.isLt; unfold wv; omega
theorem wv_mod (x : W32) : wv x % 4294967296 = wv x := by have := x.isLt; unfold wv; omega
theorem w_xor (a b : W32) : bits .xor .u32 (wv a) (wv b) = wv (a ^^^ b) := by
  show IntKind.u32.wrap ((BitVec.ofInt 32 (wv a) ^^^ BitVec.ofInt 32 (wv b)).toNat : Int) = _
  rw [u_back, u_back, wrap_nat]
theorem w_or (a b : W32) : bits .or .u32 (wv a) (wv b) = wv (a ||| b) := by
  show IntKind.u32.wrap ((BitVec.ofInt 32 (wv a) ||| BitVec.ofInt 32 (wv b)).toNat : Int) = _
  rw [u_back, u_back, wrap_nat]
theorem w_and (a b : W32) : bits .and .u32 (wv a) (wv b) = wv (a &&& b) := by
  show IntKind.u32.wrap ((BitVec.ofInt 32 (wv a) &&& BitVec.ofInt 32 (wv b)).toNat : Int) = _
  rw [u_back, u_back, wrap_nat]
theorem w_not' (a : W32) : bits .xor .u32 4294967295 (wv a) = wv (~~~ a) := by
  show IntKind.u32.wrap ((BitVec.ofInt 32 4294967295 ^^^ BitVec.ofInt 32 (wv a)).toNat : Int) = _
  rw [u_back, wrap_nat, show BitVec.ofInt 32 4294967295 = BitVec.allOnes 32 from by decide, BitVec.allOnes_xor]
theorem w_not (a : W32) : bits .xor .u32 IntKind.u32.max (wv a) = wv (~~~ a) := w_not' a
theorem w_add' (a b : W32) : (wv a + wv b) % 4294967296 = wv (a + b) := by unfold wv; rw [BitVec.toNat_add]; omega
theorem w_add (a b : W32) : IntKind.u32.wrap (wv a + wv b) = wv (a + b) := by rw [IntKind.wrap_u32', w_add']
theorem w_shr (a : W32) (n : Nat) : wv a / 2 ^ n = wv (a >>> n) := by
  unfold wv
  rw [BitVec.toNat_ushiftRight, Nat.shiftRight_eq_div_pow]
  simp
theorem w_shl' (a : W32) (n : Nat) : wv a * 2 ^ n % 4294967296 = wv (a <<< n) := by
  unfold wv
  rw [BitVec.toNat_shiftLeft, Nat.shiftLeft_eq]
  simp
theorem w_shl (a : W32) (n : Nat) : IntKind.u32.wrap (wv a * 2 ^ n) = wv (a <<< n) := by rw [IntKind.wrap_u32', w_shl']
theorem w_add3 (a b c : W32) : (wv a + wv b + wv c) % 4294967296 = wv (a + b + c) := by
  rw [← w_add', ← w_add']
  omega
theorem w_add4 (a b c d : W32) : (wv a + wv b + wv c + wv d) % 4294967296 = wv (a + b + c + d) := by
  rw [← w_add', ← w_add', ← w_add']
  omega
theorem w_add5 (a b c d e : W32) : (wv a + wv b + wv c + wv d + wv e) % 4294967296 = wv (a + b + c + d + e) := by
  rw [← w_add', ← w_add', ← w_add', ← w_add']
  omega
/-- How far a word is turned left, of a number that turns it right. -/
theorem left_of (r : Nat) (h1 : 1 ≤ r) (h2 : r ≤ 31) : bits .and .u64 (IntKind.u64.wrap (-(r : Int))) 31 = ((32 - r : Nat) : Int) := by
  have all : ∀ r : Fin 32, 1 ≤ r.1 → bits .and .u64 (IntKind.u64.wrap (-(r.1 : Int))) 31 = ((32 - r.1 : Nat) : Int) := by decide +kernel
  exact all ⟨r, by omega⟩ h1

theorem rot_any (x : W32) (r : Nat) (h1 : 1 ≤ r) (h2 : r ≤ 31) (w : World) :
    Calls Tryd.prog 33 #[.int .u32 (wv x), .int .i64 (-(r : Int))] w fun e w' => e = .returned (.int .u32 (wv (rotr x r))) ∧ w' = w := by
  have e1 := left_of r h1 h2
  obtain ⟨l, hl⟩ : ∃ l, 32 - r = l := ⟨_, rfl⟩
  rw [hl] at e1
  have hl0 : (0 : Int) ≤ (l : Int) := by omega
  have e2 : IntKind.u64.wrap (32 - (l : Int)) = (r : Int) := by rw [IntKind.wrap_u64]; omega
  have hr0 : (0 : Int) ≤ (r : Int) := by omega
  have s3 : bits .or .u32 (wv x * 2 ^ l % 4294967296) (wv x / 2 ^ r) = wv (rotr x r) := by rw [w_shl', w_shr, w_or, rotr, BitVec.or_comm, hl]
  go_enter Tryd.func33, Tryd.ntmps33
  go_wp2
  go_ret
  exact ⟨rfl, rfl⟩

theorem rot_at (x : W32) (r : Nat) (k : Int) (hk : k = -(r : Int)) (h1 : 1 ≤ r) (h2 : r ≤ 31) (w : World) :
    Calls Tryd.prog 33 #[.int .u32 (wv x), .int .i64 k] w fun e w' => e = .returned (.int .u32 (wv (rotr x r))) ∧ w' = w := by
  subst hk
  exact rot_any x r h1 h2 w

theorem turn_any (x : W32) (r : Nat) (h1 : 1 ≤ r) (h2 : r ≤ 31) (w : World) :
    Calls Tryd.prog 23 #[.int .u32 (wv x), .int .u64 (r : Int)] w fun e w' => e = .returned (.int .u32 (wv (rotr x r))) ∧ w' = w := by
  obtain ⟨l, hl⟩ : ∃ l, 32 - r = l := ⟨_, rfl⟩
  have hl0 : (0 : Int) ≤ (l : Int) := by omega
  have e2 : IntKind.u64.wrap (32 - (r : Int)) = (l : Int) := by rw [IntKind.wrap_u64]; omega
  have hr0 : (0 : Int) ≤ (r : Int) := by omega
  have s3 : bits .or .u32 (wv x / 2 ^ r) (wv x * 2 ^ l % 4294967296) = wv (rotr x r) := by rw [w_shl', w_shr, w_or, rotr, hl]
  go_enter Tryd.func23, Tryd.ntmps23
  go_wp2
  go_ret
  exact ⟨rfl, rfl⟩
end Go.Proofs.YtffmldplchlnpaaDoor
