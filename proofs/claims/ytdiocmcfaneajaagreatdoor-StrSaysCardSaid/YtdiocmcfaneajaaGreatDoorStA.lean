/- What the package answers, said of any later world. Conditions: the words, and the errors, lie in their variables. -/
import Derived.Test.YtdiocmcfaneajaaGreatDoorStH
import Derived.Test.YtdiocmcfaneajaaGreatDoorStU
namespace Go.Proofs.YtdiocmcfaneajaaGreatDoor
open Go.RowKit
open Lx
namespace St

/-- Called in whatever world that came out of w, f answers v, and all that was stays. -/
abbrev Ans (f : FuncId) (args : Array Value) (v : Value) (w : World) : Prop := ∀ W, Below w.heap.size w W → Calls Tryz.prog f args W fun e w' => e = .returned v ∧ Below w.heap.size w w'
theorem Ans.of {f : FuncId} {args : Array Value} {v : Value} {w : World} (h : ∀ W, Below w.heap.size w W → Calls Tryz.prog f args W fun e w' => e = .returned v ∧ Below W.heap.size W w') : Ans f args v w := fun W hb => (h W hb).mono fun _ _ ⟨h1, h2⟩ => ⟨h1, hb.trans (h2.mono hb.size)⟩
theorem Ans.still {f : FuncId} {args : Array Value} {v : Value} {w : World} (h : ∀ W, Below w.heap.size w W → Calls Tryz.prog f args W fun e w' => e = .returned v ∧ w' = W) : Ans f args v w := fun W hb => (h W hb).mono fun _ _ ⟨h1, h2⟩ => ⟨h1, h2 ▸ hb⟩
/-- What the laws look at. -/
structure Lw (D : Value) (tE : TypeId) (pE : Value) (m : Int) (w : World) : Prop where
  cx : Cx D (.iface tE pE) m w
  words : WordsAt w
theorem Lw.first {D : Value} {tE : TypeId} {pE : Value} {m : Int} {w : World} (h : Lw D tE pE m w) : Ans 5 #[] (.bool true) w := Ans.of fun _ hb => first_any (h.cx.below hb) (h.words.below hb)
theorem cut_ans (w : World) (n : Nat) (i j : Int) (has til : Bool) (a b : Nat) (ha : fromF n i has = a) (hb : toF n i j has til = b) (hn : n ≤ 1000000) (h1 : -9223372036854775808 ≤ i) (h2 : i ≤ 9223372036854775807) (h3 : -9223372036854775808 ≤ j) (h4 : j ≤ 9223372036854775807) :
    Ans 17 #[.int .i64 (n : Int), .int .i64 i, .int .i64 j, .bool has, .bool til] (.tuple #[.int .i64 (a : Int), .int .i64 (b : Int)]) w := by
  subst ha hb
  exact Ans.still fun W _ => cut_any n i j has til hn h1 h2 h3 h4 W
theorem strip_ans (w : World) (s t : ByteArray) (l r : Bool) (T : ByteArray) (hT : txt (stripF (setF t.data.toList).contains l r s.data.toList) = T) (hs : s.size ≤ 100000) (ht : t.size ≤ 100000) : Ans 25 #[.string s, .string t, .bool l, .bool r] (.string T) w := by
  subst hT
  exact Ans.of fun W _ => strip_any s t l r W hs ht
theorem Lw.find {D : Value} {tE : TypeId} {pE : Value} {m : Int} {w : World} (h : Lw D tE pE m w) (s t : ByteArray) (i j x : Int) (hx : findF s.data.toList t.data.toList i j = x) (hs : s.size ≤ 1000000) (h1 : -9223372036854775808 ≤ i) (h2 : i ≤ 9223372036854775807) (h3 : -9223372036854775808 ≤ j) (h4 : j ≤ 9223372036854775807) :
    Ans 21 #[.string s, .string t, .int .i64 i, .int .i64 j] (.int .i64 x) w := by
  subst hx
  exact Ans.still fun W hb => find_any D _ m s t i j hs h1 h2 h3 h4 W (h.cx.below hb)
theorem upper_ans (w : World) (s U : ByteArray) (hU : txt (s.data.toList.map upB) = U) (hs : s.size ≤ 100000) : Ans 27 #[.string s] (.string U) w := by
  subst hU
  exact Ans.of fun W _ => upper_any s W hs
theorem lower_ans (w : World) (s U : ByteArray) (hU : txt (s.data.toList.map loB) = U) (hs : s.size ≤ 100000) : Ans 29 #[.string s] (.string U) w := by
  subst hU
  exact Ans.of fun W _ => lower_any s W hs
end St
end Go.Proofs.YtdiocmcfaneajaaGreatDoor
