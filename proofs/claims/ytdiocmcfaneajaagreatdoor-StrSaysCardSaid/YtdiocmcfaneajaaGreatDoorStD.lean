/- What Join, Replace and Count answer, said of any later world. Conditions: the words, and the errors, lie in their variables. -/
import Derived.Test.YtdiocmcfaneajaaGreatDoorStA
namespace Go.Proofs.YtdiocmcfaneajaaGreatDoor
open Go.RowKit
open Lx
namespace St

theorem Lw.below {D : Value} {tE : TypeId} {pE : Value} {m : Int} {w w' : World} (h : Lw D tE pE m w) (hb : Below w.heap.size w w') : Lw D tE pE m w' := ⟨h.cx.below hb, h.words.below hb⟩
theorem Lw.join {D : Value} {tE : TypeId} {pE : Value} {m : Int} {w : World} (h : Lw D tE pE m w) (sep : ByteArray) (ao : Option Addr) (cap n : Nat) (xs : List ByteArray) (v : Value) (hv : joinV (.iface tE pE) (joinF sep.data.toList (datas xs)) = v) (hX : Txs w ao xs) (hn : xs.length = n) (hn2 : n ≤ 100000) (hs : ∀ x ∈ xs, x.size < 1000000) (hsep : sep.size < 1000000) :
    Ans 11 #[.string sep, .slice ao n cap] v w := by
  subst hv
  exact Ans.of fun W hb => join_any D tE pE m sep ao cap n xs W hn hn2 (h.cx.below hb) (hX.below hb) hs hsep
theorem Lw.replace {D : Value} {tE : TypeId} {pE : Value} {m : Int} {w : World} (h : Lw D tE pE m w) (s old new : ByteArray) (most : Int) (v : Value) (hv : joinV (.iface tE pE) (repF s.data.toList old.data.toList new.data.toList (s.size + 2) most 0 0) = v) (hs : s.size ≤ 100000) (hold : old.size ≤ 100000) (hnew : new.size ≤ 100000) :
    Ans 13 #[.string s, .string old, .string new, .int .i64 most] v w := by
  subst hv
  exact Ans.of fun W hb => replace_any D tE pE m s old new most W (h.cx.below hb) hs hold hnew
theorem Lw.count {D : Value} {tE : TypeId} {pE : Value} {m : Int} {w : World} (h : Lw D tE pE m w) (s t : ByteArray) (n : Nat) (hn : countF s.data.toList t.data.toList = n) (hs : s.size ≤ 1000000) :
    Ans 23 #[.string s, .string t] (.int .i64 (n : Int)) w := by
  subst hn
  exact Ans.still fun W hb => count_any m s t hs W (h.cx.below hb).max
end St
end Go.Proofs.YtdiocmcfaneajaaGreatDoor
