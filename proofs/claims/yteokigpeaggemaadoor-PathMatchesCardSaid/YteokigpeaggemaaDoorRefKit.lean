/- An append of one element to a slice that the call itself made, in a plain walk: what is owned behind it, and that old memory stays. Conditions: those of the library's law on append. -/
import Derived.Test.YteokigpeaggemaaDoorStack
import Derived.WalkSmall
import Derived.Laws.OwnMore
import Derived.RangeFuncBox
import Derived.Maps.AppendAt
namespace Go.Proofs.YteokigpeaggemaaDoor
open Go.RowKit

theorem append_one {P : Program} {ops : Array Oper} {rest : List Oper} {o : Oper} {a : Act} {Q : Exit → Act → World → Prop} {W1 : World} (w : World) (hgd : o.guard = none) (s x : Operand) (t : TypeId)
    (ho : o.op = .call { callee := .builtin .append, args := #[s, x], argTypes := #[t, t] }) (base : Nat) (e : TypeId) (i : TypeInfo) (z : Value) (bytes : Nat) (ht : P.underlying t = some (.slice e)) (hi : P.info? e = some i) (hz : i.zero = some z)
    (hsize : i.size = 1) (hby : i.bytes = bytes) (hzs : z.cells.size = 1) (v : Value) (n : Nat) (xs : List Value) (hs : a.eval s = v) (hown : w.ownsRow base e 1 v n xs) (u : Value) (hW : W1 = w.alloc (.cells #[u] e))
    (hx : a.eval x = .slice (some ⟨w.heap.size, 0, none⟩) 1 1) (h1 : u.oneCell' = true) (hbytes : (n + 1) * bytes ≤ 140737488355328) (h63 : n + 1 ≤ maxLen) (hbase : base ≤ w.heap.size) (B : Nat) (w0 : World) (hb : Below B w0 w) (hB : B ≤ base)
    (h : ∀ g cap w', w'.ownsRow base e 1 (.slice (some ⟨g, 0, none⟩) (n + 1) cap) (n + 1) (xs ++ [u]) → Below B w0 w' → base ≤ w'.heap.size → wpList P ops Q rest (a.put o.dst (.slice (some ⟨g, 0, none⟩) (n + 1) cap)) w') :
    wpList P ops Q (o :: rest) a W1 := by
  subst hW
  refine wpList_append_own (w.alloc (.cells #[u] e)) hgd s x t ho base e i z 1 bytes ht hi hz hsize hby hzs (by decide) v n xs hs (hown.alloc _) ⟨w.heap.size, 0, none⟩ 1 1 [u] hx rfl (cell_one_new _ _ _) (fun y hy => by simp at hy; subst hy; exact h1) h63 hbytes (by simp; omega) ?_
  intro v' w' hown' hg _
  obtain ⟨g, cap, rfl⟩ := ownsRow_succ hown'
  refine h g cap w' hown' ((hb.alloc (Nat.le_trans hB hbase) _).grown hg (by simp; omega) fun k hk => ?_) ?_
  · exact Nat.le_trans hB (hown.lt k hk).1
  · have := hg.size; simp at this; omega

/-- Texts as cells. -/
def textsV (ps : List (List UInt8)) : List Value := ps.map fun p => Value.string ⟨p.toArray⟩
theorem textsV_len (ps : List (List UInt8)) : (textsV ps).length = ps.length := by simp [textsV]
theorem textsV_snoc (ps : List (List UInt8)) (s : ByteArray) : textsV ps ++ [.string s] = textsV (ps ++ [s.data.toList]) := by simp [textsV]
theorem textsV_at (ps : List (List UInt8)) (j : Nat) (h : j < ps.length) : (textsV ps)[j]? = some (.string ⟨ps[j].toArray⟩) := by simp [textsV, h]
theorem info_string : (Tryd.prog.info? 9).map (fun i => (i.zero, i.size, i.bytes)) = some (some (.string ⟨#[]⟩), 1, 16) := by kernel_rfl

end Go.Proofs.YteokigpeaggemaaDoor
