/- What path.Join answers at every list of texts: what path.Clean answers at the texts with strokes between. Conditions: fewer than 2^31 bytes in all; internal/bytealg.MaxLen holds some number, smithy/api.ErrPath an error. -/
import Derived.Test.YteokigpeaggemaaDoorClean
import Derived.Test.YteokigpeaggemaaDoorStack
namespace Go.Proofs.YteokigpeaggemaaDoor
open Go.RowKit

def glueB (xs : List ByteArray) : ByteArray := ⟨(Stk.glue (xs.map (·.data.toList))).toArray⟩
theorem cleanPost.trans {ev : Value} {s : ByteArray} {w w1 w2 : World} {e : Ending} (hb : Below w.heap.size w w1) (h : cleanPost ev s w1 e w2) : cleanPost ev s w e w2 :=
  ⟨h.1, hb.trans (h.2.mono hb.size)⟩

set_option maxHeartbeats 400000 in
theorem Join_any (et : TypeId) (ex : Value) (bk o c : Nat) (xs : List ByteArray) (w : World) (hcells : ∀ (j : Nat) x, xs[j]? = some x → w.cell? ⟨bk, o + j, none⟩ = some (.string x)) (hbk : bk < w.heap.size) (hcap : xs.length ≤ c) (hn : xs.length < 2147483648) (hlen : (glueB xs).size < 2147483648) (hR : Ready (.iface et ex) w) :
    Calls Tryd.prog 12 #[.slice (some ⟨bk, o, none⟩) xs.length c] w (cleanPost (.iface et ex) (glueB xs) w) := by
  have HJ : Hid (Calls Tryd.prog 40 #[.slice (some ⟨bk, o, none⟩) xs.length c, .string ⟨#[47]⟩] w fun e w' => e = .returned (.string (glueB xs)) ∧ Below w.heap.size w w') := Lib.hid (Tryd.strings_Join bk o c xs ⟨#[47]⟩ w hcells hbk (by omega) hcap (by
    have h : (glueB xs).size = (Lib.join (xs.map (·.data.toList)) [47]).length := by rw [Lib.size_eq]; rfl
    show (Lib.join (xs.map (·.data.toList)) [47]).length ≤ _
    omega))
  have HC := Lib.hid (fun W (hW : Ready (.iface et ex) W) => Clean_any et ex (glueB xs) W hlen hW)
  clear hcells
  go_enter Tryd.func12, Tryd.ntmps12
  go_wp2_with fail
  refine HJ.out.mono ?_
  rintro e w1 ⟨rfl, hb1⟩
  have R1 := hR.below hb1
  have HB := Lib.hid hb1
  clear HJ hb1
  go_wp2_with fail
  refine (HC.out w1 R1).mono ?_
  rintro e w2 ⟨rfl, hb2⟩
  have HB2 := Lib.hid (HB.out.trans (hb2.mono HB.out.size))
  clear hb2
  unfold cleanPost
  cases hc : Cln.clean (glueB xs).data.toList with
  | none =>
    dsimp only
    go_wp2
    go_ret2
    exact ⟨by rw [hc]; rfl, HB2.out⟩
  | some l =>
    dsimp only
    go_wp2
    go_ret2
    exact ⟨by rw [hc]; rfl, HB2.out⟩

set_option maxHeartbeats 400000 in
theorem Join_none (et : TypeId) (ex : Value) (a : Option Addr) (c : Nat) (w : World) (hR : Ready (.iface et ex) w) :
    Calls Tryd.prog 12 #[.slice a 0 c] w (cleanPost (.iface et ex) (glueB []) w) := by
  have HJ : Hid (Calls Tryd.prog 40 #[.slice a 0 c, .string ⟨#[47]⟩] w fun e w' => e = .returned (.string (glueB [])) ∧ w' = w) := Lib.hid (Tryd.strings_Join_none a c ⟨#[47]⟩ w)
  have HC := Lib.hid (Clean_any et ex (glueB []) w (by decide) hR)
  go_enter Tryd.func12, Tryd.ntmps12
  go_wp2_with fail
  refine HJ.out.mono ?_
  rintro e w1 ⟨rfl, rfl⟩
  clear HJ
  go_wp2_with fail
  refine HC.out.mono ?_
  rintro e w2 ⟨rfl, hb2⟩
  have HB2 := Lib.hid hb2
  clear hb2
  unfold cleanPost
  cases hc : Cln.clean (glueB []).data.toList with
  | none =>
    dsimp only
    go_wp2
    go_ret2
    exact ⟨by rw [hc]; rfl, HB2.out⟩
  | some l =>
    dsimp only
    go_wp2
    go_ret2
    exact ⟨by rw [hc]; rfl, HB2.out⟩

end Go.Proofs.YteokigpeaggemaaDoor
