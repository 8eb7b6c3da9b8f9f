/- A list of things to do that comes in, in the walks' words. Conditions: the argument reads as its type asks. -/
import Derived.Test.YtahaienalidiiaaDoorDiskAny
import Derived.Test.YtahaienalidiiaaDoorOwn
import Derived.Deep.Slices
import Derived.ChangeArms
namespace Go.Proofs.YtahaienalidiiaaDoor
open Go.ChangeShapes Go.WideShapes Go.ChangeAt Go.RowKit

/-- One thing to do: kind, two numbers, two texts. -/
structure DoV where
  k : Int
  n : Int
  m : Int
  p : ByteArray
  t : ByteArray
deriving Inhabited
/-- These things lie from address ao on. -/
def DosAt (W : World) (ao : Option Addr) (xs : List DoV) : Prop := xs = [] ∨ ∃ b o, ao = some ⟨b, o, none⟩ ∧ b < W.heap.size ∧ ∀ (j : Nat) (x : DoV), xs[j]? = some x →
  W.cell? ⟨b, o + j * 5, none⟩ = some (.int .i64 x.k) ∧ W.cell? ⟨b, o + j * 5 + 1, none⟩ = some (.int .i64 x.n) ∧ W.cell? ⟨b, o + j * 5 + 2, none⟩ = some (.int .i64 x.m) ∧ W.cell? ⟨b, o + j * 5 + 3, none⟩ = some (.string x.p) ∧ W.cell? ⟨b, o + j * 5 + 4, none⟩ = some (.string x.t)
theorem DosAt.below {W W' : World} {ao : Option Addr} {xs : List DoV} (h : DosAt W ao xs) (hb : Below W.heap.size W W') : DosAt W' ao xs := by
  rcases h with h | ⟨b, o, e, hl, hc⟩
  · exact .inl h
  · refine .inr ⟨b, o, e, Nat.lt_of_lt_of_le hl hb.size, fun j x hx => ?_⟩
    obtain ⟨c0, c1, c2, c3, c4⟩ := hc j x hx
    exact ⟨(hb.cell hl).trans c0, (hb.cell hl).trans c1, (hb.cell hl).trans c2, (hb.cell hl).trans c3, (hb.cell hl).trans c4⟩
set_option maxRecDepth 100000 in
theorem slice_dos {H : Type} {enc : TypeId × Value → H} {W : World} {ao : Option Addr} {len cap : Nat} {d : DataW H} {p : List MemPlace} (h2 : DataW.Trod enc Tryd.prog W 0 (fun _ => true) true 22 (.slice ao len cap) d p) (hlt : ∀ x ∈ p, x.block < W.heap.size) :
    ∃ xs : List DoV, len = xs.length ∧ DosAt W ao xs := by
  obtain ⟨fuel, hf⟩ := h2
  rcases Go.Deep.open_slice Tryd.underlying22 hf with ⟨hcs, _⟩ | ⟨a, len', cap', m, n, D, Pl, hcs, _, hl, _, hm, hx, hel⟩
  · simp [Value.cells] at hcs
    exact ⟨[], hcs.2.1, .inl rfl⟩
  · simp [Value.cells] at hcs
    obtain ⟨rfl, rfl, rfl⟩ := hcs
    have ce : Tryd.prog.cellsOf 33 = 5 := by kernel_rfl
    simp only [ce] at hx hel
    have hp := (Prod.mk.inj hx).2
    clear hx
    subst hp
    simp only [if_true] at hm
    subst hm
    by_cases hl0 : len = 0
    · exact ⟨[], hl0, .inl rfl⟩
    · have each : ∀ i, i < m → ∃ x : DoV, W.cell? (a.add (i * 5)) = some (.int .i64 x.k) ∧ W.cell? (a.add (i * 5 + 1)) = some (.int .i64 x.n) ∧ W.cell? (a.add (i * 5 + 2)) = some (.int .i64 x.m) ∧ W.cell? (a.add (i * 5 + 3)) = some (.string x.p) ∧ W.cell? (a.add (i * 5 + 4)) = some (.string x.t) := by
        intro i hi
        obtain ⟨cs', h1, h2⟩ := hel i hi
        obtain ⟨_, hlen, hcell⟩ := World.cells?_some h1
        obtain ⟨xs, k, _, _, _, hxl, hf⟩ := DataW.trod_struct Tryd.underlying33 h2
        match cs', hlen with
        | [v0, v1, v2, v3, v4], _ =>
          match xs, hxl with
          | [y0, y1, y2, y3, y4], _ =>
            have g0 := hf 0 _ rfl
            have g1 := hf 1 _ rfl
            have g2 := hf 2 _ rfl
            have g3 := hf 3 _ rfl
            have g4 := hf 4 _ rfl
            simp [show Tryd.prog.cellsOf 3 = 1 from by kernel_rfl, show Tryd.prog.cellsOf 9 = 1 from by kernel_rfl] at g0 g1 g2 g3 g4
            have e0 := hcell 0 (by omega)
            have e1 := hcell 1 (by omega)
            have e2 := hcell 2 (by omega)
            have e3 := hcell 3 (by omega)
            have e4 := hcell 4 (by omega)
            rw [Go.Deep.add_add] at e0 e1 e2 e3 e4
            obtain ⟨z0, r0, _⟩ := DataW.trod_int Tryd.underlying3 g0
            obtain ⟨z1, r1, _⟩ := DataW.trod_int Tryd.underlying3 g1
            obtain ⟨z2, r2, _⟩ := DataW.trod_int Tryd.underlying3 g2
            obtain ⟨z3, r3, _⟩ := DataW.trod_string Tryd.underlying9 g3
            obtain ⟨z4, r4, _⟩ := DataW.trod_string Tryd.underlying9 g4
            simp only [List.cons.injEq, and_true] at r0 r1 r2 r3 r4
            subst r0 r1 r2 r3 r4
            exact ⟨⟨z0, z1, z2, z3, z4⟩, by simpa using e0, by simpa using e1, by simpa using e2, by simpa using e3, by simpa using e4⟩
      obtain ⟨q, hq⟩ := Go.Deep.choose_lt each
      obtain ⟨b, off, spot⟩ := a
      have hspot : spot = none := by simpa [Addr.add] using World.cell?_spot (hq 0 (by omega)).1
      subst hspot
      refine ⟨(List.range len).map q, by simp, .inr ⟨b, off, rfl, hlt (.cell b off) (List.mem_append_left _ (MemPlace.mem_row.2 ⟨0, by omega, by simp⟩)), fun j x hx => ?_⟩⟩
      rw [List.getElem?_map] at hx
      obtain ⟨i, hi, rfl⟩ := Option.map_eq_some_iff.1 hx
      obtain ⟨hil, hie⟩ := List.getElem?_eq_some_iff.1 hi
      rw [List.getElem_range] at hie
      subst hie
      have := hq j (by simp at hil; omega)
      simpa only [add_plain, Nat.add_assoc] using this
end Go.Proofs.YtahaienalidiiaaDoor
